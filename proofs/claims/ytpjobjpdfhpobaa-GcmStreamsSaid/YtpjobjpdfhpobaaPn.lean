/-
  Contract of gcm.next. Conditions: the halves have 64 bits.
-/
import Derived.Test.YtpjobjpdfhpobaaPd
namespace Go.Proofs.Ytpjobjpdfhpobaa
namespace Gcm
open Go.ChangeShapes Go.WideShapes Go.ChangeAt Go.RowKit Go.Great Go.ChangeMaps
open Gf Aes
set_option linter.unusedVariables false
set_option maxRecDepth 100000

/-- A counter block's number, with n more. -/
def countN (f n : Nat) : Nat := f / 2 ^ 32 * 2 ^ 32 + (f + n) % 2 ^ 32
theorem countN_zero (f : Nat) : countN f 0 = f := by unfold countN; omega
theorem countN_next (f n : Nat) : countN (countN f n) 1 = countN f (n + 1) := by unfold countN; omega
theorem countN_lt {f : Nat} (h : f < 2 ^ 128) (n : Nat) : countN f n < 2 ^ 128 := by unfold countN; omega
/-- As the reference says it. -/
theorem bytes_countN {f : List Nat} (hf : f.length = 16) (hs : Small f) (n : Nat) : bytes 16 (countN (big f) n) = counterL f n := by
  have h12 : (f.take 12).length = 12 := by rw [List.length_take, hf]; rfl
  have h4 : (f.drop 12).length = 4 := by rw [List.length_drop, hf]
  have e : big f = big (f.take 12) * 2 ^ 32 + big (f.drop 12) := by
    conv => lhs; rw [← List.take_append_drop 12 f]
    rw [big_append, h4]
  have l4 : big (f.drop 12) < 2 ^ 32 := by
    have := big_lt _ (hs.drop 12)
    rw [h4] at this
    exact this
  have e2 : countN (big f) n = big (counterL f n) := by
    rw [counterL, big_append, bytes_length, big_bytes_mod, e]
    unfold countN
    rw [show (256 : Nat) ^ 4 = 2 ^ 32 by decide]
    omega
  rw [e2]
  have := bytes_big (counterL f n) (counterL_small hs n)
  rw [counterL_length hf] at this
  exact this

theorem count_whole (a b : Nat) (hb : b < 2 ^ 64) : countN (whole a b) 1 = whole a (b / 2 ^ 32 * 2 ^ 32 + (b + 1) % 2 ^ 32) := by unfold countN whole; omega
theorem or_low (q c : Nat) (hc : c < 2 ^ 32) : q * 2 ^ 32 ||| c = q * 2 ^ 32 + c := by
  have := Nat.two_pow_add_eq_or_of_lt (i := 32) (b := c) hc q
  rw [Nat.mul_comm q]
  exact this.symm

set_option maxHeartbeats 2000000 in
theorem next_any (a b : Nat) (w : World) (ha : a < 2 ^ 64) (hb : b < 2 ^ 64) :
    Calls Try.prog 42 #[.agg #[.int .u64 (a : Nat), .int .u64 (b : Nat)]] w fun e w' => ∃ h l : Nat, h < 2 ^ 64 ∧ l < 2 ^ 64 ∧ whole h l = countN (whole a b) 1 ∧ e = .returned (.agg #[.int .u64 (h : Nat), .int .u64 (l : Nat)]) ∧ Below w.heap.size w w' := by
  obtain ⟨l, hl⟩ : ∃ l, l = b / 2 ^ 32 * 2 ^ 32 + (b + 1) % 2 ^ 32 := ⟨_, rfl⟩
  have e1 := bits_or_u64_nat (b / 2 ^ 32 * 2 ^ 32) ((b + 1) % 2 ^ 32) (by omega) (by omega)
  rw [or_low _ _ (Nat.mod_lt _ (by decide)), ← hl] at e1
  have e2 : (b : Int) / 4294967296 * 4294967296 = ((b / 2 ^ 32 * 2 ^ 32 : Nat) : Int) := by omega
  have e3 : ((b : Int) + 1) % 4294967296 = (((b + 1) % 2 ^ 32 : Nat) : Int) := by omega
  have H := Lib.hid (And.intro e2 (And.intro e3 e1))
  have HL := Lib.hid (show a < 2 ^ 64 ∧ l < 2 ^ 64 ∧ whole a l = countN (whole a b) 1 from ⟨ha, by omega, by rw [count_whole a b hb, hl]⟩)
  clear e1 e2 e3 hl ha
  go_enter Try.func42, Try.ntmps42
  go_wp2
  rw [H.out.1, H.out.2.1, H.out.2.2]
  exact ret_blk rfl rfl (second_new w _ _) ⟨a, l, HL.out.1, HL.out.2.1, HL.out.2.2, rfl, below_alloc (below_alloc (Below.refl _ _) _) _⟩

end Gcm
end Go.Proofs.Ytpjobjpdfhpobaa
