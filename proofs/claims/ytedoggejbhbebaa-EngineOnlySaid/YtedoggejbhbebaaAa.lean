/-
  Contracts of aes.twice, aes.Times, math/bits.RotateLeft8 and aes.spread. Conditions: the numbers are bytes.
-/
import Derived.Test.YtedoggejbhbebaaRows
import Derived.Test.YtedoggejbhbebaaAesKeys
import Derived.WalkKit
import Derived.ProofKit
import Derived.OpenShut
import Derived.WalkSpells
import Derived.WalkLawsBesides
import Derived.Outline
import Derived.Lib.Hide
import Derived.Laws.BitsAllLaws
import Derived.Laws.Externs
import Derived.RegionTactic
import Derived.ChangeAlike
namespace Go.Proofs.Ytedoggejbhbebaa
namespace Aes
open Go.ChangeShapes Go.WideShapes Go.ChangeAt Go.RowKit
open Gf
set_option linter.unusedVariables false

theorem xt_parts : ∀ a < 256, (a * 2 % 256) ^^^ (a / 128 * 27) = xt 8 27 a := by decide +kernel
theorem xt8_lt (a : Nat) : xt 8 27 a < 256 := xt_lt 8 27 p8 a

theorem twice_any (a : Nat) (w : World) (ha : a < 256) :
    Calls Try.prog 95 #[.int .u8 a] w fun e w' => e = .returned (.int .u8 (xt 8 27 a : Nat)) ∧ w' = w := by
  obtain ⟨h, hh⟩ : ∃ h, h = a / 128 := ⟨_, rfl⟩
  obtain ⟨s, hs⟩ : ∃ s, s = a * 2 % 256 := ⟨_, rfl⟩
  obtain ⟨p, hp⟩ : ∃ p, p = h * 27 := ⟨_, rfl⟩
  have q1 : (a : Int) / 128 = (h : Int) := by omega
  have q2 : IntKind.u8.wrap ((a : Int) * 2) = (s : Int) := by rw [IntKind.wrap_u8]; omega
  have q3 : IntKind.u8.wrap ((h : Int) * 27) = (p : Int) := by rw [IntKind.wrap_u8]; omega
  have q4 := u8_xor_nat s p (by omega) (by omega)
  have e := xt_parts a ha
  rw [← hs, ← hh, ← hp] at e
  rw [e] at q4
  clear hs hp hh e
  generalize xt 8 27 a = R at *
  have HA := Lib.hid ha; clear ha
  go_enter Try.func95, Try.ntmps95
  go_wp2
  go_ret
  exact ⟨rfl, rfl⟩

theorem bit0 (b : Nat) : b.testBit 0 = decide (b % 2 = 1) := by simp

set_option maxHeartbeats 1000000 in
theorem times_any (a0 b0 : Nat) (w : World) (ha : a0 < 256) (hb : b0 < 256) :
    Calls Try.prog 100 #[.int .u8 a0, .int .u8 b0] w fun e w' => e = .returned (.int .u8 (times a0 b0 : Nat)) ∧ w' = w := by
  obtain ⟨R, hR⟩ : ∃ R, R = times a0 b0 := ⟨_, rfl⟩
  rw [← hR]
  have HR := Lib.hid hR; clear hR
  go_enter Try.func100, Try.ntmps100
  go_wp2
  go_loop [0, 1, 5] (fun v0 v1 v5 => ∃ a b p k : Nat, a < 256 ∧ k ≤ 8 ∧ b < 2 ^ k ∧ p < 256 ∧ v0 = .int .u8 a ∧ v1 = .int .u8 b ∧ v5 = .int .u8 p ∧ p ^^^ op 8 27 k b a = R) (fun _ v1 _ => (intOf v1).toNat)
  case atStart => exact ⟨a0, b0, 0, 8, ha, Nat.le_refl _, hb, by decide, rfl, rfl, rfl, by rw [HR.out, Nat.zero_xor]; rfl⟩
  case round =>
    obtain ⟨a, b, p, k, hal, hk, hbl, hpl, rfl, rfl, rfl, hop⟩ := hrel
    rcases Nat.eq_zero_or_pos b with h0 | h0
    · have hp : p = R := by rw [← hop, h0, op_none, Nat.xor_zero]
      subst hp
      have HO := Lib.hid hop; clear hop hbl
      subst h0
      go_wp2
      go_ret
      exact ⟨rfl, rfl⟩
    · obtain ⟨k, rfl⟩ : ∃ j, k = j + 1 := by
        rcases k with _ | k
        · simp at hbl; omega
        · exact ⟨k, rfl⟩
      have hb2 : b / 2 < 2 ^ k := by rw [Nat.pow_succ] at hbl; omega
      have hb8 : b < 256 := Nat.lt_of_lt_of_le hbl (Nat.pow_le_pow_right (n := 2) (by decide) hk)
      rw [op, bit0, ← Nat.xor_assoc] at hop
      obtain ⟨c, hc⟩ : ∃ c, c = b / 2 := ⟨_, rfl⟩
      rw [← hc] at hop hb2
      have ht := fun X => twice_any a X hal
      have hx := xt8_lt a
      have q0 := u8_and_nat b 1 hb8 (by decide)
      rw [nat_mask1] at q0
      have q0' : bits .and .u8 (b : Int) 1 = ((b % 2 : Nat) : Int) := q0
      have q1 : (b : Int) / 2 = (c : Int) := by omega
      have hpos : (0 : Int) < (b : Int) := by omega
      have hlt : c < b := by omega
      have HOP := Lib.hid hop; clear hop
      have HT := Lib.hid ht; clear ht
      have HX := Lib.hid (And.intro hx (And.intro hb2 hk)); clear hx hb2 hk hc
      have HL := Lib.hid (And.intro hal (And.intro hpl hlt))
      rcases Nat.mod_two_eq_zero_or_one b with h | h
      · rw [h] at q0'
        have HH := Lib.hid h; clear h q0 hlt
        have q2 : IntKind.u8.wrap ((0 : Int) * (a : Int)) = 0 := by rw [IntKind.wrap_u8]; omega
        have q3 := u8_xor_nat p 0 hpl (by decide)
        rw [Nat.xor_zero] at q3
        have q3' : bits .xor .u8 (p : Int) 0 = (p : Int) := q3
        clear q3 hpl hal hbl hb8
        go_wp2_with fail
        refine (HT.out _).mono ?_
        rintro e w' ⟨rfl, rfl⟩
        go_wp2
        go_round
        case rel => exact ⟨xt 8 27 a, c, p, k, HX.out.1, by have := HX.out.2.2; omega, HX.out.2.1, HL.out.2.1, rfl, rfl, rfl, by rw [← HOP.out, HH.out]; simp [sel]⟩
        case measure => have := HL.out.2.2; simp [intOf]; omega
      · rw [h] at q0'
        have HH := Lib.hid h; clear h q0 hlt
        have q2 : IntKind.u8.wrap (a : Int) = (a : Int) := by rw [IntKind.wrap_u8]; omega
        have q2' : (a : Int) % 256 = (a : Int) := by omega
        have q3 := u8_xor_nat p a hpl hal
        have hz : p ^^^ a < 256 := Nat.xor_lt_two_pow (n := 8) hpl hal
        have HZ := Lib.hid hz; clear hz
        clear hpl hal hbl hb8
        go_wp2_with fail
        refine (HT.out _).mono ?_
        rintro e w' ⟨rfl, rfl⟩
        go_wp2
        go_round
        case rel => exact ⟨xt 8 27 a, c, p ^^^ a, k, HX.out.1, by have := HX.out.2.2; omega, HX.out.2.1, HZ.out, rfl, rfl, rfl, by rw [← HOP.out, HH.out]; simp [sel]⟩
        case measure => have := HL.out.2.2; simp [intOf]; omega

/-! ### spread -/

def rotl (x k : Nat) : Nat := x * 2 ^ k % 256 ||| x / 2 ^ (8 - k)
def spreadTo (x : Nat) : Nat → Nat
  | 0 => 99
  | k + 1 => spreadTo x k ^^^ rotl x k
theorem spread_table : ∀ x < 256, spreadTo x 5 = subTo x 8 := by decide +kernel
theorem rotl_lt {x k : Nat} (hx : x < 256) : rotl x k < 256 :=
  Nat.or_lt_two_pow (n := 8) (Nat.mod_lt _ (by decide)) (Nat.lt_of_le_of_lt (Nat.div_le_self _ _) hx)
theorem spreadTo_lt {x : Nat} (hx : x < 256) (k : Nat) : spreadTo x k < 256 := by
  induction k with
  | zero => show 99 < 256; decide
  | succ k ih => exact Nat.xor_lt_two_pow (n := 8) ih (rotl_lt hx)

theorem rot_any (x k : Nat) (w : World) (hx : x < 256) (hk : k < 8) :
    Calls Try.prog 96 #[.int .u8 x, .int .i64 k] w fun e w' => e = .returned (.int .u8 (rotl x k : Nat)) ∧ w' = w := by
  obtain ⟨m, hm⟩ : ∃ m, m = 8 - k := ⟨_, rfl⟩
  obtain ⟨q, hq⟩ : ∃ q, q = x / 2 ^ m := ⟨_, rfl⟩
  obtain ⟨s, hs⟩ : ∃ s, s = x * 2 ^ k % 256 := ⟨_, rfl⟩
  have e0 : IntKind.u64.wrap (k : Int) = (k : Int) := by rw [IntKind.wrap_u64]; omega
  have e1 := u64_and_nat k 7 (by omega) (by decide)
  rw [nat_mask3, Nat.mod_eq_of_lt hk] at e1
  have e1' : bits .and .u64 (k : Int) 7 = (k : Int) := e1
  have e2 : IntKind.u64.wrap (8 - (k : Int)) = (m : Int) := by rw [IntKind.wrap_u64]; omega
  have e3 : (x : Int) / 2 ^ m = (q : Int) := by rw [hq, Int.natCast_ediv]; simp
  have e4 : IntKind.u8.wrap ((x : Int) * 2 ^ k) = (s : Int) := by rw [hs, IntKind.wrap_u8]; simp
  have hr : s ||| q = rotl x k := by rw [hq, hs, hm]; rfl
  have e5 := u8_or_nat s q (by rw [hs]; exact Nat.mod_lt _ (by decide)) (by rw [hq]; exact Nat.lt_of_le_of_lt (Nat.div_le_self _ _) hx)
  rw [hr] at e5
  have hm2 : (m : Int) ≤ 8 := by omega
  have hk2 : (k : Int) ≤ 7 := by omega
  clear hq hs hm hr hx hk e1
  generalize rotl x k = R at *
  go_enter Try.func96, Try.ntmps96
  go_wp2
  go_ret
  exact ⟨rfl, rfl⟩

set_option maxHeartbeats 1000000 in
theorem spread_any (x : Nat) (w : World) (hx : x < 256) :
    Calls Try.prog 74 #[.int .u8 x] w fun e w' => e = .returned (.int .u8 (subTo x 8 : Nat)) ∧ w' = w := by
  rw [← spread_table x hx]
  obtain ⟨S, hS⟩ : ∃ S, S = spreadTo x := ⟨_, rfl⟩
  have h0 : S 0 = 99 := by rw [hS]; rfl
  have hs : ∀ k, S (k + 1) = S k ^^^ rotl x k := by intro k; rw [hS]; rfl
  have hl : ∀ k, S k < 256 := by intro k; rw [hS]; exact spreadTo_lt hx k
  have hr : ∀ k, rotl x k < 256 := fun k => rotl_lt hx
  rw [← hS]
  have HC := Lib.hid (fun k X (hk : k < 8) => rot_any x k X hx hk)
  have H := Lib.hid (And.intro h0 (And.intro hs (And.intro hl hr)))
  clear h0 hs hl hr hS hx
  go_enter Try.func74, Try.ntmps74
  go_wp2
  go_loop [3, 5] (fun v3 v5 => ∃ k : Nat, k ≤ 5 ∧ v5 = .int .i64 k ∧ v3 = .int .u8 (S k : Nat)) (fun _ v5 => 5 - (intOf v5).toNat)
  case atStart => exact ⟨0, by decide, rfl, by rw [H.out.1]; rfl⟩
  case round =>
    obtain ⟨k, hk, rfl, rfl⟩ := hrel
    by_cases hlt : k < 5
    · have q := u8_xor_nat (S k) (rotl x k) (H.out.2.2.1 k) (H.out.2.2.2 k)
      rw [← H.out.2.1 k] at q
      go_wp2_with fail
      refine (HC.out k _ (by omega)).mono ?_
      rintro e w' ⟨rfl, rfl⟩
      go_wp2
      go_round
      case rel => exact ⟨k + 1, by omega, by go_num, rfl⟩
      case measure => simp [intOf]; omega
    · obtain rfl : k = 5 := by omega
      go_wp2
      go_ret
      exact ⟨rfl, rfl⟩

end Aes
end Go.Proofs.Ytedoggejbhbebaa
