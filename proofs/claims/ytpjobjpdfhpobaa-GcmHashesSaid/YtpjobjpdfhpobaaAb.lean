/-
  Contracts of the reference's Times, Inverse, bit and Sub, as numbers. Conditions: the numbers are bytes.
-/
import Derived.Test.YtpjobjpdfhpobaaAa
namespace Go.Proofs.Ytpjobjpdfhpobaa
namespace Aes
open Go.ChangeShapes Go.WideShapes Go.ChangeAt Go.RowKit
open Gf
set_option linter.unusedVariables false

theorem i64_xor_nat (a b : Nat) (ha : a < 65536) (hb : b < 65536) : bits .xor .i64 (a : Int) (b : Int) = ((a ^^^ b : Nat) : Int) := by
  have hx : a ^^^ b < 2 ^ 16 := Nat.xor_lt_two_pow (by omega) (by omega)
  show IntKind.i64.wrap ((BitVec.ofInt 64 (a : Int) ^^^ BitVec.ofInt 64 (b : Int)).toNat : Int) = _
  rw [BitVec.toNat_xor, ofInt_u64 a (by omega), ofInt_u64 b (by omega), IntKind.wrap_i64]
  omega

theorem xt_low : ∀ a < 128, xt 8 27 a = a * 2 := by decide +kernel
theorem xt_high : ∀ a < 256, 128 ≤ a → xt 8 27 a = (a * 2) ^^^ 283 := by decide +kernel

set_option maxHeartbeats 2000000 in
theorem rtimes_any (a0 b0 : Nat) (w : World) (ha : a0 < 256) (hb : b0 < 256) :
    Calls Try.prog 59 #[.int .i64 a0, .int .i64 b0] w fun e w' => e = .returned (.int .i64 (times a0 b0 : Nat)) ∧ w' = w := by
  obtain ⟨R, hR⟩ : ∃ R, R = times a0 b0 := ⟨_, rfl⟩
  rw [← hR]
  have HR := Lib.hid hR; clear hR
  go_enter Try.func59, Try.ntmps59
  go_wp2
  go_loop [0, 1, 5, 6] (fun v0 v1 v5 v6 => ∃ a b p j k : Nat, a < 256 ∧ j + k = 8 ∧ b < 256 ∧ p < 256 ∧ v0 = .int .i64 a ∧ v1 = .int .i64 b ∧ v5 = .int .i64 p ∧ v6 = .int .i64 j ∧ p ^^^ op 8 27 k b a = R) (fun _ _ _ v6 => 8 - (intOf v6).toNat)
  case atStart => exact ⟨a0, b0, 0, 0, 8, ha, rfl, hb, by decide, rfl, rfl, rfl, rfl, by rw [HR.out, Nat.zero_xor]; rfl⟩
  case round =>
    obtain ⟨a, b, p, j, k, hal, hjk, hbl, hpl, rfl, rfl, rfl, rfl, hop⟩ := hrel
    by_cases hlt : j < 8
    · obtain ⟨k, rfl⟩ : ∃ i, k = i + 1 := ⟨k - 1, by omega⟩
      rw [op, bit0, ← Nat.xor_assoc] at hop
      obtain ⟨c, hc⟩ : ∃ c, c = b / 2 := ⟨_, rfl⟩
      rw [← hc] at hop
      have q1 : (b : Int) / 2 = (c : Int) := by omega
      obtain ⟨s, hs⟩ : ∃ s, s = a * 2 := ⟨_, rfl⟩
      have q2 : (a : Int) * 2 = (s : Int) := by omega
      have q3 := i64_xor_nat p a (by omega) (by omega)
      have q4 : bits .xor .i64 (s : Int) 283 = ((s ^^^ 283 : Nat) : Int) := i64_xor_nat s 283 (by omega) (by decide)
      have hx := xt8_lt a
      have hz : p ^^^ a < 256 := Nat.xor_lt_two_pow (n := 8) hpl hal
      have hcl : c < 256 := by omega
      have HOP := Lib.hid hop; clear hop
      have HF := Lib.hid (And.intro hx (And.intro hz (And.intro hcl (And.intro hjk hpl)))); clear hx hz hcl hjk
      have r2 : (b : Int) % 2 = ((b % 2 : Nat) : Int) := by omega
      rcases Nat.mod_two_eq_zero_or_one b with h | h
      · rw [h] at r2
        have HH := Lib.hid h; clear h
        by_cases h7 : a < 128
        · have e := xt_low a h7
          rw [← hs] at e
          have HE := Lib.hid e; clear e
          have g1 : ¬ (256 : Int) ≤ (s : Int) := by omega
          clear hs hc q3 q4 h7
          go_wp2
          go_round
          case rel => exact ⟨s, c, p, j + 1, k, by rw [← HE.out]; exact HF.out.1, by have := HF.out.2.2.2.1; omega, HF.out.2.2.1, HF.out.2.2.2.2, rfl, rfl, rfl, by go_num, by rw [← HOP.out, HH.out, HE.out]; simp [sel]⟩
          case measure => simp [intOf]; omega
        · have e := xt_high a hal (by omega)
          rw [← hs] at e
          have HE := Lib.hid e; clear e
          have g1 : (256 : Int) ≤ (s : Int) := by omega
          clear hs hc q3 h7
          go_wp2
          go_round
          case rel => exact ⟨s ^^^ 283, c, p, j + 1, k, by rw [← HE.out]; exact HF.out.1, by have := HF.out.2.2.2.1; omega, HF.out.2.2.1, HF.out.2.2.2.2, rfl, rfl, rfl, by go_num, by rw [← HOP.out, HH.out, HE.out]; simp [sel]⟩
          case measure => simp [intOf]; omega
      · rw [h] at r2
        have HH := Lib.hid h; clear h
        by_cases h7 : a < 128
        · have e := xt_low a h7
          rw [← hs] at e
          have HE := Lib.hid e; clear e
          have g1 : ¬ (256 : Int) ≤ (s : Int) := by omega
          clear hs hc q4 h7
          go_wp2
          go_round
          case rel => exact ⟨s, c, p ^^^ a, j + 1, k, by rw [← HE.out]; exact HF.out.1, by have := HF.out.2.2.2.1; omega, HF.out.2.2.1, HF.out.2.1, rfl, rfl, rfl, by go_num, by rw [← HOP.out, HH.out, HE.out]; simp [sel]⟩
          case measure => simp [intOf]; omega
        · have e := xt_high a hal (by omega)
          rw [← hs] at e
          have HE := Lib.hid e; clear e
          have g1 : (256 : Int) ≤ (s : Int) := by omega
          clear hs hc h7
          go_wp2
          go_round
          case rel => exact ⟨s ^^^ 283, c, p ^^^ a, j + 1, k, by rw [← HE.out]; exact HF.out.1, by have := HF.out.2.2.2.1; omega, HF.out.2.2.1, HF.out.2.1, rfl, rfl, rfl, by go_num, by rw [← HOP.out, HH.out, HE.out]; simp [sel]⟩
          case measure => simp [intOf]; omega
    · obtain rfl : j = 8 := by omega
      obtain rfl : k = 0 := by omega
      have hp : p = R := by rw [← hop]; show p = p ^^^ 0; rw [Nat.xor_zero]
      subst hp
      have HO := Lib.hid hop; clear hop
      go_wp2
      go_ret
      exact ⟨rfl, rfl⟩

theorem powers_lt (a : Nat) (ha : a < 256) (k : Nat) : (powers k a).1 < 256 ∧ (powers k a).2 < 256 := by
  induction k with
  | zero => exact ⟨ha, by show 1 < 256; decide⟩
  | succ k ih => exact ⟨times_lt ih.1 _, times_lt ih.2 _⟩
theorem inverse_lt {a : Nat} (ha : a < 256) : inverse a < 256 := (powers_lt a ha 7).2

set_option maxHeartbeats 1000000 in
theorem rinverse_any (a : Nat) (w : World) (ha : a < 256) :
    Calls Try.prog 65 #[.int .i64 a] w fun e w' => e = .returned (.int .i64 (inverse a : Nat)) ∧ w' = w := by
  obtain ⟨S, hS⟩ : ∃ S, S = fun k => (powers k a).1 := ⟨_, rfl⟩
  obtain ⟨O, hO⟩ : ∃ O, O = fun k => (powers k a).2 := ⟨_, rfl⟩
  have s0 : S 0 = a := by rw [hS]; rfl
  have o0 : O 0 = 1 := by rw [hO]; rfl
  have s1 : ∀ k, S (k + 1) = times (S k) (S k) := fun k => by rw [hS]; rfl
  have o1 : ∀ k, O (k + 1) = times (O k) (S (k + 1)) := fun k => by rw [hO, hS]; rfl
  have sl : ∀ k, S k < 256 := fun k => by rw [hS]; exact (powers_lt a ha k).1
  have ol : ∀ k, O k < 256 := fun k => by rw [hO]; exact (powers_lt a ha k).2
  have hr : inverse a = O 7 := by rw [hO]; rfl
  rw [hr]
  have H := Lib.hid (And.intro s0 (And.intro o0 (And.intro s1 o1)))
  have HS := Lib.hid (fun k X => rtimes_any (S k) (S k) X (sl k) (sl k))
  have HO := Lib.hid (fun k X => rtimes_any (O k) (S (k + 1)) X (ol k) (sl (k + 1)))
  clear s0 o0 s1 o1 sl ol hr hS hO ha
  go_enter Try.func65, Try.ntmps65
  go_wp2
  go_loop [3, 4, 5] (fun v3 v4 v5 => ∃ k : Nat, k ≤ 7 ∧ v5 = .int .i64 k ∧ v3 = .int .i64 (S k : Nat) ∧ v4 = .int .i64 (O k : Nat)) (fun _ _ v5 => 7 - (intOf v5).toNat)
  case atStart => exact ⟨0, by decide, rfl, by rw [H.out.1], by rw [H.out.2.1]; rfl⟩
  case round =>
    obtain ⟨k, hk, rfl, rfl, rfl⟩ := hrel
    by_cases hlt : k < 7
    · go_wp2_with fail
      refine (HS.out k _).mono ?_
      rw [← H.out.2.2.1 k]
      rintro e w' ⟨rfl, rfl⟩
      go_wp2_with fail
      refine (HO.out k _).mono ?_
      rw [← H.out.2.2.2 k]
      rintro e w' ⟨rfl, rfl⟩
      go_wp2
      go_round
      case rel => exact ⟨k + 1, by omega, by go_num, rfl, rfl⟩
      case measure => simp [intOf]; omega
    · obtain rfl : k = 7 := by omega
      go_wp2
      go_ret
      exact ⟨rfl, rfl⟩

set_option maxHeartbeats 1000000 in
theorem rbit_any (x i : Nat) (w : World) (hx : x < 256) (hi : i < 8) :
    Calls Try.prog 66 #[.int .i64 x, .int .i64 i] w fun e w' => e = .returned (.int .i64 (bitOf x i : Nat)) ∧ w' = w := by
  obtain ⟨R, hR⟩ : ∃ R, R = bitOf x i := ⟨_, rfl⟩
  rw [← hR]
  have HR := Lib.hid hR; clear hR
  go_enter Try.func66, Try.ntmps66
  go_wp2
  go_loop [0, 5] (fun v0 v5 => ∃ k : Nat, k ≤ i ∧ v5 = .int .i64 k ∧ v0 = .int .i64 (x / 2 ^ k : Nat)) (fun _ v5 => i - (intOf v5).toNat)
  case atStart => exact ⟨0, Nat.zero_le _, rfl, by rw [Nat.pow_zero, Nat.div_one]⟩
  case round =>
    obtain ⟨k, hk, rfl, rfl⟩ := hrel
    obtain ⟨q, hq⟩ : ∃ q, q = x / 2 ^ k := ⟨_, rfl⟩
    rw [← hq]
    have hql : q < 256 := by rw [hq]; exact Nat.lt_of_le_of_lt (Nat.div_le_self _ _) hx
    by_cases hlt : k < i
    · have hn : x / 2 ^ (k + 1) = q / 2 := by rw [hq, Nat.pow_succ, Nat.div_div_eq_div_mul]
      have HN := Lib.hid hn; clear hn hq
      have g : decide ((k : Int) < (i : Int)) = true := by simp; omega
      have g2 : decide (k < i) = true := by simp; omega
      obtain ⟨c, hc⟩ : ∃ c, c = q / 2 := ⟨_, rfl⟩
      have q1 : (q : Int) / 2 = (c : Int) := by omega
      have HC := Lib.hid hc; clear hc
      go_wp2
      go_round
      case rel => exact ⟨k + 1, by omega, by go_num, by rw [HN.out, HC.out]⟩
      case measure => simp [intOf]; omega
    · obtain rfl : k = i := by omega
      have hb : bitOf x k = q % 2 := by unfold bitOf; rw [hq]
      have q1 : (q : Int) % 2 = (R : Int) := by rw [HR.out, hb]; omega
      have HQ := Lib.hid (And.intro hq hb); clear hq hb
      go_wp2
      go_ret
      exact ⟨rfl, rfl⟩

end Aes
end Go.Proofs.Ytpjobjpdfhpobaa
