/-
  Contract of the reference's Sub; rows of numbers in memory; contract of the reference's Table. Conditions: the number is a byte.
-/
import Derived.Test.YtpjobjpdfhpobaaAb
import Derived.Deep.WholeRow
import Derived.Great.BuildSlice
import Derived.Deep.QuietTactic
import Derived.BigQuiet
namespace Go.Proofs.Ytpjobjpdfhpobaa
namespace Aes
open Go.ChangeShapes Go.WideShapes Go.ChangeAt Go.RowKit Go.Great
open Gf
set_option linter.unusedVariables false

theorem bitOf_le (x i : Nat) : bitOf x i ≤ 1 := by unfold bitOf; omega
theorem subBit_le (x i : Nat) : subBit x i ≤ 1 := by unfold subBit; omega
theorem subTo_lt (x k : Nat) : subTo x k < 2 ^ k := by
  induction k with
  | zero => show 0 < 1; decide
  | succ k ih =>
    have h := Nat.mul_le_mul_right (2 ^ k) (subBit_le x k)
    rw [subTo, Nat.pow_succ]
    omega

set_option maxHeartbeats 2000000 in
theorem rsub_any (a : Nat) (w : World) (ha : a < 256) :
    Calls Try.prog 58 #[.int .i64 a] w fun e w' => e = .returned (.int .i64 (sub a : Nat)) ∧ w' = w := by
  have hR : sub a = subTo (inverse a) 8 := rfl
  rw [hR]
  have HI := Lib.hid (fun X => rinverse_any a X ha)
  have hx := inverse_lt ha
  clear hR ha
  generalize inverse a = x at *
  have HB := Lib.hid (fun i X (hi : i < 8) => rbit_any x i X hx hi)
  have H99 := Lib.hid (fun i X (hi : i < 8) => rbit_any 99 i X (by decide) hi)
  clear hx
  go_enter Try.func58, Try.ntmps58
  go_wp2_with fail
  refine (HI.out _).mono ?_
  rintro e w' ⟨rfl, rfl⟩
  go_wp2
  go_loop [4, 5, 6] (fun v4 v5 v6 => ∃ k : Nat, k ≤ 8 ∧ v6 = .int .i64 k ∧ v5 = .int .i64 (2 ^ k : Nat) ∧ v4 = .int .i64 (subTo x k : Nat)) (fun _ _ v6 => 8 - (intOf v6).toNat)
  case atStart => exact ⟨0, by decide, rfl, rfl, rfl⟩
  case round =>
    obtain ⟨k, hk, rfl, rfl, rfl⟩ := hrel
    obtain ⟨t, ht⟩ : ∃ t, t = subTo x k := ⟨_, rfl⟩
    obtain ⟨m, hm⟩ : ∃ m, m = 2 ^ k := ⟨_, rfl⟩
    have hml : m ≤ 256 := by rw [hm]; exact Nat.pow_le_pow_right (n := 2) (by decide) hk
    have htl : t < 256 := by rw [ht]; exact Nat.lt_of_lt_of_le (subTo_lt x k) (Nat.pow_le_pow_right (n := 2) (by decide) hk)
    rw [← ht, ← hm]
    by_cases hlt : k < 8
    · obtain ⟨k4, h4⟩ : ∃ j, j = (k + 4) % 8 := ⟨_, rfl⟩
      obtain ⟨k5, h5⟩ : ∃ j, j = (k + 5) % 8 := ⟨_, rfl⟩
      obtain ⟨k6, h6⟩ : ∃ j, j = (k + 6) % 8 := ⟨_, rfl⟩
      obtain ⟨k7, h7⟩ : ∃ j, j = (k + 7) % 8 := ⟨_, rfl⟩
      have hs : subBit x k = (bitOf x k + bitOf x k4 + bitOf x k5 + bitOf x k6 + bitOf x k7 + bitOf 99 k) % 2 := by rw [h4, h5, h6, h7]; rfl
      have hn : subTo x (k + 1) = t + subBit x k * m := by rw [subTo, ht, hm]
      have l0 := bitOf_le x k
      have l4 := bitOf_le x k4
      have l5 := bitOf_le x k5
      have l6 := bitOf_le x k6
      have l7 := bitOf_le x k7
      have l9 := bitOf_le 99 k
      have hp : 2 ^ (k + 1) = m * 2 := by rw [hm, Nat.pow_succ]
      have g4 : ((k : Int) + 4) % 8 = (k4 : Int) := by omega
      have g5 : ((k : Int) + 5) % 8 = (k5 : Int) := by omega
      have g6 : ((k : Int) + 6) % 8 = (k6 : Int) := by omega
      have g7 : ((k : Int) + 7) % 8 = (k7 : Int) := by omega
      have HK := Lib.hid (show k < 8 ∧ k4 < 8 ∧ k5 < 8 ∧ k6 < 8 ∧ k7 < 8 by omega)
      obtain ⟨c0, e0⟩ : ∃ c, c = bitOf x k := ⟨_, rfl⟩
      obtain ⟨c4, e4⟩ : ∃ c, c = bitOf x k4 := ⟨_, rfl⟩
      obtain ⟨c5, e5⟩ : ∃ c, c = bitOf x k5 := ⟨_, rfl⟩
      obtain ⟨c6, e6⟩ : ∃ c, c = bitOf x k6 := ⟨_, rfl⟩
      obtain ⟨c7, e7⟩ : ∃ c, c = bitOf x k7 := ⟨_, rfl⟩
      obtain ⟨c9, e9⟩ : ∃ c, c = bitOf 99 k := ⟨_, rfl⟩
      rw [← e0, ← e4, ← e5, ← e6, ← e7, ← e9] at hs
      rw [← e0] at l0
      rw [← e4] at l4
      rw [← e5] at l5
      rw [← e6] at l6
      rw [← e7] at l7
      rw [← e9] at l9
      obtain ⟨B, hB⟩ : ∃ B, B = subBit x k := ⟨_, rfl⟩
      rw [← hB] at hs hn
      have gs : ((c0 : Int) + c4 + c5 + c6 + c7 + c9) % 2 = (B : Int) := by omega
      have hBl : B ≤ 1 := by omega
      have hBm : B * m ≤ m := by
        have := Nat.mul_le_mul_right m hBl
        omega
      obtain ⟨q, hq⟩ : ∃ q, q = B * m := ⟨_, rfl⟩
      rw [← hq] at hn hBm
      have gq : (B : Int) * (m : Int) = (q : Int) := by rw [hq]; exact (Int.natCast_mul B m).symm
      have C0 := Lib.hid (fun X => HB.out k X HK.out.1)
      have C4 := Lib.hid (fun X => HB.out k4 X HK.out.2.1)
      have C5 := Lib.hid (fun X => HB.out k5 X HK.out.2.2.1)
      have C6 := Lib.hid (fun X => HB.out k6 X HK.out.2.2.2.1)
      have C7 := Lib.hid (fun X => HB.out k7 X HK.out.2.2.2.2)
      have C9 := Lib.hid (fun X => H99.out k X HK.out.1)
      rw [← e0] at C0
      rw [← e4] at C4
      rw [← e5] at C5
      rw [← e6] at C6
      rw [← e7] at C7
      rw [← e9] at C9
      have HN := Lib.hid hn
      have HP := Lib.hid hp
      clear hs hn hp e0 e4 e5 e6 e7 e9 h4 h5 h6 h7 ht hm hq hB
      go_wp2_with fail
      refine (C0.out _).mono ?_
      rintro e w' ⟨rfl, rfl⟩
      go_wp2_with fail
      refine (C4.out _).mono ?_
      rintro e w' ⟨rfl, rfl⟩
      go_wp2_with fail
      refine (C5.out _).mono ?_
      rintro e w' ⟨rfl, rfl⟩
      go_wp2_with fail
      refine (C6.out _).mono ?_
      rintro e w' ⟨rfl, rfl⟩
      go_wp2_with fail
      refine (C7.out _).mono ?_
      rintro e w' ⟨rfl, rfl⟩
      go_wp2_with fail
      refine (C9.out _).mono ?_
      rintro e w' ⟨rfl, rfl⟩
      go_wp2
      go_round
      case rel => exact ⟨k + 1, by omega, by go_num, by rw [HP.out]; go_num, by rw [HN.out]; go_num⟩
      case measure => simp [intOf]; omega
    · obtain rfl : k = 8 := by omega
      have HT := Lib.hid ht; clear ht hm
      go_wp2
      go_ret
      exact ⟨by rw [← HT.out]; rfl, rfl⟩

end Aes
end Go.Proofs.Ytpjobjpdfhpobaa
