/-
  Contract of dromondref05.IsRoot. Conditions: none beyond the ranges in which the statements call it.
-/
import Derived.Test.YtbhnfepdbbdcnaaRi
namespace Go.Proofs.Ytbhnfepdbbdcnaa
open Go.ChangeShapes Go.WideShapes Go.ChangeAt Go.RowKit Go.ChangeMaps
open Sha
set_option linter.unusedVariables false

theorem whole_step2 (p k v : Nat) (hk : 1 ≤ k) (h : k ^ 2 = v) : wholeTo p 2 (k + 1) = if v ≤ p then k else wholeTo p 2 k := by
  show (if k ≠ 0 ∧ k ^ 2 ≤ p then k else wholeTo p 2 k) = _
  rw [h]
  by_cases hv : v ≤ p
  · rw [if_pos ⟨by omega, hv⟩, if_pos hv]
  · rw [if_neg (fun x => hv x.2), if_neg hv]

set_option maxHeartbeats 2000000 in
theorem isRoot2 (p r W : Nat) (w : World) (hp : 2 ≤ p) (hq : p ≤ 1000) (hr : r < 18446744073709551616) (hW : W = wholeTo p 2 40) (hl : W < 100) (hR : IsR p r 2 W) :
    Calls Try.prog 6 #[.int .u64 p, .int .u64 r, .bool false] w fun e w' => e = .returned (.bool true) ∧ Below w.heap.size w w' := by
  have HP := Lib.hid (show p < B by unfold B; omega)
  have HWB := Lib.hid (show W < B ∧ W + 1 < B by unfold B; omega)
  have HR := Lib.hid hr
  have HI := Lib.hid hR; clear hR
  have HW := Lib.hid hW; clear hW hl hp
  go_enter Try.func6, Try.ntmps6
  go_wp2
  go_loopw [7, 8] (fun x y wr => ∃ k : Nat, 1 ≤ k ∧ k ≤ 40 ∧ y = .int .u64 (k : Nat) ∧ x = .int .u64 (wholeTo p 2 k : Nat) ∧ wr = w) (fun _ y _ => 40 - (intOf y).toNat)
  case atStart => exact ⟨1, by omega, by omega, rfl, rfl, rfl⟩
  case round =>
    obtain ⟨k, h1, h40, rfl, rfl, rfl⟩ := hrel
    by_cases hlt : k < 40
    · have hst := whole_step2 p k
      obtain ⟨z, hz⟩ : ∃ z, z = wholeTo p 2 k := ⟨_, rfl⟩
      rw [← hz] at hst ⊢
      have HZ := Lib.hid hz; clear hz
      obtain ⟨s, es⟩ : ∃ s, s = k * k := ⟨_, rfl⟩
      have hs : s ≤ 1600 := by rw [es]; exact Nat.mul_le_mul (show k ≤ 40 by omega) (show k ≤ 40 by omega)
      have u1 : IntKind.u64.wrap ((k : Int) * (k : Int)) = (s : Int) := by rw [IntKind.wrap_u64, ← Int.natCast_mul, ← es]; omega
      have hpw : k ^ 2 = s := by rw [es, Nat.pow_two]

      have hst' := hst s h1 hpw
      clear hst
      have HST := Lib.hid hst'; clear hst'
      have i1 : IntKind.u64.wrap ((k : Int) + 1) = ((k + 1 : Nat) : Int) := by rw [IntKind.wrap_u64]; omega
      clear es hs hpw
      by_cases hv : s ≤ p
      · have d1 : decide ((s : Int) ≤ (p : Int)) = true := by simp; omega
        have HV := Lib.hid hv; clear hv
        go_wp2
        go_roundw
        case rel => exact ⟨k + 1, by omega, by omega, by rfl, by rw [HST.out, if_pos HV.out], trivial⟩
        case measure => simp [intOf]; omega
      · have d1 : decide ((s : Int) ≤ (p : Int)) = false := by simp; omega
        have HV := Lib.hid hv; clear hv
        go_wp2
        go_roundw
        case rel => exact ⟨k + 1, by omega, by omega, by rfl, by rw [HST.out, if_neg HV.out], trivial⟩
        case measure => simp [intOf]; omega
        have := HV.out; omega
    · obtain rfl : k = 40 := by omega
      rw [← HW.out]
      clear hlt h1 h40
      have hWi : IntKind.u64.wrap ((W : Int) + 1) = ((W + 1 : Nat) : Int) := by have := HWB.out.2; unfold B at this; rw [IntKind.wrap_u64]; omega
      by_cases hlast : r = 18446744073709551615
      · subst hlast
        clear hr
        go_wp2_with fail
        refine (refPower2 W 18446744073709551615 _ HR.out HWB.out.1).mono ?_
        rintro e w1 ⟨g, ys, rfl, k1, k2, k3, k4, k5⟩
        have K1 := Lib.hid (And.intro k1 (And.intro k2 (And.intro k3 (And.intro k4 k5)))); clear k1 k2 k3 k4 k5
        go_wp2_with fail
        refine (atMost_any ys g p 4 6 w1 K1.out.1 K1.out.2.1.symm (by decide) HP.out (by decide) K1.out.2.2.1).mono ?_
        rw [K1.out.2.2.2.1, B_4, decide_eq_true HI.out.1]
        rintro e w2 ⟨rfl, rfl⟩
        go_wp2_with fail
        refine (refPower2 (W + 1) 0 _ (by decide) HWB.out.2).mono ?_
        rintro e w3 ⟨g', zs, rfl, k1, k2, k3, k4, k5⟩
        have K2 := Lib.hid (And.intro k1 (And.intro k2 (And.intro k3 (And.intro k4 k5)))); clear k1 k2 k3 k4 k5
        go_wp2_with fail
        refine (atMost_any zs g' p 4 6 w3 K2.out.1 K2.out.2.1.symm (by decide) HP.out (by decide) K2.out.2.2.1).mono ?_
        rw [K2.out.2.2.2.1, B_4, show (W + 1) * 18446744073709551616 + 0 = W * 18446744073709551616 + 18446744073709551615 + 1 by omega, decide_eq_false (Nat.not_le.2 HI.out.2)]
        rintro e w4 ⟨rfl, rfl⟩
        go_wp2
        go_ret
        exact ⟨rfl, below_link K1.out.2.2.2.2 K2.out.2.2.2.2⟩
      · have r1 : IntKind.u64.wrap ((r : Int) + 1) = ((r + 1 : Nat) : Int) := by rw [IntKind.wrap_u64]; omega
        have r2 : (((r + 1 : Nat) : Int) == 0) = false := by simp; omega
        have HRR := Lib.hid (show r + 1 < 18446744073709551616 by omega)
        obtain ⟨r', er⟩ : ∃ r', r' = r + 1 := ⟨_, rfl⟩
        rw [← er] at r1 r2 HRR
        have ER := Lib.hid er
        clear hr hlast er
        go_wp2_with fail
        refine (refPower2 W r _ HR.out HWB.out.1).mono ?_
        rintro e w1 ⟨g, ys, rfl, k1, k2, k3, k4, k5⟩
        have K1 := Lib.hid (And.intro k1 (And.intro k2 (And.intro k3 (And.intro k4 k5)))); clear k1 k2 k3 k4 k5
        go_wp2_with fail
        refine (atMost_any ys g p 4 6 w1 K1.out.1 K1.out.2.1.symm (by decide) HP.out (by decide) K1.out.2.2.1).mono ?_
        rw [K1.out.2.2.2.1, B_4, decide_eq_true HI.out.1]
        rintro e w2 ⟨rfl, rfl⟩
        go_wp2_with fail
        refine (refPower2 W r' _ HRR.out HWB.out.1).mono ?_
        rintro e w3 ⟨g', zs, rfl, k1, k2, k3, k4, k5⟩
        have K2 := Lib.hid (And.intro k1 (And.intro k2 (And.intro k3 (And.intro k4 k5)))); clear k1 k2 k3 k4 k5
        go_wp2_with fail
        refine (atMost_any zs g' p 4 6 w3 K2.out.1 K2.out.2.1.symm (by decide) HP.out (by decide) K2.out.2.2.1).mono ?_
        rw [K2.out.2.2.2.1, B_4, ER.out, ← Nat.add_assoc, decide_eq_false (Nat.not_le.2 HI.out.2)]
        rintro e w4 ⟨rfl, rfl⟩
        go_wp2
        go_ret
        exact ⟨rfl, below_link K1.out.2.2.2.2 K2.out.2.2.2.2⟩

theorem whole_step3 (p k v : Nat) (hk : 1 ≤ k) (h : k ^ 3 = v) : wholeTo p 3 (k + 1) = if v ≤ p then k else wholeTo p 3 k := by
  show (if k ≠ 0 ∧ k ^ 3 ≤ p then k else wholeTo p 3 k) = _
  rw [h]
  by_cases hv : v ≤ p
  · rw [if_pos ⟨by omega, hv⟩, if_pos hv]
  · rw [if_neg (fun x => hv x.2), if_neg hv]

set_option maxHeartbeats 2000000 in
theorem isRoot3 (p r W : Nat) (w : World) (hp : 2 ≤ p) (hq : p ≤ 1000) (hr : r < 18446744073709551616) (hW : W = wholeTo p 3 40) (hl : W < 100) (hR : IsR p r 3 W) :
    Calls Try.prog 6 #[.int .u64 p, .int .u64 r, .bool true] w fun e w' => e = .returned (.bool true) ∧ Below w.heap.size w w' := by
  have HP := Lib.hid (show p < B by unfold B; omega)
  have HWB := Lib.hid (show W < B ∧ W + 1 < B by unfold B; omega)
  have HR := Lib.hid hr
  have HI := Lib.hid hR; clear hR
  have HW := Lib.hid hW; clear hW hl hp
  go_enter Try.func6, Try.ntmps6
  go_wp2
  go_loopw [7, 8] (fun x y wr => ∃ k : Nat, 1 ≤ k ∧ k ≤ 40 ∧ y = .int .u64 (k : Nat) ∧ x = .int .u64 (wholeTo p 3 k : Nat) ∧ wr = w) (fun _ y _ => 40 - (intOf y).toNat)
  case atStart => exact ⟨1, by omega, by omega, rfl, rfl, rfl⟩
  case round =>
    obtain ⟨k, h1, h40, rfl, rfl, rfl⟩ := hrel
    by_cases hlt : k < 40
    · have hst := whole_step3 p k
      obtain ⟨z, hz⟩ : ∃ z, z = wholeTo p 3 k := ⟨_, rfl⟩
      rw [← hz] at hst ⊢
      have HZ := Lib.hid hz; clear hz
      obtain ⟨s, es⟩ : ∃ s, s = k * k := ⟨_, rfl⟩
      have hs : s ≤ 1600 := by rw [es]; exact Nat.mul_le_mul (show k ≤ 40 by omega) (show k ≤ 40 by omega)
      have u1 : IntKind.u64.wrap ((k : Int) * (k : Int)) = (s : Int) := by rw [IntKind.wrap_u64, ← Int.natCast_mul, ← es]; omega
      obtain ⟨t, et⟩ : ∃ t, t = s * k := ⟨_, rfl⟩
      have ht : t ≤ 64000 := by rw [et]; exact Nat.mul_le_mul hs (show k ≤ 40 by omega)
      have u2 : IntKind.u64.wrap ((s : Int) * (k : Int)) = (t : Int) := by rw [IntKind.wrap_u64, ← Int.natCast_mul, ← et]; omega
      have hpw : k ^ 3 = t := by rw [et, es, Nat.pow_succ, Nat.pow_two]

      have hst' := hst t h1 hpw
      clear hst
      have HST := Lib.hid hst'; clear hst'
      have i1 : IntKind.u64.wrap ((k : Int) + 1) = ((k + 1 : Nat) : Int) := by rw [IntKind.wrap_u64]; omega
      clear es et hs ht hpw
      by_cases hv : t ≤ p
      · have d1 : decide ((t : Int) ≤ (p : Int)) = true := by simp; omega
        have HV := Lib.hid hv; clear hv
        go_wp2
        go_roundw
        case rel => exact ⟨k + 1, by omega, by omega, by rfl, by rw [HST.out, if_pos HV.out], trivial⟩
        case measure => simp [intOf]; omega
      · have d1 : decide ((t : Int) ≤ (p : Int)) = false := by simp; omega
        have HV := Lib.hid hv; clear hv
        go_wp2
        go_roundw
        case rel => exact ⟨k + 1, by omega, by omega, by rfl, by rw [HST.out, if_neg HV.out], trivial⟩
        case measure => simp [intOf]; omega

    · obtain rfl : k = 40 := by omega
      rw [← HW.out]
      clear hlt h1 h40
      have hWi : IntKind.u64.wrap ((W : Int) + 1) = ((W + 1 : Nat) : Int) := by have := HWB.out.2; unfold B at this; rw [IntKind.wrap_u64]; omega
      by_cases hlast : r = 18446744073709551615
      · subst hlast
        clear hr
        go_wp2_with fail
        refine (refPower3 W 18446744073709551615 _ HR.out HWB.out.1).mono ?_
        rintro e w1 ⟨g, ys, rfl, k1, k2, k3, k4, k5⟩
        have K1 := Lib.hid (And.intro k1 (And.intro k2 (And.intro k3 (And.intro k4 k5)))); clear k1 k2 k3 k4 k5
        go_wp2_with fail
        refine (atMost_any ys g p 6 9 w1 K1.out.1 K1.out.2.1.symm (by decide) HP.out (by decide) K1.out.2.2.1).mono ?_
        rw [K1.out.2.2.2.1, B_6, decide_eq_true HI.out.1]
        rintro e w2 ⟨rfl, rfl⟩
        go_wp2_with fail
        refine (refPower3 (W + 1) 0 _ (by decide) HWB.out.2).mono ?_
        rintro e w3 ⟨g', zs, rfl, k1, k2, k3, k4, k5⟩
        have K2 := Lib.hid (And.intro k1 (And.intro k2 (And.intro k3 (And.intro k4 k5)))); clear k1 k2 k3 k4 k5
        go_wp2_with fail
        refine (atMost_any zs g' p 6 9 w3 K2.out.1 K2.out.2.1.symm (by decide) HP.out (by decide) K2.out.2.2.1).mono ?_
        rw [K2.out.2.2.2.1, B_6, show (W + 1) * 18446744073709551616 + 0 = W * 18446744073709551616 + 18446744073709551615 + 1 by omega, decide_eq_false (Nat.not_le.2 HI.out.2)]
        rintro e w4 ⟨rfl, rfl⟩
        go_wp2
        go_ret
        exact ⟨rfl, below_link K1.out.2.2.2.2 K2.out.2.2.2.2⟩
      · have r1 : IntKind.u64.wrap ((r : Int) + 1) = ((r + 1 : Nat) : Int) := by rw [IntKind.wrap_u64]; omega
        have r2 : (((r + 1 : Nat) : Int) == 0) = false := by simp; omega
        have HRR := Lib.hid (show r + 1 < 18446744073709551616 by omega)
        obtain ⟨r', er⟩ : ∃ r', r' = r + 1 := ⟨_, rfl⟩
        rw [← er] at r1 r2 HRR
        have ER := Lib.hid er
        clear hr hlast er
        go_wp2_with fail
        refine (refPower3 W r _ HR.out HWB.out.1).mono ?_
        rintro e w1 ⟨g, ys, rfl, k1, k2, k3, k4, k5⟩
        have K1 := Lib.hid (And.intro k1 (And.intro k2 (And.intro k3 (And.intro k4 k5)))); clear k1 k2 k3 k4 k5
        go_wp2_with fail
        refine (atMost_any ys g p 6 9 w1 K1.out.1 K1.out.2.1.symm (by decide) HP.out (by decide) K1.out.2.2.1).mono ?_
        rw [K1.out.2.2.2.1, B_6, decide_eq_true HI.out.1]
        rintro e w2 ⟨rfl, rfl⟩
        go_wp2_with fail
        refine (refPower3 W r' _ HRR.out HWB.out.1).mono ?_
        rintro e w3 ⟨g', zs, rfl, k1, k2, k3, k4, k5⟩
        have K2 := Lib.hid (And.intro k1 (And.intro k2 (And.intro k3 (And.intro k4 k5)))); clear k1 k2 k3 k4 k5
        go_wp2_with fail
        refine (atMost_any zs g' p 6 9 w3 K2.out.1 K2.out.2.1.symm (by decide) HP.out (by decide) K2.out.2.2.1).mono ?_
        rw [K2.out.2.2.2.1, B_6, ER.out, ← Nat.add_assoc, decide_eq_false (Nat.not_le.2 HI.out.2)]
        rintro e w4 ⟨rfl, rfl⟩
        go_wp2
        go_ret
        exact ⟨rfl, below_link K1.out.2.2.2.2 K2.out.2.2.2.2⟩

end Go.Proofs.Ytbhnfepdbbdcnaa
