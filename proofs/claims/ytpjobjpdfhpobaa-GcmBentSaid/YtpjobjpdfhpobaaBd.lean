/-
  Contract of aes.block.rotated. Conditions: the numbers are bytes; a row is turned once or three times as often as its index says.
-/
import Derived.Test.YtpjobjpdfhpobaaBc
namespace Go.Proofs.Ytpjobjpdfhpobaa
namespace Aes
open Go.ChangeShapes Go.WideShapes Go.ChangeAt Go.RowKit Go.Great
open Gf
set_option linter.unusedVariables false

/-- Each row turned. -/
def turnedBy (t : Nat) (x : Nat → Nat) (i : Nat) : Nat := x ((i / 4 + t * (i % 4)) % 4 * 4 + i % 4)

/-- What came in, the result's row, the row that is filled. -/
structure Rot (w : World) (l m : List Nat) (wr : World) : Prop where
  hx : Wd .u8 85 w.heap.size l wr
  hr : Wd .u8 85 (w.heap.size + 1) (zerosN 16) wr
  hy : Wd .u8 85 (w.heap.size + 1 + 1) m wr
  below : Below w.heap.size w wr
theorem Rot.start (w : World) (l : List Nat) : Rot w l (zerosN 16) (((w.alloc (.cells (valsK .u8 l) 85)).alloc (.cells (valsK .u8 (zerosN 16)) 85)).alloc (.cells (valsK .u8 (zerosN 16)) 85)) where
  hx := keepAlloc (keepAlloc (heap_alloc_new w _) _) _
  hr := by
    have := keepAlloc (heap_alloc_new (w.alloc (.cells (valsK .u8 l) 85)) (.cells (valsK .u8 (zerosN 16)) 85)) (.cells (valsK .u8 (zerosN 16)) 85)
    rwa [alloc_size] at this
  hy := by
    have := heap_alloc_new ((w.alloc (.cells (valsK .u8 l) 85)).alloc (.cells (valsK .u8 (zerosN 16)) 85)) (.cells (valsK .u8 (zerosN 16)) 85)
    rwa [alloc_size, alloc_size] at this
  below := below_alloc (below_alloc ((Below.refl _ _).alloc (Nat.le_refl _) _) _) _
theorem Rot.drew {w X : World} {l m : List Nat} (h : Rot w l m X) : Rot w l m X.drew := ⟨h.hx, h.hr, h.hy, h.below.drew⟩
theorem Rot.step {w X : World} {l m : List Nat} (h : Rot w l m X) (j v : Nat) : Rot w l (m.set j v) (X.setCell ⟨w.heap.size + 1 + 1, j, none⟩ (.int .u8 (v : Nat))) where
  hx := h.hx.far _ _ _ (by omega)
  hr := h.hr.far _ _ _ (by omega)
  hy := h.hy.set j v
  below := h.below.setCell (by simp only []; omega) _

set_option maxHeartbeats 4000000 in
theorem rotated_any (x : Nat → Nat) (t : Nat) (w : World) (ht : t ≤ 3) :
    Calls Try.prog 55 #[.agg (valsK .u8 (allF x 16)), .int .i64 (t : Nat)] w fun e w' => e = .returned (.agg (valsK .u8 (allF (turnedBy t x) 16))) ∧ Below w.heap.size w w' := by
  have hz := zero16.1
  have hne := zeros16_ne .u8
  have HS := Lib.hid (Rot.start w (allF x 16))
  have HT := Lib.hid ht; clear ht
  obtain ⟨L, hL⟩ : ∃ L, L = allF x 16 := ⟨_, rfl⟩
  rw [← hL] at HS ⊢
  have HL := Lib.hid hL
  clear hL
  obtain ⟨F, hF⟩ : ∃ F, F = turnedBy t x := ⟨_, rfl⟩
  rw [← hF]
  have HF := Lib.hid hF; clear hF
  obtain ⟨R, hR⟩ : ∃ R, R = allF F 16 := ⟨_, rfl⟩
  rw [← hR]
  have HR := Lib.hid (show R = allF F 16 ∧ (valsK .u8 R).size = 16 from ⟨hR, by rw [valsK_size, hR, allF_length]⟩); clear hR
  go_enter Try.func55, Try.ntmps55
  go_wp2
  go_loopw [8] (fun i wr => ∃ k : Nat, k ≤ 4 ∧ i = .int .i64 (k : Nat) ∧ Rot w L (upF F 16 (k * 4)) wr) (fun i _ => 4 - (intOf i).toNat)
  case atStart => exact ⟨0, Nat.zero_le _, rfl, by rw [Nat.zero_mul, upF_zero]; exact HS.out⟩
  case round =>
    obtain ⟨k, hk, rfl, hS⟩ := hrel
    by_cases hlt : k < 4
    · have HQ := Lib.hid hS; clear hS
      have HK := Lib.hid hlt
      go_wp2
      go_loopw [11] (fun i wr => ∃ r : Nat, r ≤ 4 ∧ i = .int .i64 (r : Nat) ∧ Rot w L (upF F 16 (k * 4 + r)) wr) (fun i _ => 4 - (intOf i).toNat)
      case atStart => exact ⟨0, Nat.zero_le _, rfl, HQ.out⟩
      case round =>
        obtain ⟨r, hr, rfl, hS⟩ := hrel
        by_cases hrt : r < 4
        · obtain ⟨p, hp⟩ : ∃ p, p = t * r := ⟨_, rfl⟩
          have hpl : p ≤ 12 := by
            have := Nat.mul_le_mul HT.out (show r ≤ 3 by omega)
            omega
          obtain ⟨m, hm⟩ : ∃ m, m = (k + p) % 4 := ⟨_, rfl⟩
          obtain ⟨c, hc⟩ : ∃ c, c = x (m * 4 + r) := ⟨_, rfl⟩
          have hFc : F (k * 4 + r) = c := by
            rw [HF.out, hc, hm, hp]
            unfold turnedBy
            rw [show (k * 4 + r) / 4 = k by omega, show (k * 4 + r) % 4 = r by omega]
          have c1 := hS.hx.cell (show L[m * 4 + r]? = some c by rw [HL.out, allF_get _ _ _ (by omega), hc])
          have c2 := hS.hy.cell (upF_get F 16 (k * 4 + r) (k * 4 + r) (by omega))
          have f2 := hS.hy.frozen (k * 4 + r)
          have hst := hS.step (k * 4 + r) c
          rw [← hFc, upF_next F 16 (k * 4 + r), hFc] at hst
          have q1 : IntKind.i64.wrap ((t : Int) * (r : Int)) = (p : Int) := by
            rw [← Int.natCast_mul, ← hp, IntKind.wrap_i64]; omega
          have q2 : IntKind.i64.wrap ((k : Int) + (p : Int)) = ((k : Int) + (p : Int)) := by rw [IntKind.wrap_i64]; omega
          have q3 : Int.tmod ((k : Int) + (p : Int)) 4 = (m : Int) := by rw [Int.tmod_eq_emod_of_nonneg (by omega), hm]; omega
          have q3' : ((k : Int) + (p : Int)) % 4 = (m : Int) := by omega
          have q4 : (m : Int) < 4 := by omega
          have q5 : (r : Int) < 4 := by omega
          have q6 : (k : Int) < 4 := by omega
          have HST := Lib.hid hst; clear hst
          clear hS hz hne hp hm hc hFc hpl
          go_wp2
          go_region
          all_goals (go_wp2; go_roundw)
          all_goals first
            | exact ⟨r + 1, by omega, by go_num, HST.out.drew⟩
            | (simp [intOf]; omega)
        · obtain rfl : r = 4 := by omega
          have HQ2 := Lib.hid hS; clear hS
          go_wp2
          go_roundw
          case rel => exact ⟨k + 1, by have := HK.out; omega, by go_num, by rw [show (k + 1) * 4 = k * 4 + 4 by omega]; exact HQ2.out⟩
          case measure => have := HK.out; simp [intOf]; omega
    · obtain rfl : k = 4 := by omega
      rw [show 4 * 4 = 16 from rfl, upF_all, ← HR.out.1] at hS
      have HQ := Lib.hid hS; clear hS
      go_wp2_with (first | (refine load_whole (by rfl) 85 _ (by rfl) _ (by rfl) R ?_ under16 ?_ ?_; exact HQ.out.hy; (rw [HR.out.2]; exact zero16.2)) | (refine store_whole (by rfl) 85 _ _ (by rfl) _ (by rfl) R (zerosN 16) (by rfl) ?_ ?_ ?_ ?_; exact HQ.out.hr; (rw [HR.out.2, valsK_size]; rfl); (rw [HR.out.2]; exact zero16.2)))
      refine bodyPost_ret (results_cell_row rfl _ _ (w.heap.size + 1) 85 (valsK .u8 R) (0, 0) _ rfl (setRow_heap _ _ _ _ _ _ HQ.out.hr) under16 rfl (by rw [HR.out.2]; exact zero16.2)) rfl ⟨rfl, below_setRow HQ.out.below (by omega) _⟩

end Aes
end Go.Proofs.Ytpjobjpdfhpobaa
