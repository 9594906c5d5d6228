/-
  Contract of dromondref08.Poly.Bytes. Conditions: the polynomial's bits are a number's of 128 bits.
-/
import Derived.Test.YtpjobjpdfhpobaaGb
import Derived.Test.YtpjobjpdfhpobaaPd
import Derived.Test.YtpjobjpdfhpobaaQa
namespace Go.Proofs.Ytpjobjpdfhpobaa
namespace Gcm
open Go.ChangeShapes Go.WideShapes Go.ChangeAt Go.RowKit Go.Great Go.ChangeMaps
open Gf Aes
set_option linter.unusedVariables false
set_option maxRecDepth 100000

/-- The bytes gathered from the first i bits. -/
def gTo (v i : Nat) : List Nat := (List.range 16).map fun j => gather v (8 * j) (min 8 (i - 8 * j))
theorem gTo_length (v i : Nat) : (gTo v i).length = 16 := by simp [gTo]
theorem gTo_get (v i j : Nat) (h : j < 16) : (gTo v i)[j]? = some (gather v (8 * j) (min 8 (i - 8 * j))) := by
  unfold gTo
  rw [List.getElem?_map, List.getElem?_range h]
  rfl
theorem gTo_zero (v : Nat) : gTo v 0 = List.replicate 16 0 := by
  apply List.ext_getElem?
  intro j
  by_cases h : j < 16
  · rw [gTo_get _ _ _ h, List.getElem?_replicate, if_pos h, show min 8 (0 - 8 * j) = 0 by omega]; rfl
  · rw [List.getElem?_eq_none (by rw [gTo_length]; omega), List.getElem?_eq_none (by simp; omega)]
theorem gTo_next (v q r : Nat) (hr : r < 8) : (gTo v (8 * q + r)).set q (gather v (8 * q) r * 2 + coef v (8 * q + r)) = gTo v (8 * q + r + 1) := by
  apply List.ext_getElem?
  intro j
  rw [List.getElem?_set]
  by_cases h : j < 16
  · by_cases e : q = j
    · subst e
      rw [if_pos rfl, gTo_length, if_pos h, gTo_get _ _ _ h, show min 8 (8 * q + r + 1 - 8 * q) = r + 1 by omega]
      rfl
    · rw [if_neg e, gTo_get _ _ _ h, gTo_get _ _ _ h, show min 8 (8 * q + r + 1 - 8 * j) = min 8 (8 * q + r - 8 * j) by omega]
  · rw [List.getElem?_eq_none (l := gTo v (8 * q + r + 1)) (by rw [gTo_length]; omega)]
    split
    · rw [if_neg (by rw [gTo_length]; omega)]
    · rw [List.getElem?_eq_none (by rw [gTo_length]; omega)]
theorem gTo_all (n : Nat) : gTo (Gf.turned 128 n) 128 = bytes 16 n := by
  apply List.ext_getElem?
  intro j
  by_cases h : j < 16
  · rw [gTo_get _ _ _ h, gather_byte n j h, show min 8 (128 - 8 * j) = 8 by omega]
  · rw [List.getElem?_eq_none (by rw [gTo_length]; omega), List.getElem?_eq_none (by rw [bytes_length]; omega)]

/-- The polynomial, and the bytes. -/
structure Pb2 (w : World) (v : Nat) (l : List Nat) (X : World) : Prop where
  hP : Wd .u8 26 w.heap.size (polyL v) X
  hB : Rw w (w.heap.size + 1) l X
theorem Pb2.drew {w X : World} {v : Nat} {l : List Nat} (h : Pb2 w v l X) : Pb2 w v l X.drew := ⟨h.hP, h.hB.drew⟩
theorem Pb2.set {w X : World} {v : Nat} {l : List Nat} (h : Pb2 w v l X) {j : Nat} (hj : j < l.length) (x : Nat) : Pb2 w v (l.set j x) (X.setCell ⟨w.heap.size + 1, j, none⟩ (.int .u8 (x : Nat))) :=
  ⟨h.hP.far _ _ _ (by omega), h.hB.set hj x⟩

set_option maxHeartbeats 8000000 in
theorem rbytes_any (n : Nat) (w : World) (hn : n < 2 ^ 128) :
    Calls Try.prog 14 #[.agg (valsK .u8 (polyL (Gf.turned 128 n)))] w fun e w' => e = .returned (.string (blockB n)) ∧ Below w.heap.size w w' := by
  obtain ⟨v, hv⟩ : ∃ v, v = Gf.turned 128 n := ⟨_, rfl⟩
  have hend : gTo v 128 = bytes 16 n := by rw [hv, gTo_all]
  rw [← hv]
  have hmk := make_row 16 (by decide) (w.alloc (.cells (valsK .u8 (polyL v)) 26))
  have hp : Pb2 w v (gTo v 0) ((w.alloc (.cells (valsK .u8 (polyL v)) 26)).alloc (.cells (valsK .u8 (List.replicate 16 0)) 5)) := by
    rw [gTo_zero]
    have := rw_made w (w.alloc (.cells (valsK .u8 (polyL v)) 26)) (List.replicate 16 0) (below_alloc (Below.refl _ _) _)
    rw [alloc_size] at this
    exact ⟨keepAlloc (heap_alloc_new w _) _, this⟩
  rw [alloc_size] at hmk
  have hmk' : (Instr.makeSlice 24 (.int .i64 16) (.int .i64 16)).run Try.prog (w.alloc (.cells (valsK .u8 (polyL v)) 26)) = .ok (.slice (some ⟨w.heap.size + 1, 0, none⟩) 16 16) ((w.alloc (.cells (valsK .u8 (polyL v)) 26)).alloc (.cells (valsK .u8 (List.replicate 16 0)) 5)) := hmk
  have HP := Lib.hid hp
  have HEND := Lib.hid hend
  clear hp hv hend hmk hn
  obtain ⟨PL, hPL⟩ : ∃ PL, PL = valsK .u8 (polyL v) := ⟨_, rfl⟩
  have HPL := Lib.hid hPL
  rw [← hPL] at hmk' HP ⊢
  clear hPL
  go_enter Try.func14, Try.ntmps14
  go_wp2
  clear hmk'
  go_loopw [4] (fun x wr => ∃ i : Nat, i ≤ 128 ∧ x = .int .i64 (i : Nat) ∧ Pb2 w v (gTo v i) wr) (fun x _ => 128 - (intOf x).toNat)
  case atStart => exact ⟨0, Nat.zero_le _, rfl, HP.out⟩
  case round =>
    obtain ⟨i, hi, rfl, hS⟩ := hrel
    clear HP
    by_cases hlt : i < 128
    · obtain ⟨q, hq⟩ : ∃ q, q = i / 8 := ⟨_, rfl⟩
      obtain ⟨r, hr⟩ : ∃ r, r = i % 8 := ⟨_, rfl⟩
      have hqr : i = 8 * q + r := by omega
      obtain ⟨x, hx⟩ : ∃ x, x = gather v (8 * q) r := ⟨_, rfl⟩
      obtain ⟨c, hc⟩ : ∃ c, c = coef v i := ⟨_, rfl⟩
      obtain ⟨y, hy⟩ : ∃ y, y = x * 2 := ⟨_, rfl⟩
      obtain ⟨z, hz⟩ : ∃ z, z = y + c := ⟨_, rfl⟩
      have hxl : x < 128 := by
        rw [hx]
        refine Nat.lt_of_lt_of_le (gather_lt v (8 * q) r) ?_
        exact Nat.le_trans (Nat.pow_le_pow_right (by decide) (show r ≤ 7 by omega)) (by decide)
      have hcl : c < 2 := by rw [hc]; exact coef_lt _ _
      have c1 := hS.hB.cell q x (by rw [gTo_get _ _ _ (by omega), hx, show min 8 (i - 8 * q) = r by omega])
      have f1 := hS.hB.frozen q (by rw [gTo_length]; omega)
      have c2 := hS.hP.cell (polyL_get v i hlt)
      rw [← hc] at c2
      have hst := hS.set (j := q) (by rw [gTo_length]; omega) z
      have hnx : (gTo v i).set q z = gTo v (i + 1) := by rw [hz, hy, hx, hc, hqr]; exact gTo_next v q r (by omega)
      rw [hnx] at hst
      have q1 : (i : Int) / 8 = (q : Int) := by omega
      have q2 : (x : Int) * 2 = (y : Int) := by omega
      have q3 : (y : Int) + (c : Int) = (z : Int) := by omega
      have q4 : (y : Int) % 256 = (y : Int) := by omega
      have q5 : (z : Int) % 256 = (z : Int) := by omega
      have q6 : (q : Int) < 16 := by omega
      have q7 : (i : Int) < 128 := by omega
      have HST := Lib.hid hst
      clear hst hS hq hr hqr hx hc hy hz hxl hcl hnx
      go_wp2
      go_region
      go_wp2
      go_roundw
      case rel => exact ⟨i + 1, by omega, by go_num, HST.out.drew⟩
      case measure => simp [intOf]; omega
    · obtain rfl : i = 128 := by omega
      rw [HEND.out] at hS
      have hb := hS.hB.back (bytes_lt 16 n) 16 16 (bytes_length 16 n)
      have HB := Lib.hid hS.hB.below
      clear hS
      go_wp2
      go_ret
      exact ⟨rfl, HB.out⟩

end Gcm
end Go.Proofs.Ytpjobjpdfhpobaa
