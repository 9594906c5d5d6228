/-
  A cipher's block in the making; a key's four bytes copied into it. Conditions: the text has four bytes at least.
-/
import Derived.Test.YtpjobjpdfhpobaaBh
import Derived.Lib.BufferWrite
namespace Go.Proofs.Ytpjobjpdfhpobaa
namespace Aes
open Go.ChangeShapes Go.WideShapes Go.ChangeAt Go.RowKit Go.Great Go.ChangeMaps
open Gf
set_option linter.unusedVariables false
set_option maxRecDepth 100000

/-- The cells of a cipher: its rounds, and 752 bytes. -/
def cipCells (R : Nat) (l : List Nat) : Array Value := #[.int .i64 (R : Nat)] ++ valsK .u8 l
theorem cip_zero (R : Nat) (l : List Nat) : (cipCells R l)[0]? = some (.int .i64 (R : Nat)) := by
  unfold cipCells
  rw [Array.getElem?_append_left (show 0 < 1 by decide)]
  rfl
theorem cip_next (R : Nat) (l : List Nat) (j x : Nat) (h : l[j]? = some x) : (cipCells R l)[1 + j]? = some (.int .u8 (x : Nat)) := by
  unfold cipCells
  rw [Array.getElem?_append_right (by show 1 ≤ 1 + j; omega)]
  show (valsK .u8 l)[1 + j - 1]? = _
  rw [Nat.add_sub_cancel_left]
  exact valsK_get _ _ _ _ h
theorem cip_size (R : Nat) (l : List Nat) : (cipCells R l).size = 1 + l.length := by
  unfold cipCells
  rw [Array.size_append, valsK_size]
  rfl
theorem cip_set0 (R r : Nat) (l : List Nat) : (cipCells R l).setIfInBounds 0 (.int .i64 (r : Nat)) = cipCells r l := by
  apply Array.ext_getElem?
  intro j
  rw [Array.getElem?_setIfInBounds]
  rcases j with _ | j
  · rw [if_pos rfl, if_pos (by rw [cip_size]; omega), cip_zero]
  · rw [if_neg (by omega)]
    unfold cipCells
    rw [Array.getElem?_append_right (by show 1 ≤ j + 1; omega), Array.getElem?_append_right (by show 1 ≤ j + 1; omega)]
    rfl
theorem cip_set (R : Nat) (l : List Nat) (j v : Nat) : (cipCells R l).setIfInBounds (1 + j) (.int .u8 (v : Nat)) = cipCells R (l.set j v) := by
  apply Array.ext_getElem?
  intro i
  rw [Array.getElem?_setIfInBounds]
  by_cases e : 1 + j = i
  · subst e
    rw [if_pos rfl, cip_size]
    by_cases hj : j < l.length
    · rw [if_pos (by omega), cip_next R (l.set j v) j v (by rw [List.getElem?_set_self hj])]
    · rw [if_neg (by omega), Array.getElem?_eq_none (by rw [cip_size, List.length_set]; omega)]
  · rw [if_neg e]
    rcases i with _ | i
    · rw [cip_zero, cip_zero]
    · have hi : j ≠ i := by omega
      unfold cipCells
      rw [Array.getElem?_append_right (by show 1 ≤ i + 1; omega), Array.getElem?_append_right (by show 1 ≤ i + 1; omega)]
      show (valsK .u8 l)[i]? = (valsK .u8 (l.set j v))[i]?
      unfold valsK
      rw [List.getElem?_toArray, List.getElem?_toArray, List.getElem?_map, List.getElem?_map, List.getElem?_map, List.getElem?_map, List.getElem?_set_ne hi]

/-- A cipher's block. -/
abbrev Cb (g R : Nat) (l : List Nat) (X : World) : Prop := X.heap[g]? = some (.cells (cipCells R l) 79 (0, 0))
theorem Cb.rounds {g R : Nat} {l : List Nat} {X : World} (h : Cb g R l X) : X.cell? ⟨g, 0, none⟩ = some (.int .i64 (R : Nat)) := by
  rw [cell_of_row _ _ _ _ _ _ h]; exact cip_zero R l
theorem Cb.cell {g R : Nat} {l : List Nat} {X : World} (h : Cb g R l X) {j x : Nat} (hx : l[j]? = some x) : X.cell? ⟨g, 1 + j, none⟩ = some (.int .u8 (x : Nat)) := by
  rw [cell_of_row _ _ _ _ _ _ h]; exact cip_next R l j x hx
theorem Cb.frozen {g R : Nat} {l : List Nat} {X : World} (h : Cb g R l X) (j : Nat) : X.frozen? ⟨g, j, none⟩ = false := frozen_of_row _ _ _ _ _ h
theorem Cb.set0 {g R : Nat} {l : List Nat} {X : World} (h : Cb g R l X) (r : Nat) : Cb g r l (X.setCell ⟨g, 0, none⟩ (.int .i64 (r : Nat))) := by
  unfold Cb; rw [heap_setCell_same _ _ _ _ _ _ h, cip_set0]
theorem Cb.set {g R : Nat} {l : List Nat} {X : World} (h : Cb g R l X) (j v : Nat) : Cb g R (l.set j v) (X.setCell ⟨g, 1 + j, none⟩ (.int .u8 (v : Nat))) := by
  unfold Cb; rw [heap_setCell_same _ _ _ _ _ _ h, cip_set]
theorem Cb.put4 {g R : Nat} {l : List Nat} {X : World} (h : Cb g R l X) (o : Nat) (d : Nat → Nat) : Cb g R (set4 l o d) (Aes.put4 X g (1 + o) d) := by
  rw [put4_eq]
  exact (((h.set o (d 0)).set (o + 1) (d 1)).set (o + 2) (d 2)).set (o + 3) (d 3)
theorem Cb.far {g R : Nat} {l : List Nat} {X : World} (h : Cb g R l X) (g' j : Nat) (v : Value) (hg : g ≠ g') : Cb g R l (X.setCell ⟨g', j, none⟩ v) := by
  unfold Cb; rw [heap_setCell_other _ _ _ _ (by simp only []; exact hg)]; exact h
theorem Cb.there {g R : Nat} {l : List Nat} {X : World} (h : Cb g R l X) (o : Nat) (ho : o + 4 ≤ l.length) : X.there g (1 + o) 4 := fun j hj => by
  obtain ⟨z, hz⟩ : ∃ z, l[o + j]? = some z := ⟨_, List.getElem?_eq_getElem (by omega)⟩
  exact ⟨by rw [Nat.add_assoc, h.cell hz]; rfl, h.frozen _⟩

theorem run_copy4 (ty : TypeId) (X : World) (g o c : Nat) (s : ByteArray) (d : Nat → Nat) (hs : 4 ≤ s.size) (hd : ∀ j < 4, byteAt s j = d j) (ht : X.there g o 4) :
    (Builtin.copy_ #[24, 9] ty #[.slice (some ⟨g, o, none⟩) 4 c, .string s]).run Try.prog X = .ok (goInt 4) (put4 X g o d) := by
  obtain ⟨i0, hi⟩ := info8
  have hmin : Nat.min s.size 4 = 4 := Nat.min_eq_right hs
  have hl : List.take 4 (List.map (fun b : UInt8 => Value.int IntKind.u8 (b.toNat : Int)) s.data.toList) = (valsK .u8 (allF d 4)).toList := by
    apply List.ext_getElem?
    intro j
    rw [List.getElem?_take]
    by_cases hj : j < 4
    · have h1 : (valsK .u8 (allF d 4)).toList[j]? = some (.int .u8 (d j : Nat)) := by
        rw [Array.getElem?_toList]; exact valsK_get .u8 _ _ _ (allF_get d 4 j hj)
      have h2 : s.data.toList[j]? = some s[j] := by
        rw [List.getElem?_eq_getElem (by have : s.data.size = s.size := rfl; rw [Array.length_toList]; omega)]
        rfl
      rw [if_pos hj, h1, ← hd j hj, byteAt_get s j (by omega), List.getElem?_map, h2]
      rfl
    · rw [if_neg hj, List.getElem?_eq_none (by rw [Array.length_toList, valsK_size, allF_length]; omega)]
  have hst := storePut X g o d ht
  rw [← hl] at hst
  simp [Builtin.copy_, run_underlying Try.underlying24, Builtin.lenOf, hmin, sizeOf, typeInfo, hi, Builtin.firstCells, Sem.run_bind, go_sem, hst]

end Aes
end Go.Proofs.Ytpjobjpdfhpobaa
