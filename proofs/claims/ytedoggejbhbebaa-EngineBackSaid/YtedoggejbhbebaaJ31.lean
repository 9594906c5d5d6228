/-
  Joined: Qa. Conditions: as each part says.
-/
import Derived.Test.YtedoggejbhbebaaJ28
import Derived.Test.YtedoggejbhbebaaJ30
import Derived.Great.BuildSlice

/-
  Rows of bytes of a call's own in memory, told by their cells: what []byte(s) and make give, and what string(b) reads. Conditions: the numbers are bytes.
-/
namespace Go.Proofs.Ytedoggejbhbebaa
namespace Gcm
open Go.ChangeShapes Go.WideShapes Go.ChangeAt Go.RowKit Go.Great Go.ChangeMaps
open Gf Aes
set_option linter.unusedVariables false
set_option maxRecDepth 100000

/-- A row of bytes in block g, made since w. -/
structure Rw (w : World) (g : Nat) (l : List Nat) (X : World) : Prop where
  cell : ∀ j x : Nat, l[j]? = some x → X.cell? ⟨g, j, none⟩ = some (.int .u8 (x : Nat))
  frozen : ∀ j : Nat, j < l.length → X.frozen? ⟨g, j, none⟩ = false
  far : w.heap.size ≤ g
  lt : g < X.heap.size
  below : Below w.heap.size w X
theorem Rw.next {w X Y : World} {g : Nat} {l : List Nat} (h : Rw w g l X) (hb : Below X.heap.size X Y) : Rw w g l Y :=
  ⟨fun j x hx => by rw [hb.cell (p := ⟨g, j, none⟩) h.lt]; exact h.cell j x hx, fun j hj => by rw [hb.frozen (p := ⟨g, j, none⟩) h.lt]; exact h.frozen j hj, h.far, Nat.lt_of_lt_of_le h.lt hb.size, below_link h.below hb⟩
theorem Rw.drew {w X : World} {g : Nat} {l : List Nat} (h : Rw w g l X) : Rw w g l X.drew := ⟨h.cell, h.frozen, h.far, h.lt, h.below.drew⟩
theorem Rw.set {w X : World} {g : Nat} {l : List Nat} (h : Rw w g l X) {j : Nat} (hj : j < l.length) (v : Nat) : Rw w g (l.set j v) (X.setCell ⟨g, j, none⟩ (.int .u8 (v : Nat))) where
  cell i x hx := by
    rw [List.getElem?_set] at hx
    by_cases e : j = i
    · subst e
      rw [if_pos rfl, if_pos hj] at hx
      injection hx with hx
      subst hx
      obtain ⟨y, hy⟩ : ∃ y, l[j]? = some y := ⟨_, List.getElem?_eq_getElem hj⟩
      exact World.cell?_setCell_same _ _ _ (h.cell j y hy)
    · rw [if_neg e] at hx
      rw [World.cell?_setCell_other _ _ _ _ (fun he => e (by injection he))]
      exact h.cell i x hx
  frozen i hi := by
    rw [List.length_set] at hi
    rw [World.frozen?_setCell]
    exact h.frozen i hi
  far := h.far
  lt := by simpa using h.lt
  below := h.below.setCell (by simp only []; exact h.far) _
/-- A store into another block. -/
theorem Rw.other {w X : World} {g : Nat} {l : List Nat} (h : Rw w g l X) {g' j : Nat} (hg : g ≠ g') (hw : w.heap.size ≤ g') (v : Value) : Rw w g l (X.setCell ⟨g', j, none⟩ v) where
  cell i x hx := by
    rw [World.cell?_setCell_other _ _ _ _ (fun he => hg (by injection he with e; exact e.symm))]
    exact h.cell i x hx
  frozen i hi := by rw [World.frozen?_setCell]; exact h.frozen i hi
  far := h.far
  lt := by simpa using h.lt
  below := h.below.setCell (by simp only []; exact hw) _

/-- What []byte(s) gives. -/
theorem bytes_row (b : ByteArray) (w : World) : ∃ cap W, (convert 9 97 (.string b)).run Try.prog w = .ok (.slice (some ⟨w.heap.size, 0, none⟩) b.size cap) W ∧ Rw w w.heap.size (nums b) W := by
  refine ⟨_, _, run_bytes_of_string (P := Try.prog) w 9 97 5 b Try.underlying9 Try.underlying97 Try.underlying5, ⟨fun j x h => ?_, fun j h => ?_, Nat.le_refl _, ?_, ((Below.refl _ _).drew).alloc (Nat.le_refl _) _⟩⟩
  · have hj : j < b.size := by
      have := (List.getElem?_eq_some_iff.1 h).1
      rwa [nums_length] at this
    have e := nums_get b j hj
    rw [h] at e
    injection e with e
    rw [e]
    exact (World.cell?_alloc_mark w.drew _ 5 _ j).trans (bytesRow_at b _ j hj)
  · rw [nums_length] at h
    refine (World.frozen?_alloc_mark w.drew _ 5 _ _ j).trans ?_
    have : b.size ≤ (bytesRow b (grownCap w b.size 0 5)).size := by
      unfold bytesRow
      rw [Array.size_append, Array.size_map]
      exact Nat.le_add_right _ _
    simp
    omega
  · show w.heap.size < (w.drew.alloc _).heap.size
    rw [alloc_size]
    exact Nat.lt_succ_self _

/-- What make gives. -/
theorem make_row (n : Nat) (hn : n ≤ 1073741824) (X : World) :
    (Instr.makeSlice 97 (.int .i64 (n : Nat)) (.int .i64 (n : Nat))).run Try.prog X = .ok (.slice (some ⟨X.heap.size, 0, none⟩) n n) (X.alloc (.cells (valsK .u8 (List.replicate n 0)) 5)) := by
  obtain ⟨i0, hi, hz0, hz1, hz2⟩ := info_parts infoByte
  have h := run_make (P := Try.prog) X 97 5 i0 (.int .u8 0) Try.underlying97 hi hz0 .i64 .i64 (n : Int) (n : Int) (by omega) (Int.le_refl _) (by rw [hz2]; omega) (by omega)
  rw [h, hz1, Int.toNat_natCast, Nat.mul_one]
  congr 3
  apply Array.ext'
  rw [show (Value.int .u8 0).cells = #[.int .u8 0] from rfl, toList_madeCells_one]
  simp [valsK]
theorem rw_made (w X : World) (l : List Nat) (hb : Below w.heap.size w X) : Rw w X.heap.size l (X.alloc (.cells (valsK .u8 l) 5)) :=
  have hr := heap_alloc_new X (.cells (valsK .u8 l) 5)
  ⟨fun j x h => Wd.cell (T := 5) hr h, fun j h => Wd.frozen (T := 5) hr j, hb.size, by rw [alloc_size]; exact Nat.lt_succ_self _, below_alloc hb _⟩

/-- What string(b) reads. -/
theorem Rw.back {w X : World} {g : Nat} {l : List Nat} (h : Rw w g l X) (hs : Small l) (n c : Nat) (hn : l.length = n) : (convert 97 9 (.slice (some ⟨g, 0, none⟩) n c)).run Try.prog X = .ok (.string (toB l)) X := by
  have e : n = (l.map UInt8.ofNat).length := by rw [List.length_map, hn]
  have h16 := run_convert_bytes_back (P := Try.prog) X 97 9 5 ⟨g, 0, none⟩ c (l.map UInt8.ofNat) Try.underlying97 Try.underlying5 Try.underlying9 (fun j hj => by
    have hj' : j < l.length := by rw [List.length_map] at hj; exact hj
    have hc := hs l[j] (List.getElem_mem hj')
    have := h.cell j _ (List.getElem?_eq_getElem hj')
    have e : (⟨g, 0, none⟩ : Addr).add j = ⟨g, j, none⟩ := by unfold Addr.add; split <;> simp_all
    rw [e]
    simpa [Nat.mod_eq_of_lt hc] using this)
  rw [← e] at h16
  exact h16

/-- Below i as f says, from there on as g says. -/
def blend (f g : Nat → Nat) (n i : Nat) : List Nat := (List.range n).map fun j => if j < i then f j else g j
theorem blend_length (f g : Nat → Nat) (n i : Nat) : (blend f g n i).length = n := by simp [blend]
theorem blend_get (f g : Nat → Nat) {n i j : Nat} (h : j < n) : (blend f g n i)[j]? = some (if j < i then f j else g j) := by
  unfold blend
  rw [List.getElem?_map, List.getElem?_range h]
  rfl
theorem blend_next (f g : Nat → Nat) (n i : Nat) : (blend f g n i).set i (f i) = blend f g n (i + 1) := by
  apply List.ext_getElem?
  intro j
  rw [List.getElem?_set]
  by_cases h : j < n
  · by_cases e : i = j
    · subst e; rw [if_pos rfl, blend_length, if_pos h, blend_get _ _ h, if_pos (by omega)]
    · rw [if_neg e, blend_get _ _ h, blend_get _ _ h]
      have : (j < i + 1) = (j < i) := by apply propext; omega
      simp only [this]
  · rw [List.getElem?_eq_none (by rw [blend_length]; omega), List.getElem?_eq_none (by rw [blend_length]; omega)]
    split
    · rw [if_neg (by rw [blend_length]; omega)]
    · rfl
theorem blend_start (l : List Nat) (f : Nat → Nat) : blend f (fun j => l.getD j 0) l.length 0 = l := by
  apply List.ext_getElem?
  intro j
  by_cases h : j < l.length
  · rw [blend_get _ _ h, if_neg (by omega), List.getD_eq_getElem?_getD, List.getElem?_eq_getElem h]; rfl
  · rw [List.getElem?_eq_none (by rw [blend_length]; omega), List.getElem?_eq_none (by omega)]
theorem blend_zeros (f : Nat → Nat) (n : Nat) : blend f (fun _ => 0) n 0 = List.replicate n 0 := by
  apply List.ext_getElem?
  intro j
  by_cases h : j < n
  · rw [blend_get _ _ h, if_neg (by omega), List.getElem?_replicate, if_pos h]
  · rw [List.getElem?_eq_none (by rw [blend_length]; omega), List.getElem?_eq_none (by simp; omega)]
theorem blend_all (f g : Nat → Nat) {n i : Nat} (h : n ≤ i) : blend f g n i = (List.range n).map f := by
  unfold blend
  apply List.map_congr_left
  intro j hj
  rw [if_pos (by have := List.mem_range.1 hj; omega)]

end Gcm
end Go.Proofs.Ytedoggejbhbebaa
