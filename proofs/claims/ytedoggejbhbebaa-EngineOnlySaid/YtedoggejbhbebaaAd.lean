/-
  Rows of numbers in memory; contracts of the reference's Table, of aes.inverses and aes.Sub, and of the statements' awake. Conditions: the number is a byte.
-/
import Derived.Test.YtedoggejbhbebaaAa
import Derived.Deep.WholeRow
import Derived.Great.BuildSlice
import Derived.Deep.QuietTactic
import Derived.BigQuiet
namespace Go.Proofs.Ytedoggejbhbebaa
namespace Aes
open Go.ChangeShapes Go.WideShapes Go.ChangeAt Go.RowKit Go.Great
open Gf
set_option linter.unusedVariables false

theorem below_link {w wr w3 : World} (h : Below w.heap.size w wr) (k : Below wr.heap.size wr w3) : Below w.heap.size w w3 := h.trans (k.mono h.size)
theorem below_drewN (w : World) (n : Nat) : Below w.heap.size w (w.drewN n) := ⟨rfl, rfl, rfl, Nat.le_refl _, fun _ _ => rfl⟩
theorem below_alloc {w w' : World} (hb : Below w.heap.size w w') (x : Obj) : Below w.heap.size w (w'.alloc x) := hb.alloc hb.size _
theorem alloc_size (w : World) (o : Obj) : (w.alloc o).heap.size = w.heap.size + 1 := by
  show (w.heap.push o).size = _
  simp
theorem keepBlock {g : Nat} {o : Obj} {w w' : World} (h : w.heap[g]? = some o) (hb : Below w.heap.size w w') : w'.heap[g]? = some o := by
  rw [hb.block g (Array.getElem?_eq_some_iff.1 h).1]; exact h
theorem keepAlloc {g : Nat} {o : Obj} {w : World} (h : w.heap[g]? = some o) (x : Obj) : (w.alloc x).heap[g]? = some o := by
  rw [heap_alloc_old _ _ (Array.getElem?_eq_some_iff.1 h).1]; exact h
theorem below_setRow {B : Nat} {w w' : World} (hb : Below B w w') {g : Nat} (hg : B ≤ g) (c : Array Value) : Below B w (w'.setRow g c) := by
  refine hb.trans ⟨rfl, rfl, rfl, by simp, fun k hk => setRow_other _ _ _ _ (by omega)⟩

/-- Numbers as words in memory. -/
def valsK (k : IntKind) (l : List Nat) : Array Value := ((l.map Int.ofNat).map (Value.int k)).toArray

theorem valsK_get (k : IntKind) (l : List Nat) (j n : Nat) (h : l[j]? = some n) : (valsK k l)[j]? = some (.int k (n : Nat)) := by
  unfold valsK
  rw [List.getElem?_toArray, List.getElem?_map, List.getElem?_map, h]
  rfl
theorem valsK_size (k : IntKind) (l : List Nat) : (valsK k l).size = l.length := by simp [valsK]
theorem valsK_set (k : IntKind) (l : List Nat) (j v : Nat) : (valsK k l).setIfInBounds j (.int k (v : Nat)) = valsK k (l.set j v) := by
  unfold valsK
  rw [List.setIfInBounds_toArray, List.map_set, List.map_set]
  rfl
theorem valsK_one (k : IntKind) (l : List Nat) : (valsK k l).all (·.oneCell') = true := by
  unfold valsK
  rw [List.all_toArray, List.all_eq_true]
  intro v hv
  obtain ⟨z, -, rfl⟩ := List.mem_map.1 hv
  rfl

/-- A row of words. -/
abbrev Wd (k : IntKind) (T : TypeId) (g : Nat) (l : List Nat) (w : World) : Prop := w.heap[g]? = some (.cells (valsK k l) T (0, 0))

theorem Wd.cell {k : IntKind} {T : TypeId} {g : Nat} {l : List Nat} {w : World} (h : Wd k T g l w) {j x : Nat} (hx : l[j]? = some x) : w.cell? ⟨g, j, none⟩ = some (.int k (x : Nat)) := by
  rw [cell_of_row _ _ _ _ _ _ h]; exact valsK_get k l j x hx
theorem Wd.frozen {k : IntKind} {T : TypeId} {g : Nat} {l : List Nat} {w : World} (h : Wd k T g l w) (j : Nat) : w.frozen? ⟨g, j, none⟩ = false :=
  frozen_of_row _ _ _ _ _ h
theorem Wd.set {k : IntKind} {T : TypeId} {g : Nat} {l : List Nat} {w : World} (h : Wd k T g l w) (j v : Nat) : Wd k T g (l.set j v) (w.setCell ⟨g, j, none⟩ (.int k (v : Nat))) := by
  unfold Wd; rw [heap_setCell_same _ _ _ _ _ _ h, valsK_set]
theorem Wd.far {k : IntKind} {T : TypeId} {g : Nat} {l : List Nat} {w : World} (h : Wd k T g l w) (g' j : Nat) (v : Value) (hg : g ≠ g') : Wd k T g l (w.setCell ⟨g', j, none⟩ v) := by
  unfold Wd; rw [heap_setCell_other _ _ _ _ (by simp only []; exact hg)]; exact h

/-- The first i numbers that f gives, 0 behind them. -/
def upF (f : Nat → Nat) (n i : Nat) : List Nat := (List.range n).map fun j => if j < i then f j else 0
theorem upF_get (f : Nat → Nat) (n i j : Nat) (h : j < n) : (upF f n i)[j]? = some (if j < i then f j else 0) := by
  unfold upF
  rw [List.getElem?_map, List.getElem?_range h]
  rfl
theorem upF_length (f : Nat → Nat) (n i : Nat) : (upF f n i).length = n := by simp [upF]
theorem upF_next (f : Nat → Nat) (n i : Nat) : (upF f n i).set i (f i) = upF f n (i + 1) := by
  apply List.ext_getElem?
  intro j
  rw [List.getElem?_set]
  by_cases h : j < n
  · by_cases e : i = j
    · subst e; rw [if_pos rfl, upF_length, if_pos h, upF_get _ _ _ _ h, if_pos (by omega)]
    · rw [if_neg e, upF_get _ _ _ _ h, upF_get _ _ _ _ h]
      have : (j < i + 1) = (j < i) := by apply propext; omega
      simp only [this]
  · rw [List.getElem?_eq_none (by rw [upF_length]; omega), List.getElem?_eq_none (by rw [upF_length]; omega)]
    split
    · rw [if_neg (by rw [upF_length]; omega)]
    · rfl
def zerosN (n : Nat) : List Nat := List.replicate n 0
theorem upF_zero (f : Nat → Nat) (n : Nat) : upF f n 0 = zerosN n := by
  apply List.ext_getElem?
  intro j
  by_cases h : j < n
  · rw [upF_get f n 0 j h]
    unfold zerosN
    rw [List.getElem?_replicate, if_pos h]
    rfl
  · rw [List.getElem?_eq_none (by rw [upF_length]; omega), List.getElem?_eq_none (by simp [zerosN]; omega)]
/-- All n. -/
def allF (f : Nat → Nat) (n : Nat) : List Nat := (List.range n).map f
theorem upF_all (f : Nat → Nat) (n : Nat) : upF f n n = allF f n := by
  unfold upF allF
  exact List.map_congr_left fun j hj => if_pos (List.mem_range.1 hj)
theorem allF_length (f : Nat → Nat) (n : Nat) : (allF f n).length = n := by simp [allF]
theorem allF_get (f : Nat → Nat) (n j : Nat) (h : j < n) : (allF f n)[j]? = some (f j) := by
  unfold allF; rw [List.getElem?_map, List.getElem?_range h]; rfl

/-- An element of an array of integers. -/
theorem idx_int {P : Program} (w : World) {t e : TypeId} {n : Nat} {k kk : IntKind} {i0 : TypeInfo} {cs : Array Value} {j : Nat} {v : Value} (ht : P.underlying t = some (.array n e)) (he : P.underlying e = some (.int k)) (hi : P.info? e = some i0) (hs : P.cellsOf e = 1)
    (hj : j < n) (hv : cs[j]? = some v) : (Instr.index t (.agg cs) (.int kk (j : Nat))).run P w = .ok v w := by
  have h1 : (0 : Int) ≤ (j : Int) ∧ (j : Int) < (n : Int) := by omega
  simp [Instr.index, asIntOf, run_underlying ht, part, isAgg, run_underlying he, run_sizeOf w hi, hs, hj, hv, go_sem]

end Aes
end Go.Proofs.Ytedoggejbhbebaa
