/-
  Joined: Sb. Conditions: as each part says.
-/
import Derived.Test.YtedoggejbhbebaaJ15
import Derived.Deep.WholeRow
import Derived.Great.BuildSlice

/-
  Contracts of sha.planOf; rows of words in memory; a block's bytes gathered into words. Conditions: none.
-/
namespace Go.Proofs.Ytedoggejbhbebaa
namespace Dg
open Go.ChangeShapes Go.WideShapes Go.ChangeAt Go.RowKit Go.Great
open Sha
set_option linter.unusedVariables false

theorem plan_size : (Try.prog.info? 129).map (·.size) = some 14 := by kernel_rfl

/-- What the rounds differ in. -/
def plan32 : Array Value := #[.int .i64 32, .int .i64 64, .int .i64 2, .int .i64 13, .int .i64 22, .int .i64 6, .int .i64 11, .int .i64 25, .int .i64 7, .int .i64 18, .int .i64 3, .int .i64 17, .int .i64 19, .int .i64 10]
def plan64 : Array Value := #[.int .i64 64, .int .i64 80, .int .i64 28, .int .i64 34, .int .i64 39, .int .i64 14, .int .i64 18, .int .i64 41, .int .i64 1, .int .i64 8, .int .i64 7, .int .i64 19, .int .i64 61, .int .i64 6]

theorem plan256 (w : World) : Calls Try.prog 85 #[.int .i64 256] w fun e w' => e = .returned (.agg plan32) ∧ Below w.heap.size w w' := by
  go_enter Try.func85, Try.ntmps85
  go_wp2
  refine bodyPost_ret (results_cell_row rfl _ _ w.heap.size 129 plan32 (0, 0) _ rfl (heap_alloc_last w _) Try.underlying129 rfl plan_size) rfl ⟨rfl, (Below.refl _ _).alloc (Nat.le_refl _) _⟩
theorem plan384 (w : World) : Calls Try.prog 85 #[.int .i64 384] w fun e w' => e = .returned (.agg plan64) ∧ Below w.heap.size w w' := by
  go_enter Try.func85, Try.ntmps85
  go_wp2
  refine bodyPost_ret (results_cell_row rfl _ _ w.heap.size 129 plan64 (0, 0) _ rfl (heap_alloc_last w _) Try.underlying129 rfl plan_size) rfl ⟨rfl, (Below.refl _ _).alloc (Nat.le_refl _) _⟩
theorem plan512 (w : World) : Calls Try.prog 85 #[.int .i64 512] w fun e w' => e = .returned (.agg plan64) ∧ Below w.heap.size w w' := by
  go_enter Try.func85, Try.ntmps85
  go_wp2
  refine bodyPost_ret (results_cell_row rfl _ _ w.heap.size 129 plan64 (0, 0) _ rfl (heap_alloc_last w _) Try.underlying129 rfl plan_size) rfl ⟨rfl, (Below.refl _ _).alloc (Nat.le_refl _) _⟩

/-- Numbers as words in memory. -/
def valsK (k : IntKind) (l : List Nat) : Array Value := ((l.map Int.ofNat).map (Value.int k)).toArray

theorem valsK_get (k : IntKind) (l : List Nat) (j n : Nat) (h : l[j]? = some n) : (valsK k l)[j]? = some (.int k (n : Nat)) := by
  unfold valsK
  rw [List.getElem?_toArray, List.getElem?_map, List.getElem?_map, h]
  rfl
theorem valsK_size (k : IntKind) (l : List Nat) : (valsK k l).size = l.length := by simp [valsK]
theorem valsK_set (k : IntKind) (l : List Nat) (j v : Nat) : (valsK k l).setIfInBounds j (.int k (v : Nat)) = valsK k (l.set j v) := by
  unfold valsK
  rw [List.setIfInBounds_toArray, List.map_set, List.map_set]
  rfl
theorem valsK_one (k : IntKind) (l : List Nat) : (valsK k l).all (·.oneCell') = true := by
  unfold valsK
  rw [List.all_toArray, List.all_eq_true]
  intro v hv
  obtain ⟨z, -, rfl⟩ := List.mem_map.1 hv
  rfl

/-- A row of words. -/
abbrev Wd (k : IntKind) (T : TypeId) (g : Nat) (l : List Nat) (w : World) : Prop := w.heap[g]? = some (.cells (valsK k l) T (0, 0))

theorem Wd.cell {k : IntKind} {T : TypeId} {g : Nat} {l : List Nat} {w : World} (h : Wd k T g l w) {j x : Nat} (hx : l[j]? = some x) : w.cell? ⟨g, j, none⟩ = some (.int k (x : Nat)) := by
  rw [cell_of_row _ _ _ _ _ _ h]; exact valsK_get k l j x hx
theorem Wd.frozen {k : IntKind} {T : TypeId} {g : Nat} {l : List Nat} {w : World} (h : Wd k T g l w) (j : Nat) : w.frozen? ⟨g, j, none⟩ = false :=
  frozen_of_row _ _ _ _ _ h

theorem keepBlock {g : Nat} {o : Obj} {w w' : World} (h : w.heap[g]? = some o) (hb : Below w.heap.size w w') : w'.heap[g]? = some o := by
  rw [hb.block g (Array.getElem?_eq_some_iff.1 h).1]; exact h
theorem keepAlloc {g : Nat} {o : Obj} {w : World} (h : w.heap[g]? = some o) (x : Obj) : (w.alloc x).heap[g]? = some o := by
  rw [heap_alloc_old _ _ (Array.getElem?_eq_some_iff.1 h).1]; exact h
theorem below_alloc {w w' : World} (hb : Below w.heap.size w w') (x : Obj) : Below w.heap.size w (w'.alloc x) := hb.alloc hb.size _
theorem alloc_size (w : World) (o : Obj) : (w.alloc o).heap.size = w.heap.size + 1 := by
  show (w.heap.push o).size = _
  simp

def zeros80 : List Nat := List.replicate 80 0

/-! ### A block's bytes gathered into words -/

/-- Of the first i bytes those that belong to word j. -/
def part (s : Nat) (b : List Nat) (i j : Nat) : Nat := beVal ((b.drop (s * j)).take (min s (i - s * j)))
def partL (s : Nat) (b : List Nat) (i : Nat) : List Nat := (List.range 80).map (part s b i)

theorem partL_get (s : Nat) (b : List Nat) (i j : Nat) (h : j < 80) : (partL s b i)[j]? = some (part s b i j) := by
  unfold partL
  rw [List.getElem?_map, List.getElem?_range h]
  rfl
theorem partL_length (s : Nat) (b : List Nat) (i : Nat) : (partL s b i).length = 80 := by simp [partL]

theorem partL_zero (s : Nat) (b : List Nat) : partL s b 0 = zeros80 := by
  apply List.ext_getElem?
  intro j
  by_cases h : j < 80
  · rw [partL_get s b 0 j h]
    unfold zeros80 part
    rw [Nat.zero_sub, Nat.min_zero, List.take_zero, List.getElem?_replicate, if_pos h]
    rfl
  · rw [List.getElem?_eq_none (by rw [partL_length]; omega), List.getElem?_eq_none (by simp [zeros80]; omega)]

theorem part_same {s : Nat} (hs : 0 < s) (b : List Nat) (i j : Nat) (h : j ≠ i / s) : part s b (i + 1) j = part s b i j := by
  unfold part
  congr 2
  rcases Nat.lt_or_gt_of_ne h with h | h
  · have h1 : s * j + s ≤ i := by
      have := Nat.mul_le_mul_left s (show j + 1 ≤ i / s from h)
      have h2 := Nat.mul_div_le i s
      rw [Nat.mul_add, Nat.mul_one] at this
      omega
    omega
  · have h1 : i + 1 ≤ s * j := by
      have := Nat.mul_le_mul_left s (show i / s + 1 ≤ j from h)
      have h2 := Nat.lt_mul_div_succ i hs
      omega
    omega

theorem part_next {s : Nat} (hs : 0 < s) (b : List Nat) (i c : Nat) (hc : b[i]? = some c) : part s b (i + 1) (i / s) = part s b i (i / s) * 256 + c := by
  unfold part
  have h1 := Nat.div_add_mod i s
  have h2 := Nat.mod_lt i hs
  have e1 : min s (i + 1 - s * (i / s)) = i % s + 1 := by omega
  have e2 : min s (i - s * (i / s)) = i % s := by omega
  have hi : i < b.length := (List.getElem?_eq_some_iff.1 hc).1
  have hd : (b.drop (s * (i / s)))[i % s]? = some c := by rw [List.getElem?_drop, h1]; exact hc
  have hl : i % s < (b.drop (s * (i / s))).length := (List.getElem?_eq_some_iff.1 hd).1
  rw [e1, e2, List.take_succ_eq_append_getElem hl, beVal_snoc, (List.getElem?_eq_some_iff.1 hd).2]

theorem part_lt {s : Nat} (hs : 0 < s) (b : List Nat) (hb : ∀ c ∈ b, c < 256) (i : Nat) : part s b i (i / s) < 256 ^ (s - 1) := by
  unfold part
  refine Nat.lt_of_lt_of_le (beVal_lt _ fun c hc => hb c (List.mem_of_mem_drop (List.mem_of_mem_take hc))) (Nat.pow_le_pow_right (by decide) ?_)
  have h1 := Nat.div_add_mod i s
  have h2 := Nat.mod_lt i hs
  rw [List.length_take]
  omega

theorem partL_next {s : Nat} (hs : 0 < s) (b : List Nat) (i c : Nat) (hc : b[i]? = some c) : (partL s b i).set (i / s) (part s b i (i / s) * 256 + c) = partL s b (i + 1) := by
  apply List.ext_getElem?
  intro j
  rw [List.getElem?_set]
  by_cases h : j < 80
  · by_cases e : i / s = j
    · rw [if_pos e, partL_length, if_pos (by omega), partL_get _ _ _ _ h, ← e, part_next hs b i c hc]
    · rw [if_neg e, partL_get _ _ _ _ h, partL_get _ _ _ _ h, part_same hs b i j (fun x => e x.symm)]
  · rw [List.getElem?_eq_none (by rw [partL_length]; omega), List.getElem?_eq_none (by rw [partL_length]; omega)]
    split
    · rw [if_neg (by rw [partL_length]; omega)]
    · rfl

/-- The words up to i. -/
def upTo (w : Nat) (m : Nat → Nat) (i : Nat) : List Nat := (List.range 80).map fun j => if j < i then word w m j else 0

theorem upTo_get (w : Nat) (m : Nat → Nat) (i j : Nat) (h : j < 80) : (upTo w m i)[j]? = some (if j < i then word w m j else 0) := by
  unfold upTo
  rw [List.getElem?_map, List.getElem?_range h]
  rfl
theorem upTo_length (w : Nat) (m : Nat → Nat) (i : Nat) : (upTo w m i).length = 80 := by simp [upTo]

theorem upTo_next (w : Nat) (m : Nat → Nat) (i : Nat) : (upTo w m i).set i (word w m i) = upTo w m (i + 1) := by
  apply List.ext_getElem?
  intro j
  rw [List.getElem?_set]
  by_cases h : j < 80
  · by_cases e : i = j
    · subst e
      rw [if_pos rfl, upTo_length, if_pos h, upTo_get _ _ _ _ h, if_pos (by omega)]
    · rw [if_neg e, upTo_get _ _ _ _ h, upTo_get _ _ _ _ h]
      have : (j < i + 1) = (j < i) := by apply propext; omega
      simp only [this]
  · rw [List.getElem?_eq_none (by rw [upTo_length]; omega), List.getElem?_eq_none (by rw [upTo_length]; omega)]
    split
    · rw [if_neg (by rw [upTo_length]; omega)]
    · rfl

theorem partL_all (w s : Nat) (hs : s = w / 8) (h0 : 0 < s) (b : List Nat) (hl : b.length = 16 * s) : partL s b (16 * s) = upTo w (wordsOf w b) 16 := by
  apply List.ext_getElem?
  intro j
  by_cases h : j < 80
  · rw [partL_get _ _ _ _ h, upTo_get _ _ _ _ h]
    congr 1
    unfold part
    by_cases hj : j < 16
    · rw [if_pos hj, word_low _ _ _ hj]
      unfold wordsOf
      rw [← hs]
      congr 2
      have := Nat.mul_le_mul_left s (show j + 1 ≤ 16 from hj)
      rw [Nat.mul_add, Nat.mul_one, Nat.mul_comm s 16] at this
      omega
    · rw [if_neg hj]
      have := Nat.mul_le_mul_left s (show 16 ≤ j by omega)
      rw [Nat.mul_comm s 16] at this
      rw [show min s (16 * s - s * j) = 0 by omega, List.take_zero]
      rfl
  · rw [List.getElem?_eq_none (by rw [partL_length]; omega), List.getElem?_eq_none (by rw [upTo_length]; omega)]

end Dg
end Go.Proofs.Ytedoggejbhbebaa
