/-
  Contracts of dromondref05.K, H and of the method block of its Form. Conditions: the block has sixteen words.
-/
import Derived.Test.YtfahmbkeibeceaaDoorTb
import Derived.Test.YtfahmbkeibeceaaDoorSd
import Derived.Test.YtfahmbkeibeceaaDoorSe
namespace Go.Proofs.YtfahmbkeibeceaaDoor
open Go.ChangeShapes Go.WideShapes Go.ChangeAt Go.RowKit Go.Great
open Sha
set_option linter.unusedVariables false

theorem ks_size : (valsK .u64 ks).size = 80 := by decide
theorem ks_one : (valsK .u64 ks).all (·.oneCell') = true := by kernel_rfl
theorem row80_size : (Tryd.prog.info? 67).map (·.size) = some 80 := by kernel_rfl

set_option maxRecDepth 100000 in
theorem kRef (w : World) : Calls Tryd.prog 40 #[] w fun e w' => e = .returned (.agg (valsK .u64 ks)) ∧ w' = w.alloc (.cells (valsK .u64 ks) 67) := by
  have hz := zero80_64.1
  have hs : (valsK .u64 zeros80).size = 80 := by rw [valsK_size]; rfl
  have hne : ¬ valsK .u64 zeros80 = #[] := zeros_ne_64
  generalize valsK .u64 zeros80 = zs at *
  go_enter Tryd.func40, Tryd.ntmps40
  apply wp_seq_k; intro K1 hK1
  have HK1 := Lib.hid hK1; clear hK1
  go_wp2
  refine HK1.out _ _ ?_
  apply wp_seq_k; intro K2 hK2
  apply wp_region_lit
  refine wpList_buildFlatArrTo rfl 67 42 80 _ rfl .u64 (ks.map Int.ofNat) (some 1) rfl (by kernel_rfl) (by kernel_rfl) (by kernel_rfl) (by kernel_rfl) ?_
  refine wpList_store_rowTo rfl 67 _ _ rfl rfl w.heap.size (valsK .u64 ks) rfl rfl 67 zs (heap_alloc_last w _) (row80_size.trans (congrArg some ks_size.symm)) (hs.trans ks_size.symm) ks_one ?_
  apply wpList_nil
  refine hK2 _ _ ?_
  rw [World.setRow_alloc_new]
  apply wp_ret
  refine bodyPost_ret (results_cell_row rfl _ _ w.heap.size 67 (valsK .u64 ks) (0, 0) _ rfl (heap_alloc_last w _) under80_64 rfl (row80_size.trans (congrArg some ks_size.symm))) rfl ⟨rfl, rfl⟩

/-- Bytes in memory. -/
def Bs (g o : Nat) (l : List Nat) (X : World) : Prop := ∀ (j c : Nat), l[j]? = some c → X.cell? ⟨g, o + j, none⟩ = some (.int .u8 (c : Nat))
theorem Bs.of {g o : Nat} {l : List Nat} {X Y : World} (h : Bs g o l X) (e : Y.heap[g]? = X.heap[g]?) : Bs g o l Y := fun j c hc => by rw [World.cell?_of_block (a := ⟨g, o + j, none⟩) (w := X) e]; exact h j c hc

/-- The first bytes of a word. -/
def pv (s : Nat) (b : List Nat) (i j : Nat) : Nat := beVal ((b.drop (s * i)).take j)
theorem pv_next {s : Nat} {b : List Nat} {i j c : Nat} (h : b[s * i + j]? = some c) : pv s b i (j + 1) = pv s b i j * 256 + c := by
  unfold pv
  have hd : (b.drop (s * i))[j]? = some c := by rw [List.getElem?_drop]; exact h
  rw [List.take_succ_eq_append_getElem (List.getElem?_eq_some_iff.1 hd).1, beVal_snoc, (List.getElem?_eq_some_iff.1 hd).2]
theorem pv_lt {s : Nat} {b : List Nat} (hb : ∀ c ∈ b, c < 256) (i j : Nat) (hj : j ≤ 7) : pv s b i j < 72057594037927936 := by
  unfold pv
  refine Nat.lt_of_lt_of_le (beVal_lt _ fun c hc => hb c (List.mem_of_mem_drop (List.mem_of_mem_take hc))) (show _ ≤ 256 ^ 7 from Nat.pow_le_pow_right (by decide) ?_)
  rw [List.length_take]; omega
theorem pv_zero (s : Nat) (b : List Nat) (i : Nat) : pv s b i 0 = 0 := by unfold pv; rw [List.take_zero]; rfl

theorem upTo_set0 (w : Nat) (m : Nat → Nat) (i : Nat) (hi : i < 80) : (upTo w m i).set i 0 = upTo w m i := by
  apply List.ext_getElem?
  intro j
  rw [List.getElem?_set]
  by_cases e : i = j
  · subst e
    rw [if_pos rfl, upTo_length, if_pos hi, upTo_get _ _ _ _ hi, if_neg (by omega)]
  · rw [if_neg e]
theorem upTo_zero (w : Nat) (m : Nat → Nat) : upTo w m 0 = zeros80 := by
  apply List.ext_getElem?
  intro j
  by_cases h : j < 80
  · rw [upTo_get _ _ _ _ h, if_neg (by omega), zeros80, List.getElem?_replicate, if_pos h]
  · rw [List.getElem?_eq_none (by rw [upTo_length]; omega), List.getElem?_eq_none (by simp [zeros80]; omega)]

/-- Words moved up from the place j on. -/
def moved (l : List Nat) (j : Nat) : List Nat := l.take (j + 1) ++ (l.drop j).take (7 - j)

theorem not64 (a : Nat) (ha : a < 18446744073709551616) : bits .xor .u64 IntKind.u64.max (a : Int) = ((18446744073709551615 - a : Nat) : Int) := not_64 a ha

/-- The memory of block, ahead of the rounds. -/
structure Ba32 (w : World) (gb ob : Nat) (bs l : List Nat) (s : St) (X : World) : Prop where
  hf : X.heap[w.heap.size]? = some (.cells form32 47 (0, 0))
  hh : Wd .u64 49 (w.heap.size + 1) s.list X
  hr : Wd .u64 49 (w.heap.size + 1 + 1) [0, 0, 0, 0, 0, 0, 0, 0] X
  hw : Wd .u64 67 (w.heap.size + 1 + 1 + 1) l X
  hb : Bs gb ob bs X
  lt : gb < w.heap.size
  below : Below w.heap.size w X

theorem Ba32.next {w X Y : World} {gb ob : Nat} {bs l : List Nat} {s : St} (h : Ba32 w gb ob bs l s X) (hb : Below X.heap.size X Y) : Ba32 w gb ob bs l s Y :=
  ⟨keepBlock h.hf hb, keepBlock h.hh hb, keepBlock h.hr hb, keepBlock h.hw hb, h.hb.of (hb.block gb (Nat.lt_of_lt_of_le h.lt h.below.size)), h.lt, below_link h.below hb⟩
theorem Ba32.drew {w X : World} {gb ob : Nat} {bs l : List Nat} {s : St} (h : Ba32 w gb ob bs l s X) : Ba32 w gb ob bs l s X.drew :=
  ⟨h.hf, h.hh, h.hr, h.hw, h.hb, h.lt, h.below.drew⟩
theorem Ba32.step {w X : World} {gb ob : Nat} {bs l : List Nat} {s : St} (h : Ba32 w gb ob bs l s X) (j v : Nat) : Ba32 w gb ob bs (l.set j v) s (X.setCell ⟨w.heap.size + 1 + 1 + 1, j, none⟩ (.int .u64 (v : Nat))) where
  hf := by rw [heap_setCell_other _ _ _ _ (by simp only []; omega)]; exact h.hf
  hh := by unfold Wd; rw [heap_setCell_other _ _ _ _ (by simp only []; omega)]; exact h.hh
  hr := by unfold Wd; rw [heap_setCell_other _ _ _ _ (by simp only []; omega)]; exact h.hr
  hw := h.hw.setE j v
  hb := h.hb.of (by have := h.lt; exact heap_setCell_other _ _ _ _ (by simp only []; omega))
  lt := h.lt
  below := h.below.setCell (by simp only []; omega) _
theorem Ba32.form {w X : World} {gb ob : Nat} {bs l : List Nat} {s : St} (h : Ba32 w gb ob bs l s X) (j : Nat) : X.cell? ⟨w.heap.size, j, none⟩ = form32[j]? := cell_of_row _ _ _ _ _ _ h.hf
theorem Ba32.look {w X : World} {gb ob : Nat} {bs l : List Nat} {s : St} (h : Ba32 w gb ob bs l s X) {a b c d i A B C D : Nat} (ha : l[a]? = some A) (hb : l[b]? = some B) (hc : l[c]? = some C) (hd : l[d]? = some D) (hi : i < l.length) :
    X.cell? ⟨w.heap.size, 0, none⟩ = some (.int .i64 32) ∧ X.cell? ⟨w.heap.size, 1, none⟩ = some (.int .i64 64) ∧ X.cell? ⟨w.heap.size, 2, none⟩ = some (.int .u64 2) ∧ X.cell? ⟨w.heap.size, 3, none⟩ = some (.int .u64 13) ∧ X.cell? ⟨w.heap.size, 4, none⟩ = some (.int .u64 22) ∧ X.cell? ⟨w.heap.size, 5, none⟩ = some (.int .u64 6) ∧ X.cell? ⟨w.heap.size, 6, none⟩ = some (.int .u64 11) ∧ X.cell? ⟨w.heap.size, 7, none⟩ = some (.int .u64 25) ∧ X.cell? ⟨w.heap.size, 8, none⟩ = some (.int .u64 7) ∧ X.cell? ⟨w.heap.size, 9, none⟩ = some (.int .u64 18) ∧ X.cell? ⟨w.heap.size, 10, none⟩ = some (.int .u64 3) ∧ X.cell? ⟨w.heap.size, 11, none⟩ = some (.int .u64 17) ∧ X.cell? ⟨w.heap.size, 12, none⟩ = some (.int .u64 19) ∧ X.cell? ⟨w.heap.size, 13, none⟩ = some (.int .u64 10) ∧ X.cell? ⟨w.heap.size + 1 + 1 + 1, a, none⟩ = some (.int .u64 (A : Nat)) ∧ X.cell? ⟨w.heap.size + 1 + 1 + 1, b, none⟩ = some (.int .u64 (B : Nat)) ∧ X.cell? ⟨w.heap.size + 1 + 1 + 1, c, none⟩ = some (.int .u64 (C : Nat)) ∧ X.cell? ⟨w.heap.size + 1 + 1 + 1, d, none⟩ = some (.int .u64 (D : Nat)) ∧ X.cell? ⟨w.heap.size + 1 + 1 + 1, i, none⟩ = some (peek X ⟨w.heap.size + 1 + 1 + 1, i, none⟩) ∧ X.frozen? ⟨w.heap.size + 1 + 1 + 1, i, none⟩ = false :=
  ⟨h.form 0, h.form 1, h.form 2, h.form 3, h.form 4, h.form 5, h.form 6, h.form 7, h.form 8, h.form 9, h.form 10, h.form 11, h.form 12, h.form 13, h.hw.cell ha, h.hw.cell hb, h.hw.cell hc, h.hw.cell hd, peek_some (h.hw.cell (List.getElem?_eq_getElem hi)), h.hw.frozen i⟩

/-- The memory of block, in the rounds. -/
structure Bb32 (w : World) (Kb : Nat) (l hl vl : List Nat) (X : World) : Prop where
  hf : X.heap[w.heap.size]? = some (.cells form32 47 (0, 0))
  hh : Wd .u64 49 (w.heap.size + 1) hl X
  hr : Wd .u64 49 (w.heap.size + 1 + 1) [0, 0, 0, 0, 0, 0, 0, 0] X
  hw : Wd .u64 67 (w.heap.size + 1 + 1 + 1) l X
  hk : Wd .u64 67 Kb ks X
  hv : Wd .u64 49 (Kb + 1) vl X
  lt : w.heap.size + 1 + 1 + 1 < Kb
  below : Below w.heap.size w X
theorem Bb32.next {w X Y : World} {Kb : Nat} {l hl vl : List Nat} (h : Bb32 w Kb l hl vl X) (hb : Below X.heap.size X Y) : Bb32 w Kb l hl vl Y :=
  ⟨keepBlock h.hf hb, keepBlock h.hh hb, keepBlock h.hr hb, keepBlock h.hw hb, keepBlock h.hk hb, keepBlock h.hv hb, h.lt, below_link h.below hb⟩
theorem Bb32.drew {w X : World} {Kb : Nat} {l hl vl : List Nat} (h : Bb32 w Kb l hl vl X) : Bb32 w Kb l hl vl X.drew :=
  ⟨h.hf, h.hh, h.hr, h.hw, h.hk, h.hv, h.lt, h.below.drew⟩
theorem Bb32.stepV {w X : World} {Kb : Nat} {l hl vl : List Nat} (h : Bb32 w Kb l hl vl X) (j v : Nat) : Bb32 w Kb l hl (vl.set j v) (X.setCell ⟨Kb + 1, j, none⟩ (.int .u64 (v : Nat))) where
  hf := by have := h.lt; rw [heap_setCell_other _ _ _ _ (by simp only []; omega)]; exact h.hf
  hh := by have := h.lt; unfold Wd; rw [heap_setCell_other _ _ _ _ (by simp only []; omega)]; exact h.hh
  hr := by have := h.lt; unfold Wd; rw [heap_setCell_other _ _ _ _ (by simp only []; omega)]; exact h.hr
  hw := by have := h.lt; unfold Wd; rw [heap_setCell_other _ _ _ _ (by simp only []; omega)]; exact h.hw
  hk := by have := h.lt; unfold Wd; rw [heap_setCell_other _ _ _ _ (by simp only []; omega)]; exact h.hk
  hv := h.hv.setE j v
  lt := h.lt
  below := h.below.setCell (by have := h.lt; simp only []; omega) _
theorem Bb32.stepH {w X : World} {Kb : Nat} {l hl vl : List Nat} (h : Bb32 w Kb l hl vl X) (j v : Nat) : Bb32 w Kb l (hl.set j v) vl (X.setCell ⟨w.heap.size + 1, j, none⟩ (.int .u64 (v : Nat))) where
  hf := by have := h.lt; rw [heap_setCell_other _ _ _ _ (by simp only []; omega)]; exact h.hf
  hh := h.hh.setE j v
  hr := by have := h.lt; unfold Wd; rw [heap_setCell_other _ _ _ _ (by simp only []; omega)]; exact h.hr
  hw := by have := h.lt; unfold Wd; rw [heap_setCell_other _ _ _ _ (by simp only []; omega)]; exact h.hw
  hk := by have := h.lt; unfold Wd; rw [heap_setCell_other _ _ _ _ (by simp only []; omega)]; exact h.hk
  hv := by have := h.lt; unfold Wd; rw [heap_setCell_other _ _ _ _ (by simp only []; omega)]; exact h.hv
  lt := h.lt
  below := h.below.setCell (by have := h.lt; simp only []; omega) _
theorem Bb32.form {w X : World} {Kb : Nat} {l hl vl : List Nat} (h : Bb32 w Kb l hl vl X) (j : Nat) : X.cell? ⟨w.heap.size, j, none⟩ = form32[j]? := cell_of_row _ _ _ _ _ _ h.hf
theorem Bb32.lookC {w X : World} {Kb : Nat} {l hl vl : List Nat} (h : Bb32 w Kb l hl vl X) {e f g : Nat} (h4 : vl[4]? = some e) (h5 : vl[5]? = some f) (h6 : vl[6]? = some g) :
    X.cell? ⟨w.heap.size, 0, none⟩ = some (.int .i64 32) ∧ X.cell? ⟨w.heap.size, 1, none⟩ = some (.int .i64 64) ∧ X.cell? ⟨w.heap.size, 2, none⟩ = some (.int .u64 2) ∧ X.cell? ⟨w.heap.size, 3, none⟩ = some (.int .u64 13) ∧ X.cell? ⟨w.heap.size, 4, none⟩ = some (.int .u64 22) ∧ X.cell? ⟨w.heap.size, 5, none⟩ = some (.int .u64 6) ∧ X.cell? ⟨w.heap.size, 6, none⟩ = some (.int .u64 11) ∧ X.cell? ⟨w.heap.size, 7, none⟩ = some (.int .u64 25) ∧ X.cell? ⟨w.heap.size, 8, none⟩ = some (.int .u64 7) ∧ X.cell? ⟨w.heap.size, 9, none⟩ = some (.int .u64 18) ∧ X.cell? ⟨w.heap.size, 10, none⟩ = some (.int .u64 3) ∧ X.cell? ⟨w.heap.size, 11, none⟩ = some (.int .u64 17) ∧ X.cell? ⟨w.heap.size, 12, none⟩ = some (.int .u64 19) ∧ X.cell? ⟨w.heap.size, 13, none⟩ = some (.int .u64 10) ∧ X.cell? ⟨Kb + 1, 4, none⟩ = some (.int .u64 (e : Nat)) ∧ X.cell? ⟨Kb + 1, 5, none⟩ = some (.int .u64 (f : Nat)) ∧ X.cell? ⟨Kb + 1, 6, none⟩ = some (.int .u64 (g : Nat)) := ⟨h.form 0, h.form 1, h.form 2, h.form 3, h.form 4, h.form 5, h.form 6, h.form 7, h.form 8, h.form 9, h.form 10, h.form 11, h.form 12, h.form 13, h.hv.cell h4, h.hv.cell h5, h.hv.cell h6⟩
theorem Bb32.lookT {w X : World} {Kb : Nat} {l hl vl : List Nat} (q : Bb32 w Kb l hl vl X) {e h x i : Nat} (h4 : vl[4]? = some e) (h7 : vl[7]? = some h) (hx : l[i]? = some x) :
    X.cell? ⟨w.heap.size, 0, none⟩ = some (.int .i64 32) ∧ X.cell? ⟨w.heap.size, 1, none⟩ = some (.int .i64 64) ∧ X.cell? ⟨w.heap.size, 2, none⟩ = some (.int .u64 2) ∧ X.cell? ⟨w.heap.size, 3, none⟩ = some (.int .u64 13) ∧ X.cell? ⟨w.heap.size, 4, none⟩ = some (.int .u64 22) ∧ X.cell? ⟨w.heap.size, 5, none⟩ = some (.int .u64 6) ∧ X.cell? ⟨w.heap.size, 6, none⟩ = some (.int .u64 11) ∧ X.cell? ⟨w.heap.size, 7, none⟩ = some (.int .u64 25) ∧ X.cell? ⟨w.heap.size, 8, none⟩ = some (.int .u64 7) ∧ X.cell? ⟨w.heap.size, 9, none⟩ = some (.int .u64 18) ∧ X.cell? ⟨w.heap.size, 10, none⟩ = some (.int .u64 3) ∧ X.cell? ⟨w.heap.size, 11, none⟩ = some (.int .u64 17) ∧ X.cell? ⟨w.heap.size, 12, none⟩ = some (.int .u64 19) ∧ X.cell? ⟨w.heap.size, 13, none⟩ = some (.int .u64 10) ∧ X.cell? ⟨Kb + 1, 4, none⟩ = some (.int .u64 (e : Nat)) ∧ X.cell? ⟨Kb + 1, 7, none⟩ = some (.int .u64 (h : Nat)) ∧ X.cell? ⟨w.heap.size + 1 + 1 + 1, i, none⟩ = some (.int .u64 (x : Nat)) := ⟨q.form 0, q.form 1, q.form 2, q.form 3, q.form 4, q.form 5, q.form 6, q.form 7, q.form 8, q.form 9, q.form 10, q.form 11, q.form 12, q.form 13, q.hv.cell h4, q.hv.cell h7, q.hw.cell hx⟩
theorem Bb32.lookU {w X : World} {Kb : Nat} {l hl vl : List Nat} (h : Bb32 w Kb l hl vl X) {a : Nat} (h0 : vl[0]? = some a) :
    X.cell? ⟨w.heap.size, 0, none⟩ = some (.int .i64 32) ∧ X.cell? ⟨w.heap.size, 1, none⟩ = some (.int .i64 64) ∧ X.cell? ⟨w.heap.size, 2, none⟩ = some (.int .u64 2) ∧ X.cell? ⟨w.heap.size, 3, none⟩ = some (.int .u64 13) ∧ X.cell? ⟨w.heap.size, 4, none⟩ = some (.int .u64 22) ∧ X.cell? ⟨w.heap.size, 5, none⟩ = some (.int .u64 6) ∧ X.cell? ⟨w.heap.size, 6, none⟩ = some (.int .u64 11) ∧ X.cell? ⟨w.heap.size, 7, none⟩ = some (.int .u64 25) ∧ X.cell? ⟨w.heap.size, 8, none⟩ = some (.int .u64 7) ∧ X.cell? ⟨w.heap.size, 9, none⟩ = some (.int .u64 18) ∧ X.cell? ⟨w.heap.size, 10, none⟩ = some (.int .u64 3) ∧ X.cell? ⟨w.heap.size, 11, none⟩ = some (.int .u64 17) ∧ X.cell? ⟨w.heap.size, 12, none⟩ = some (.int .u64 19) ∧ X.cell? ⟨w.heap.size, 13, none⟩ = some (.int .u64 10) ∧ X.cell? ⟨Kb + 1, 0, none⟩ = some (.int .u64 (a : Nat)) := ⟨h.form 0, h.form 1, h.form 2, h.form 3, h.form 4, h.form 5, h.form 6, h.form 7, h.form 8, h.form 9, h.form 10, h.form 11, h.form 12, h.form 13, h.hv.cell h0⟩

/-- What one round reckons, step by step. -/
theorem ref_parts_32 (k x : Nat) (s : St) (hs : s.Small 32) (hx : x < 4294967296) (hk : k < 4294967296) :
    ∃ n1 n2 n3 n4 cc m1 m2 m12 m3 m r1 r0 ta tb tc td t1 u t2 zz z yy y : Nat,
      bits .and .u64 (s.e : Int) (s.f : Int) = (n1 : Int) ∧ bits .xor .u64 IntKind.u64.max (s.e : Int) = (n2 : Int) ∧ bits .and .u64 (n3 : Int) (s.g : Int) = (n4 : Int) ∧ bits .or .u64 (n1 : Int) (n4 : Int) = (cc : Int) ∧
      bits .and .u64 (s.a : Int) (s.b : Int) = (m1 : Int) ∧ bits .and .u64 (s.a : Int) (s.c : Int) = (m2 : Int) ∧ bits .or .u64 (m1 : Int) (m2 : Int) = (m12 : Int) ∧ bits .and .u64 (s.b : Int) (s.c : Int) = (m3 : Int) ∧ bits .or .u64 (m12 : Int) (m3 : Int) = (m : Int) ∧
      r1 = big 32 3 s.e ∧ r0 = big 32 0 s.a ∧
      IntKind.u64.wrap ((s.h : Int) + (r1 : Int)) = (ta : Int) ∧ IntKind.u64.wrap ((ta : Int) + (cc : Int)) = (tb : Int) ∧ IntKind.u64.wrap ((tb : Int) + (k : Int)) = (tc : Int) ∧ IntKind.u64.wrap ((tc : Int) + (x : Int)) = (td : Int) ∧
      IntKind.u64.wrap ((r0 : Int) + (m : Int)) = (u : Int) ∧ IntKind.u64.wrap ((s.d : Int) + (t1 : Int)) = (zz : Int) ∧ IntKind.u64.wrap ((t1 : Int) + (t2 : Int)) = (yy : Int) ∧
      (n2 < 18446744073709551616 ∧ n3 = n2 % 4294967296) ∧ (td < 18446744073709551616 ∧ t1 = td % 4294967296) ∧ (u < 18446744073709551616 ∧ t2 = u % 4294967296) ∧ (zz < 18446744073709551616 ∧ z = zz % 4294967296) ∧ (yy < 18446744073709551616 ∧ y = yy % 4294967296) ∧
      Sha.round 32 k x s = ⟨y, s.a, s.b, s.c, z, s.e, s.f, s.g⟩ := by
  have h64 : ∀ y : Nat, y < 2 ^ 32 → y < 2 ^ 64 := fun y hy => Nat.lt_of_lt_of_le hy (Nat.pow_le_pow_right (by decide) (by decide))
  have he := hs.e
  have en : (18446744073709551615 - s.e) % 4294967296 = 4294967296 - 1 - s.e := by have : s.e < 4294967296 := he; omega
  have n3l : 4294967296 - 1 - s.e < 2 ^ 32 := Nat.lt_of_le_of_lt (Nat.sub_le _ _) (by decide)
  have e1 := u64_and_nat s.e s.f (h64 _ hs.e) (h64 _ hs.f)
  have e2 := not64 s.e (h64 _ hs.e)
  have e3 := u64_and_nat (4294967296 - 1 - s.e) s.g (h64 _ n3l) (h64 _ hs.g)
  have e4 := u64_or_nat (s.e &&& s.f) ((4294967296 - 1 - s.e) &&& s.g) (h64 _ (Nat.and_lt_two_pow _ hs.f)) (h64 _ (Nat.and_lt_two_pow _ hs.g))
  have f1 := u64_and_nat s.a s.b (h64 _ hs.a) (h64 _ hs.b)
  have f2 := u64_and_nat s.a s.c (h64 _ hs.a) (h64 _ hs.c)
  have f3 := u64_and_nat s.b s.c (h64 _ hs.b) (h64 _ hs.c)
  have f4 := u64_or_nat (s.a &&& s.b) (s.a &&& s.c) (h64 _ (Nat.and_lt_two_pow _ hs.b)) (h64 _ (Nat.and_lt_two_pow _ hs.c))
  have f5 := u64_or_nat ((s.a &&& s.b) ||| (s.a &&& s.c)) (s.b &&& s.c) (h64 _ (Nat.or_lt_two_pow (Nat.and_lt_two_pow _ hs.b) (Nat.and_lt_two_pow _ hs.c))) (h64 _ (Nat.and_lt_two_pow _ hs.c))
  have hch : (s.e &&& s.f) ||| ((4294967296 - 1 - s.e) &&& s.g) = ch 32 s.e s.f s.g := rfl
  have hmj : ((s.a &&& s.b) ||| (s.a &&& s.c)) ||| (s.b &&& s.c) = maj s.a s.b s.c := rfl
  rw [hch] at e4
  rw [hmj] at f5
  have hw : ∀ p q : Nat, IntKind.u64.wrap ((p : Int) + (q : Int)) = (((p + q) % 18446744073709551616 : Nat) : Int) := by intro p q; rw [IntKind.wrap_u64]; omega
  have lt : ∀ p : Nat, p % 18446744073709551616 < 18446744073709551616 := fun p => Nat.mod_lt _ (by decide)
  refine ⟨_, _, _, _, _, _, _, _, _, _, _, _, _, _, _, _, _, _, _, _, _, _, _, e1, e2, e3, e4, f1, f2, f4, f3, f5, rfl, rfl, hw _ _, hw _ _, hw _ _, hw _ _, hw _ _, hw _ _, hw _ _, ⟨Nat.lt_of_le_of_lt (Nat.sub_le _ _) (by decide), en.symm⟩, ⟨lt _, rfl⟩, ⟨lt _, rfl⟩, ⟨lt _, rfl⟩, ⟨lt _, rfl⟩, ?_⟩
  unfold Sha.round Sha.t1 Sha.t2
  rw [show (2 : Nat) ^ 32 = 4294967296 by decide]
  generalize big 32 3 s.e = R1
  generalize big 32 0 s.a = R0
  generalize ch 32 s.e s.f s.g = C
  generalize maj s.a s.b s.c = J
  congr 1 <;> omega

/-- The memory of block, ahead of the rounds. -/
structure Ba64 (w : World) (gb ob : Nat) (bs l : List Nat) (s : St) (X : World) : Prop where
  hf : X.heap[w.heap.size]? = some (.cells form64 47 (0, 0))
  hh : Wd .u64 49 (w.heap.size + 1) s.list X
  hr : Wd .u64 49 (w.heap.size + 1 + 1) [0, 0, 0, 0, 0, 0, 0, 0] X
  hw : Wd .u64 67 (w.heap.size + 1 + 1 + 1) l X
  hb : Bs gb ob bs X
  lt : gb < w.heap.size
  below : Below w.heap.size w X

theorem Ba64.next {w X Y : World} {gb ob : Nat} {bs l : List Nat} {s : St} (h : Ba64 w gb ob bs l s X) (hb : Below X.heap.size X Y) : Ba64 w gb ob bs l s Y :=
  ⟨keepBlock h.hf hb, keepBlock h.hh hb, keepBlock h.hr hb, keepBlock h.hw hb, h.hb.of (hb.block gb (Nat.lt_of_lt_of_le h.lt h.below.size)), h.lt, below_link h.below hb⟩
theorem Ba64.drew {w X : World} {gb ob : Nat} {bs l : List Nat} {s : St} (h : Ba64 w gb ob bs l s X) : Ba64 w gb ob bs l s X.drew :=
  ⟨h.hf, h.hh, h.hr, h.hw, h.hb, h.lt, h.below.drew⟩
theorem Ba64.step {w X : World} {gb ob : Nat} {bs l : List Nat} {s : St} (h : Ba64 w gb ob bs l s X) (j v : Nat) : Ba64 w gb ob bs (l.set j v) s (X.setCell ⟨w.heap.size + 1 + 1 + 1, j, none⟩ (.int .u64 (v : Nat))) where
  hf := by rw [heap_setCell_other _ _ _ _ (by simp only []; omega)]; exact h.hf
  hh := by unfold Wd; rw [heap_setCell_other _ _ _ _ (by simp only []; omega)]; exact h.hh
  hr := by unfold Wd; rw [heap_setCell_other _ _ _ _ (by simp only []; omega)]; exact h.hr
  hw := h.hw.setE j v
  hb := h.hb.of (by have := h.lt; exact heap_setCell_other _ _ _ _ (by simp only []; omega))
  lt := h.lt
  below := h.below.setCell (by simp only []; omega) _
theorem Ba64.form {w X : World} {gb ob : Nat} {bs l : List Nat} {s : St} (h : Ba64 w gb ob bs l s X) (j : Nat) : X.cell? ⟨w.heap.size, j, none⟩ = form64[j]? := cell_of_row _ _ _ _ _ _ h.hf
theorem Ba64.look {w X : World} {gb ob : Nat} {bs l : List Nat} {s : St} (h : Ba64 w gb ob bs l s X) {a b c d i A B C D : Nat} (ha : l[a]? = some A) (hb : l[b]? = some B) (hc : l[c]? = some C) (hd : l[d]? = some D) (hi : i < l.length) :
    X.cell? ⟨w.heap.size, 0, none⟩ = some (.int .i64 64) ∧ X.cell? ⟨w.heap.size, 1, none⟩ = some (.int .i64 80) ∧ X.cell? ⟨w.heap.size, 2, none⟩ = some (.int .u64 28) ∧ X.cell? ⟨w.heap.size, 3, none⟩ = some (.int .u64 34) ∧ X.cell? ⟨w.heap.size, 4, none⟩ = some (.int .u64 39) ∧ X.cell? ⟨w.heap.size, 5, none⟩ = some (.int .u64 14) ∧ X.cell? ⟨w.heap.size, 6, none⟩ = some (.int .u64 18) ∧ X.cell? ⟨w.heap.size, 7, none⟩ = some (.int .u64 41) ∧ X.cell? ⟨w.heap.size, 8, none⟩ = some (.int .u64 1) ∧ X.cell? ⟨w.heap.size, 9, none⟩ = some (.int .u64 8) ∧ X.cell? ⟨w.heap.size, 10, none⟩ = some (.int .u64 7) ∧ X.cell? ⟨w.heap.size, 11, none⟩ = some (.int .u64 19) ∧ X.cell? ⟨w.heap.size, 12, none⟩ = some (.int .u64 61) ∧ X.cell? ⟨w.heap.size, 13, none⟩ = some (.int .u64 6) ∧ X.cell? ⟨w.heap.size + 1 + 1 + 1, a, none⟩ = some (.int .u64 (A : Nat)) ∧ X.cell? ⟨w.heap.size + 1 + 1 + 1, b, none⟩ = some (.int .u64 (B : Nat)) ∧ X.cell? ⟨w.heap.size + 1 + 1 + 1, c, none⟩ = some (.int .u64 (C : Nat)) ∧ X.cell? ⟨w.heap.size + 1 + 1 + 1, d, none⟩ = some (.int .u64 (D : Nat)) ∧ X.cell? ⟨w.heap.size + 1 + 1 + 1, i, none⟩ = some (peek X ⟨w.heap.size + 1 + 1 + 1, i, none⟩) ∧ X.frozen? ⟨w.heap.size + 1 + 1 + 1, i, none⟩ = false :=
  ⟨h.form 0, h.form 1, h.form 2, h.form 3, h.form 4, h.form 5, h.form 6, h.form 7, h.form 8, h.form 9, h.form 10, h.form 11, h.form 12, h.form 13, h.hw.cell ha, h.hw.cell hb, h.hw.cell hc, h.hw.cell hd, peek_some (h.hw.cell (List.getElem?_eq_getElem hi)), h.hw.frozen i⟩

/-- The memory of block, in the rounds. -/
structure Bb64 (w : World) (Kb : Nat) (l hl vl : List Nat) (X : World) : Prop where
  hf : X.heap[w.heap.size]? = some (.cells form64 47 (0, 0))
  hh : Wd .u64 49 (w.heap.size + 1) hl X
  hr : Wd .u64 49 (w.heap.size + 1 + 1) [0, 0, 0, 0, 0, 0, 0, 0] X
  hw : Wd .u64 67 (w.heap.size + 1 + 1 + 1) l X
  hk : Wd .u64 67 Kb ks X
  hv : Wd .u64 49 (Kb + 1) vl X
  lt : w.heap.size + 1 + 1 + 1 < Kb
  below : Below w.heap.size w X
theorem Bb64.next {w X Y : World} {Kb : Nat} {l hl vl : List Nat} (h : Bb64 w Kb l hl vl X) (hb : Below X.heap.size X Y) : Bb64 w Kb l hl vl Y :=
  ⟨keepBlock h.hf hb, keepBlock h.hh hb, keepBlock h.hr hb, keepBlock h.hw hb, keepBlock h.hk hb, keepBlock h.hv hb, h.lt, below_link h.below hb⟩
theorem Bb64.drew {w X : World} {Kb : Nat} {l hl vl : List Nat} (h : Bb64 w Kb l hl vl X) : Bb64 w Kb l hl vl X.drew :=
  ⟨h.hf, h.hh, h.hr, h.hw, h.hk, h.hv, h.lt, h.below.drew⟩
theorem Bb64.stepV {w X : World} {Kb : Nat} {l hl vl : List Nat} (h : Bb64 w Kb l hl vl X) (j v : Nat) : Bb64 w Kb l hl (vl.set j v) (X.setCell ⟨Kb + 1, j, none⟩ (.int .u64 (v : Nat))) where
  hf := by have := h.lt; rw [heap_setCell_other _ _ _ _ (by simp only []; omega)]; exact h.hf
  hh := by have := h.lt; unfold Wd; rw [heap_setCell_other _ _ _ _ (by simp only []; omega)]; exact h.hh
  hr := by have := h.lt; unfold Wd; rw [heap_setCell_other _ _ _ _ (by simp only []; omega)]; exact h.hr
  hw := by have := h.lt; unfold Wd; rw [heap_setCell_other _ _ _ _ (by simp only []; omega)]; exact h.hw
  hk := by have := h.lt; unfold Wd; rw [heap_setCell_other _ _ _ _ (by simp only []; omega)]; exact h.hk
  hv := h.hv.setE j v
  lt := h.lt
  below := h.below.setCell (by have := h.lt; simp only []; omega) _
theorem Bb64.stepH {w X : World} {Kb : Nat} {l hl vl : List Nat} (h : Bb64 w Kb l hl vl X) (j v : Nat) : Bb64 w Kb l (hl.set j v) vl (X.setCell ⟨w.heap.size + 1, j, none⟩ (.int .u64 (v : Nat))) where
  hf := by have := h.lt; rw [heap_setCell_other _ _ _ _ (by simp only []; omega)]; exact h.hf
  hh := h.hh.setE j v
  hr := by have := h.lt; unfold Wd; rw [heap_setCell_other _ _ _ _ (by simp only []; omega)]; exact h.hr
  hw := by have := h.lt; unfold Wd; rw [heap_setCell_other _ _ _ _ (by simp only []; omega)]; exact h.hw
  hk := by have := h.lt; unfold Wd; rw [heap_setCell_other _ _ _ _ (by simp only []; omega)]; exact h.hk
  hv := by have := h.lt; unfold Wd; rw [heap_setCell_other _ _ _ _ (by simp only []; omega)]; exact h.hv
  lt := h.lt
  below := h.below.setCell (by have := h.lt; simp only []; omega) _
theorem Bb64.form {w X : World} {Kb : Nat} {l hl vl : List Nat} (h : Bb64 w Kb l hl vl X) (j : Nat) : X.cell? ⟨w.heap.size, j, none⟩ = form64[j]? := cell_of_row _ _ _ _ _ _ h.hf
theorem Bb64.lookC {w X : World} {Kb : Nat} {l hl vl : List Nat} (h : Bb64 w Kb l hl vl X) {e f g : Nat} (h4 : vl[4]? = some e) (h5 : vl[5]? = some f) (h6 : vl[6]? = some g) :
    X.cell? ⟨w.heap.size, 0, none⟩ = some (.int .i64 64) ∧ X.cell? ⟨w.heap.size, 1, none⟩ = some (.int .i64 80) ∧ X.cell? ⟨w.heap.size, 2, none⟩ = some (.int .u64 28) ∧ X.cell? ⟨w.heap.size, 3, none⟩ = some (.int .u64 34) ∧ X.cell? ⟨w.heap.size, 4, none⟩ = some (.int .u64 39) ∧ X.cell? ⟨w.heap.size, 5, none⟩ = some (.int .u64 14) ∧ X.cell? ⟨w.heap.size, 6, none⟩ = some (.int .u64 18) ∧ X.cell? ⟨w.heap.size, 7, none⟩ = some (.int .u64 41) ∧ X.cell? ⟨w.heap.size, 8, none⟩ = some (.int .u64 1) ∧ X.cell? ⟨w.heap.size, 9, none⟩ = some (.int .u64 8) ∧ X.cell? ⟨w.heap.size, 10, none⟩ = some (.int .u64 7) ∧ X.cell? ⟨w.heap.size, 11, none⟩ = some (.int .u64 19) ∧ X.cell? ⟨w.heap.size, 12, none⟩ = some (.int .u64 61) ∧ X.cell? ⟨w.heap.size, 13, none⟩ = some (.int .u64 6) ∧ X.cell? ⟨Kb + 1, 4, none⟩ = some (.int .u64 (e : Nat)) ∧ X.cell? ⟨Kb + 1, 5, none⟩ = some (.int .u64 (f : Nat)) ∧ X.cell? ⟨Kb + 1, 6, none⟩ = some (.int .u64 (g : Nat)) := ⟨h.form 0, h.form 1, h.form 2, h.form 3, h.form 4, h.form 5, h.form 6, h.form 7, h.form 8, h.form 9, h.form 10, h.form 11, h.form 12, h.form 13, h.hv.cell h4, h.hv.cell h5, h.hv.cell h6⟩
theorem Bb64.lookT {w X : World} {Kb : Nat} {l hl vl : List Nat} (q : Bb64 w Kb l hl vl X) {e h x i : Nat} (h4 : vl[4]? = some e) (h7 : vl[7]? = some h) (hx : l[i]? = some x) :
    X.cell? ⟨w.heap.size, 0, none⟩ = some (.int .i64 64) ∧ X.cell? ⟨w.heap.size, 1, none⟩ = some (.int .i64 80) ∧ X.cell? ⟨w.heap.size, 2, none⟩ = some (.int .u64 28) ∧ X.cell? ⟨w.heap.size, 3, none⟩ = some (.int .u64 34) ∧ X.cell? ⟨w.heap.size, 4, none⟩ = some (.int .u64 39) ∧ X.cell? ⟨w.heap.size, 5, none⟩ = some (.int .u64 14) ∧ X.cell? ⟨w.heap.size, 6, none⟩ = some (.int .u64 18) ∧ X.cell? ⟨w.heap.size, 7, none⟩ = some (.int .u64 41) ∧ X.cell? ⟨w.heap.size, 8, none⟩ = some (.int .u64 1) ∧ X.cell? ⟨w.heap.size, 9, none⟩ = some (.int .u64 8) ∧ X.cell? ⟨w.heap.size, 10, none⟩ = some (.int .u64 7) ∧ X.cell? ⟨w.heap.size, 11, none⟩ = some (.int .u64 19) ∧ X.cell? ⟨w.heap.size, 12, none⟩ = some (.int .u64 61) ∧ X.cell? ⟨w.heap.size, 13, none⟩ = some (.int .u64 6) ∧ X.cell? ⟨Kb + 1, 4, none⟩ = some (.int .u64 (e : Nat)) ∧ X.cell? ⟨Kb + 1, 7, none⟩ = some (.int .u64 (h : Nat)) ∧ X.cell? ⟨w.heap.size + 1 + 1 + 1, i, none⟩ = some (.int .u64 (x : Nat)) := ⟨q.form 0, q.form 1, q.form 2, q.form 3, q.form 4, q.form 5, q.form 6, q.form 7, q.form 8, q.form 9, q.form 10, q.form 11, q.form 12, q.form 13, q.hv.cell h4, q.hv.cell h7, q.hw.cell hx⟩
theorem Bb64.lookU {w X : World} {Kb : Nat} {l hl vl : List Nat} (h : Bb64 w Kb l hl vl X) {a : Nat} (h0 : vl[0]? = some a) :
    X.cell? ⟨w.heap.size, 0, none⟩ = some (.int .i64 64) ∧ X.cell? ⟨w.heap.size, 1, none⟩ = some (.int .i64 80) ∧ X.cell? ⟨w.heap.size, 2, none⟩ = some (.int .u64 28) ∧ X.cell? ⟨w.heap.size, 3, none⟩ = some (.int .u64 34) ∧ X.cell? ⟨w.heap.size, 4, none⟩ = some (.int .u64 39) ∧ X.cell? ⟨w.heap.size, 5, none⟩ = some (.int .u64 14) ∧ X.cell? ⟨w.heap.size, 6, none⟩ = some (.int .u64 18) ∧ X.cell? ⟨w.heap.size, 7, none⟩ = some (.int .u64 41) ∧ X.cell? ⟨w.heap.size, 8, none⟩ = some (.int .u64 1) ∧ X.cell? ⟨w.heap.size, 9, none⟩ = some (.int .u64 8) ∧ X.cell? ⟨w.heap.size, 10, none⟩ = some (.int .u64 7) ∧ X.cell? ⟨w.heap.size, 11, none⟩ = some (.int .u64 19) ∧ X.cell? ⟨w.heap.size, 12, none⟩ = some (.int .u64 61) ∧ X.cell? ⟨w.heap.size, 13, none⟩ = some (.int .u64 6) ∧ X.cell? ⟨Kb + 1, 0, none⟩ = some (.int .u64 (a : Nat)) := ⟨h.form 0, h.form 1, h.form 2, h.form 3, h.form 4, h.form 5, h.form 6, h.form 7, h.form 8, h.form 9, h.form 10, h.form 11, h.form 12, h.form 13, h.hv.cell h0⟩

/-- What one round reckons, step by step. -/
theorem ref_parts_64 (k x : Nat) (s : St) (hs : s.Small 64) (hx : x < 18446744073709551616) (hk : k < 18446744073709551616) :
    ∃ n1 n2 n3 n4 cc m1 m2 m12 m3 m r1 r0 ta tb tc td t1 u t2 zz z yy y : Nat,
      bits .and .u64 (s.e : Int) (s.f : Int) = (n1 : Int) ∧ bits .xor .u64 IntKind.u64.max (s.e : Int) = (n2 : Int) ∧ bits .and .u64 (n3 : Int) (s.g : Int) = (n4 : Int) ∧ bits .or .u64 (n1 : Int) (n4 : Int) = (cc : Int) ∧
      bits .and .u64 (s.a : Int) (s.b : Int) = (m1 : Int) ∧ bits .and .u64 (s.a : Int) (s.c : Int) = (m2 : Int) ∧ bits .or .u64 (m1 : Int) (m2 : Int) = (m12 : Int) ∧ bits .and .u64 (s.b : Int) (s.c : Int) = (m3 : Int) ∧ bits .or .u64 (m12 : Int) (m3 : Int) = (m : Int) ∧
      r1 = big 64 3 s.e ∧ r0 = big 64 0 s.a ∧
      IntKind.u64.wrap ((s.h : Int) + (r1 : Int)) = (ta : Int) ∧ IntKind.u64.wrap ((ta : Int) + (cc : Int)) = (tb : Int) ∧ IntKind.u64.wrap ((tb : Int) + (k : Int)) = (tc : Int) ∧ IntKind.u64.wrap ((tc : Int) + (x : Int)) = (td : Int) ∧
      IntKind.u64.wrap ((r0 : Int) + (m : Int)) = (u : Int) ∧ IntKind.u64.wrap ((s.d : Int) + (t1 : Int)) = (zz : Int) ∧ IntKind.u64.wrap ((t1 : Int) + (t2 : Int)) = (yy : Int) ∧
      (n2 < 18446744073709551616 ∧ n3 = n2 % 18446744073709551616) ∧ (td < 18446744073709551616 ∧ t1 = td % 18446744073709551616) ∧ (u < 18446744073709551616 ∧ t2 = u % 18446744073709551616) ∧ (zz < 18446744073709551616 ∧ z = zz % 18446744073709551616) ∧ (yy < 18446744073709551616 ∧ y = yy % 18446744073709551616) ∧
      Sha.round 64 k x s = ⟨y, s.a, s.b, s.c, z, s.e, s.f, s.g⟩ := by
  have h64 : ∀ y : Nat, y < 2 ^ 64 → y < 2 ^ 64 := fun y hy => Nat.lt_of_lt_of_le hy (Nat.pow_le_pow_right (by decide) (by decide))
  have he := hs.e
  have en : (18446744073709551615 - s.e) % 18446744073709551616 = 18446744073709551616 - 1 - s.e := by have : s.e < 18446744073709551616 := he; omega
  have n3l : 18446744073709551616 - 1 - s.e < 2 ^ 64 := Nat.lt_of_le_of_lt (Nat.sub_le _ _) (by decide)
  have e1 := u64_and_nat s.e s.f (h64 _ hs.e) (h64 _ hs.f)
  have e2 := not64 s.e (h64 _ hs.e)
  have e3 := u64_and_nat (18446744073709551616 - 1 - s.e) s.g (h64 _ n3l) (h64 _ hs.g)
  have e4 := u64_or_nat (s.e &&& s.f) ((18446744073709551616 - 1 - s.e) &&& s.g) (h64 _ (Nat.and_lt_two_pow _ hs.f)) (h64 _ (Nat.and_lt_two_pow _ hs.g))
  have f1 := u64_and_nat s.a s.b (h64 _ hs.a) (h64 _ hs.b)
  have f2 := u64_and_nat s.a s.c (h64 _ hs.a) (h64 _ hs.c)
  have f3 := u64_and_nat s.b s.c (h64 _ hs.b) (h64 _ hs.c)
  have f4 := u64_or_nat (s.a &&& s.b) (s.a &&& s.c) (h64 _ (Nat.and_lt_two_pow _ hs.b)) (h64 _ (Nat.and_lt_two_pow _ hs.c))
  have f5 := u64_or_nat ((s.a &&& s.b) ||| (s.a &&& s.c)) (s.b &&& s.c) (h64 _ (Nat.or_lt_two_pow (Nat.and_lt_two_pow _ hs.b) (Nat.and_lt_two_pow _ hs.c))) (h64 _ (Nat.and_lt_two_pow _ hs.c))
  have hch : (s.e &&& s.f) ||| ((18446744073709551616 - 1 - s.e) &&& s.g) = ch 64 s.e s.f s.g := rfl
  have hmj : ((s.a &&& s.b) ||| (s.a &&& s.c)) ||| (s.b &&& s.c) = maj s.a s.b s.c := rfl
  rw [hch] at e4
  rw [hmj] at f5
  have hw : ∀ p q : Nat, IntKind.u64.wrap ((p : Int) + (q : Int)) = (((p + q) % 18446744073709551616 : Nat) : Int) := by intro p q; rw [IntKind.wrap_u64]; omega
  have lt : ∀ p : Nat, p % 18446744073709551616 < 18446744073709551616 := fun p => Nat.mod_lt _ (by decide)
  refine ⟨_, _, _, _, _, _, _, _, _, _, _, _, _, _, _, _, _, _, _, _, _, _, _, e1, e2, e3, e4, f1, f2, f4, f3, f5, rfl, rfl, hw _ _, hw _ _, hw _ _, hw _ _, hw _ _, hw _ _, hw _ _, ⟨Nat.lt_of_le_of_lt (Nat.sub_le _ _) (by decide), en.symm⟩, ⟨lt _, rfl⟩, ⟨lt _, rfl⟩, ⟨lt _, rfl⟩, ⟨lt _, rfl⟩, ?_⟩
  unfold Sha.round Sha.t1 Sha.t2
  rw [show (2 : Nat) ^ 64 = 18446744073709551616 by decide]
  generalize big 64 3 s.e = R1
  generalize big 64 0 s.a = R0
  generalize ch 64 s.e s.f s.g = C
  generalize maj s.a s.b s.c = J
  congr 1 <;> omega

end Go.Proofs.YtfahmbkeibeceaaDoor
