/-
  Joined: Ae, Af, Ba. Conditions: as each part says.
-/
import Derived.Test.YtedoggejbhbebaaJ5
import Derived.Deep.MidRow
import Derived.Deep.RegionHeld3

/-
  Contracts of the reference's Table, of aes.inverses and aes.Sub, and of the statements' awake. Conditions: the number is a byte.
-/
namespace Go.Proofs.Ytedoggejbhbebaa
namespace Aes
open Go.ChangeShapes Go.WideShapes Go.ChangeAt Go.RowKit Go.Great
open Gf
set_option linter.unusedVariables false

theorem storeOld (w : World) (g : Nat) (t : TypeId) (c c' : Array Value) (hg : w.heap[g]? = some (.cells c t (0, 0))) (ho : c.size = c'.size) (h1 : c'.all (·.oneCell') = true) :
    (storeCells ⟨g, 0, none⟩ c'.toList).run Try.prog w = .ok () (w.setRow g c') := by
  have := run_storeCells_from (P := Try.prog) g t c'.toList 0 c w hg (by simp; omega) (fun v hv => (Array.all_eq_true_iff_forall_mem.1 h1) v (by simpa using hv))
  simpa using this

theorem zero256u : (∀ w, (zeroValue 108).run Try.prog w = .ok (.agg (valsK .u8 (zerosN 256))) w) ∧ (Try.prog.info? 108).map (·.size) = some 256 :=
  zero_of_info (P := Try.prog) (t := 108) (v := .agg (valsK .u8 (zerosN 256))) (n := 256) (by kernel_rfl)
theorem under256u : Try.prog.underlying 108 = some (.array 256 5) := by kernel_rfl
theorem zeros_ne (k : IntKind) : ¬ valsK k (zerosN 256) = #[] := by intro h; have := congrArg Array.size h; rw [valsK_size, zerosN, List.length_replicate] at this; exact absurd this (by decide)

/-- Two rows: the result's, which is empty, and the one that is filled. -/
structure Fill (k : IntKind) (T : TypeId) (w : World) (l : List Nat) (wr : World) : Prop where
  hr : Wd k T w.heap.size (zerosN 256) wr
  hs : Wd k T (w.heap.size + 1) l wr
  below : Below w.heap.size w wr

theorem Fill.start (k : IntKind) (T : TypeId) (w : World) : Fill k T w (zerosN 256) ((w.alloc (.cells (valsK k (zerosN 256)) T)).alloc (.cells (valsK k (zerosN 256)) T)) where
  hr := keepAlloc (heap_alloc_new w _) _
  hs := by
    have := heap_alloc_new (w.alloc (.cells (valsK k (zerosN 256)) T)) (.cells (valsK k (zerosN 256)) T)
    rwa [alloc_size] at this
  below := below_alloc ((Below.refl _ _).alloc (Nat.le_refl _) _) _
theorem Fill.step {k : IntKind} {T : TypeId} {w X : World} {l : List Nat} (h : Fill k T w l X) (j v : Nat) : Fill k T w (l.set j v) (X.setCell ⟨w.heap.size + 1, j, none⟩ (.int k (v : Nat))) where
  hr := h.hr.far _ _ _ (by omega)
  hs := h.hs.set j v
  below := h.below.setCell (by simp only []; omega) _

/-- The powers of 3. -/
def p3 : Nat → Nat
  | 0 => 1
  | i + 1 => p3 i ^^^ xt 8 27 (p3 i)
theorem p3_lt (i : Nat) : p3 i < 256 := by
  induction i with
  | zero => show 1 < 256; decide
  | succ i ih => exact Nat.xor_lt_two_pow (n := 8) ih (xt8_lt _)
/-- What is there behind i of the powers. -/
def invTo : Nat → List Nat
  | 0 => zerosN 256
  | i + 1 => (invTo i).set (p3 i) (p3 (255 - i))
theorem invTo_length (i : Nat) : (invTo i).length = 256 := by
  induction i with
  | zero => exact List.length_replicate
  | succ i ih => rw [invTo, List.length_set, ih]
theorem invTo_all : invTo 256 = allF inverse 256 := by decide +kernel

theorem info8 : ∃ i0, Try.prog.info? 5 = some i0 := ⟨_, Option.eq_some_of_isSome (by kernel_rfl)⟩

theorem powers_lt (a : Nat) (ha : a < 256) (k : Nat) : (powers k a).1 < 256 ∧ (powers k a).2 < 256 := by
  induction k with
  | zero => exact ⟨ha, by show 1 < 256; decide⟩
  | succ k ih => exact ⟨times_lt ih.1 _, times_lt ih.2 _⟩
theorem inverse_lt {a : Nat} (ha : a < 256) : inverse a < 256 := (powers_lt a ha 7).2

end Aes
end Go.Proofs.Ytedoggejbhbebaa

/-
  Contracts of aes.inverses, aes.Sub and of the statements' awake. Conditions: the number is a byte.
-/
namespace Go.Proofs.Ytedoggejbhbebaa
namespace Aes
open Go.ChangeShapes Go.WideShapes Go.ChangeAt Go.RowKit Go.Great
open Gf
set_option linter.unusedVariables false

structure Fil3 (w : World) (g : Nat) (l : List Nat) (wr : World) : Prop where
  hr : Wd .u8 108 w.heap.size (zerosN 256) wr
  hs : Wd .u8 108 (w.heap.size + 1) (allF p3 256) wr
  ha : Wd .u8 108 g l wr
  hg : w.heap.size + 1 < g
  below : Below w.heap.size w wr
theorem Fil3.step {w X : World} {g : Nat} {l : List Nat} (h : Fil3 w g l X) (j v : Nat) : Fil3 w g (l.set j v) (X.setCell ⟨g, j, none⟩ (.int .u8 (v : Nat))) where
  hr := h.hr.far _ _ _ (by have := h.hg; omega)
  hs := h.hs.far _ _ _ (by have := h.hg; omega)
  ha := h.ha.set j v
  hg := h.hg
  below := h.below.setCell (by have := h.hg; simp only []; omega) _
theorem Fil3.start {w X : World} (h : Fill .u8 108 w (allF p3 256) X) : Fil3 w X.heap.size (zerosN 256) (X.alloc (.cells (valsK .u8 (zerosN 256)) 108)) where
  hr := keepAlloc h.hr _
  hs := keepAlloc h.hs _
  ha := heap_alloc_new X _
  hg := (Array.getElem?_eq_some_iff.1 h.hs).1
  below := below_alloc h.below _

set_option maxRecDepth 10000 in
set_option maxHeartbeats 4000000 in
theorem inverses_any (w : World) :
    Calls Try.prog 73 #[] w fun e w' => e = .returned (.agg (valsK .u8 (allF inverse 256))) ∧ Below w.heap.size w w' := by
  have hz := zero256u.1
  have hne := zeros_ne .u8
  obtain ⟨i0, hi0⟩ := info8
  have HI0 := Lib.hid hi0; clear hi0
  have HS := Lib.hid (Fill.start .u8 108 w)
  go_enter Try.func73, Try.ntmps73
  go_wp2
  go_loopw [2, 7] (fun v2 x wr => ∃ i : Nat, i ≤ 256 ∧ x = .int .i64 (i : Nat) ∧ v2 = .int .u8 (p3 i : Nat) ∧ Fill .u8 108 w (upF p3 256 i) wr) (fun _ x _ => 256 - (intOf x).toNat)
  case atStart => exact ⟨0, Nat.zero_le _, rfl, rfl, by rw [upF_zero]; exact HS.out⟩
  case round =>
    obtain ⟨i, hi, rfl, rfl, hS⟩ := hrel
    by_cases hlt : i < 256
    · have hst := hS.step i (p3 i)
      rw [upF_next] at hst
      have hcell := hS.hs.cell (upF_get p3 256 i i hlt)
      have hf := hS.hs.frozen i
      have hpl := p3_lt i
      have HT := Lib.hid (fun X => twice_any (p3 i) X hpl)
      have hx := u8_xor_nat (p3 i) (xt 8 27 (p3 i)) hpl (xt8_lt _)
      have hx' : bits .xor .u8 (p3 i : Nat) (xt 8 27 (p3 i) : Nat) = ((p3 (i + 1) : Nat) : Int) := hx
      have HQ := Lib.hid hS; clear hS
      have HST := Lib.hid hst; clear hst
      have q3 : (i : Int) < 256 := by omega
      clear hz hne hx hpl
      obtain ⟨b, hb⟩ : ∃ b, b = p3 (i + 1) := ⟨_, rfl⟩
      obtain ⟨a, ha⟩ : ∃ a, a = p3 i := ⟨_, rfl⟩
      rw [← hb] at hx'
      rw [← ha] at hx' HT HST ⊢
      have HB := Lib.hid hb
      clear hb ha
      go_wp2_with fail
      refine (HT.out _).mono ?_
      rintro e w' ⟨rfl, rfl⟩
      go_wp2
      go_roundw
      case rel => exact ⟨i + 1, by omega, by go_num, by rw [← HB.out], HST.out⟩
      case measure => simp [intOf]; omega
    · obtain rfl : i = 256 := by omega
      rw [upF_all] at hS
      have h3 := Fil3.start hS
      obtain ⟨g, hg⟩ : ∃ g, g = wr.heap.size := ⟨_, rfl⟩
      rw [← hg] at h3
      have hg' : wr.heap.size = g := hg.symm
      have H3 := Lib.hid h3
      clear hS h3 hg
      go_wp2
      refine wp_load_row 108 _ rfl (w.heap.size + 1) rfl 108 _ (0, 0) _ H3.out.hs under256u rfl (by rw [valsK_size, allF_length]; exact zero256u.2) ?_
      simp only [Act.put, List.setIfInBounds_toArray, List.set_cons_zero, List.set_cons_succ]
      obtain ⟨AG, hAG⟩ : ∃ AG, AG = valsK .u8 (allF p3 256) := ⟨_, rfl⟩
      rw [← hAG]
      have HAG := Lib.hid hAG; clear hAG
      go_wp2
      go_loopw [19] (fun x wr => ∃ i : Nat, i ≤ 256 ∧ x = .int .i64 (i : Nat) ∧ Fil3 w g (invTo i) wr) (fun x _ => 256 - (intOf x).toNat)
      case atStart => exact ⟨0, Nat.zero_le _, rfl, H3.out⟩
      case round =>
        obtain ⟨i, hi, rfl, hS⟩ := hrel
        by_cases hlt : i < 256
        · obtain ⟨c, hc⟩ : ∃ c, c = p3 i := ⟨_, rfl⟩
          obtain ⟨m, hm⟩ : ∃ m, m = 255 - i := ⟨_, rfl⟩
          obtain ⟨d, hd⟩ : ∃ d, d = p3 m := ⟨_, rfl⟩
          have hcl : c < 256 := by rw [hc]; exact p3_lt i
          have hml : m < 256 := by omega
          have hidx : ∀ X, (Instr.index 108 (.agg AG) (.int .i64 (i : Int))).run Try.prog X = .ok (.int .u8 (c : Nat)) X := by
            intro X
            rw [HAG.out, hc]
            exact idx_int X under256u Try.underlying5 HI0.out (by kernel_rfl) hlt (valsK_get _ _ _ _ (allF_get p3 256 i hlt))
          have hst := hS.step c d
          rw [hc, hd, hm] at hst
          change Fil3 w g (invTo (i + 1)) _ at hst
          rw [← hm, ← hd, ← hc] at hst
          have hcell := hS.hs.cell (allF_get p3 256 m hml)
          rw [← hd] at hcell
          obtain ⟨z, hz1⟩ : ∃ z, (invTo i)[c]? = some z := ⟨_, List.getElem?_eq_getElem (by rw [invTo_length]; exact hcl)⟩
          have hcell2 := hS.ha.cell hz1
          have hf := hS.ha.frozen c
          have q1 : (255 : Int) - (i : Int) = (m : Int) := by omega
          have q2 : (m : Int) < 256 := by omega
          have q3 : (c : Int) < 256 := by omega
          have HST := Lib.hid hst; clear hst
          clear hS hc hd hm hz1 hcl hml hz hne
          go_wp2
          go_roundw
          case rel => exact ⟨i + 1, by omega, by go_num, HST.out⟩
          case measure => simp [intOf]; omega
        · obtain rfl : i = 256 := by omega
          rw [invTo_all] at hS
          have st := storeOld wr w.heap.size 108 (valsK .u8 (zerosN 256)) (valsK .u8 (allF inverse 256)) hS.hr (by rw [valsK_size, valsK_size, allF_length]; rfl) (valsK_one _ _)
          have HQ := Lib.hid hS; clear hS
          go_wp2
          refine wp_load_row 108 _ rfl g rfl 108 _ (0, 0) _ HQ.out.ha under256u rfl (by rw [valsK_size, allF_length]; exact zero256u.2) ?_
          simp only [Act.put, List.setIfInBounds_toArray, List.set_cons_zero, List.set_cons_succ]
          go_wp2
          refine bodyPost_ret (results_cell_row rfl _ _ w.heap.size 108 (valsK .u8 (allF inverse 256)) (0, 0) _ rfl (setRow_heap _ _ _ _ _ _ HQ.out.hr) under256u rfl (by rw [valsK_size, allF_length]; exact zero256u.2)) rfl ⟨rfl, below_setRow HQ.out.below (by omega) _⟩


theorem subTo_inverse (a : Nat) : subTo (inverse a) 8 = sub a := rfl

end Aes
end Go.Proofs.Ytedoggejbhbebaa

/-
  Contracts of aes.sum, aes.replaced on a column, aes.blockOf. Conditions: the numbers are bytes; the block has sixteen.
-/
namespace Go.Proofs.Ytedoggejbhbebaa
namespace Aes
open Go.ChangeShapes Go.WideShapes Go.ChangeAt Go.RowKit Go.Great
open Gf
set_option linter.unusedVariables false

/-- What f gives below i, what g gives from there on. -/
def stepF (f g : Nat → Nat) (n i : Nat) : List Nat := (List.range n).map fun j => if j < i then f j else g j
theorem stepF_get (f g : Nat → Nat) (n i j : Nat) (h : j < n) : (stepF f g n i)[j]? = some (if j < i then f j else g j) := by
  unfold stepF
  rw [List.getElem?_map, List.getElem?_range h]
  rfl
theorem stepF_length (f g : Nat → Nat) (n i : Nat) : (stepF f g n i).length = n := by simp [stepF]
theorem stepF_next (f g : Nat → Nat) (n i : Nat) : (stepF f g n i).set i (f i) = stepF f g n (i + 1) := by
  apply List.ext_getElem?
  intro j
  rw [List.getElem?_set]
  by_cases h : j < n
  · by_cases e : i = j
    · subst e; rw [if_pos rfl, stepF_length, if_pos h, stepF_get _ _ _ _ _ h, if_pos (by omega)]
    · rw [if_neg e, stepF_get _ _ _ _ _ h, stepF_get _ _ _ _ _ h]
      have : (j < i + 1) = (j < i) := by apply propext; omega
      simp only [this]
  · rw [List.getElem?_eq_none (by rw [stepF_length]; omega), List.getElem?_eq_none (by rw [stepF_length]; omega)]
    split
    · rw [if_neg (by rw [stepF_length]; omega)]
    · rfl
theorem stepF_zero (f g : Nat → Nat) (n : Nat) : stepF f g n 0 = allF g n := by
  unfold stepF allF
  exact List.map_congr_left fun j hj => if_neg (by omega)
theorem stepF_all (f g : Nat → Nat) (n : Nat) : stepF f g n n = allF f n := by
  unfold stepF allF
  exact List.map_congr_left fun j hj => if_pos (List.mem_range.1 hj)
theorem allF_congr {f g : Nat → Nat} {n : Nat} (h : ∀ i < n, f i = g i) : allF f n = allF g n := by
  unfold allF
  exact List.map_congr_left fun j hj => h j (List.mem_range.1 hj)
theorem allF_zero (n : Nat) : allF (fun _ => 0) n = zerosN n := by
  unfold allF zerosN
  rw [List.map_const', List.length_range]

theorem zero4 : (∀ w, (zeroValue 106).run Try.prog w = .ok (.agg (valsK .u8 (zerosN 4))) w) ∧ (Try.prog.info? 106).map (·.size) = some 4 :=
  zero_of_info (P := Try.prog) (t := 106) (v := .agg (valsK .u8 (zerosN 4))) (n := 4) (by kernel_rfl)
theorem under4 : Try.prog.underlying 106 = some (.array 4 5) := by kernel_rfl
theorem zero16 : (∀ w, (zeroValue 120).run Try.prog w = .ok (.agg (valsK .u8 (zerosN 16))) w) ∧ (Try.prog.info? 120).map (·.size) = some 16 :=
  zero_of_info (P := Try.prog) (t := 120) (v := .agg (valsK .u8 (zerosN 16))) (n := 16) (by kernel_rfl)
theorem under16 : Try.prog.underlying 120 = some (.array 4 106) := by kernel_rfl
theorem zeros4_ne (k : IntKind) : ¬ valsK k (zerosN 4) = #[] := by intro h; have := congrArg Array.size h; rw [valsK_size, zerosN, List.length_replicate] at this; exact absurd this (by decide)
theorem zeros16_ne (k : IntKind) : ¬ valsK k (zerosN 16) = #[] := by intro h; have := congrArg Array.size h; rw [valsK_size, zerosN, List.length_replicate] at this; exact absurd this (by decide)

/-! ### Whole rows, loaded and stored -/

theorem load_whole {ops : Array Oper} {rest : List Oper} {op : Oper} {a : Act} {X : World} {Q : Exit → Act → World → Prop} (hgd : op.guard = none) (T : TypeId) (x : Operand) (ho : op.op = .load T x)
    (g : Nat) (hx : a.eval x = .pointer (some ⟨g, 0, none⟩)) (l : List Nat) (hg : Wd .u8 T g l X) {n : Nat} {e : TypeId} (hu : Try.prog.underlying T = some (.array n e)) (hi : (Try.prog.info? T).map (·.size) = some (valsK .u8 l).size)
    (h : wpList Try.prog ops Q rest (a.put op.dst (.agg (valsK .u8 l))) X) : wpList Try.prog ops Q (op :: rest) a X :=
  wpList_plain hgd fun _ hK => wp_load_row T x ho g hx T (valsK .u8 l) (0, 0) _ hg hu rfl hi (hK _ _ h)

theorem store_whole {ops : Array Oper} {rest : List Oper} {op : Oper} {a : Act} {X : World} {Q : Exit → Act → World → Prop} (hgd : op.guard = none) (T : TypeId) (x y : Operand) (ho : op.op = .store T x y)
    (g : Nat) (hx : a.eval x = .pointer (some ⟨g, 0, none⟩)) (l m : List Nat) (hy : a.eval y = .agg (valsK .u8 l)) (hg : Wd .u8 T g m X) (hm : (valsK .u8 m).size = (valsK .u8 l).size) (hi : (Try.prog.info? T).map (·.size) = some (valsK .u8 l).size)
    (h : wpList Try.prog ops Q rest (a.put op.dst undef) (X.setRow g (valsK .u8 l))) : wpList Try.prog ops Q (op :: rest) a X :=
  wpList_plain hgd fun _ hK => by
    unfold Oper.wp execOp
    simp only [ho, hx, hy, Instr.storeAt, Instr.sureAddr, Sem.run_bind, Sem.run_pure, Result.andThen_ok, run_storeVar_row (P := Try.prog) X g T T (valsK .u8 m) (valsK .u8 l) hg hi hm (valsK_one _ _)]
    exact hK _ _ h
theorem Wd.setRow {k : IntKind} {T : TypeId} {g : Nat} {l : List Nat} {w : World} (h : Wd k T g l w) (m : List Nat) : Wd k T g m (w.setRow g (valsK k m)) := setRow_heap _ _ _ _ _ _ h

/-! ### sum -/

/-- Two rows that came in, and the result's. -/
structure Sum2 (w : World) (l m : List Nat) (wr : World) : Prop where
  hx : Wd .u8 106 w.heap.size l wr
  hy : Wd .u8 106 (w.heap.size + 1) m wr
  hr : Wd .u8 106 (w.heap.size + 1 + 1) (zerosN 4) wr
  below : Below w.heap.size w wr
theorem Sum2.start (w : World) (l m : List Nat) : Sum2 w l m (((w.alloc (.cells (valsK .u8 l) 106)).alloc (.cells (valsK .u8 m) 106)).alloc (.cells (valsK .u8 (zerosN 4)) 106)) where
  hx := keepAlloc (keepAlloc (heap_alloc_new w _) _) _
  hy := by
    have := keepAlloc (heap_alloc_new (w.alloc (.cells (valsK .u8 l) 106)) (.cells (valsK .u8 m) 106)) (.cells (valsK .u8 (zerosN 4)) 106)
    rwa [alloc_size] at this
  hr := by
    have := heap_alloc_new ((w.alloc (.cells (valsK .u8 l) 106)).alloc (.cells (valsK .u8 m) 106)) (.cells (valsK .u8 (zerosN 4)) 106)
    rwa [alloc_size, alloc_size] at this
  below := below_alloc (below_alloc ((Below.refl _ _).alloc (Nat.le_refl _) _) _) _
theorem Sum2.drew {w X : World} {l m : List Nat} (h : Sum2 w l m X) : Sum2 w l m X.drew := ⟨h.hx, h.hy, h.hr, h.below.drew⟩
theorem Sum2.step {w X : World} {l m : List Nat} (h : Sum2 w l m X) (j v : Nat) : Sum2 w (l.set j v) m (X.setCell ⟨w.heap.size, j, none⟩ (.int .u8 (v : Nat))) where
  hx := h.hx.set j v
  hy := h.hy.far _ _ _ (by omega)
  hr := h.hr.far _ _ _ (by omega)
  below := h.below.setCell (by simp only []; omega) _

set_option maxHeartbeats 2000000 in
theorem sum_any (x y : Nat → Nat) (w : World) (hx : ∀ i < 4, x i < 256) (hy : ∀ i < 4, y i < 256) :
    Calls Try.prog 98 #[.agg (valsK .u8 (allF x 4)), .agg (valsK .u8 (allF y 4))] w fun e w' => e = .returned (.agg (valsK .u8 (allF (fun i => x i ^^^ y i) 4))) ∧ Below w.heap.size w w' := by
  have hz := zero4.1
  have hne := zeros4_ne .u8
  have HS := Lib.hid (Sum2.start w (allF x 4) (allF y 4))
  have HX := Lib.hid hx
  have HY := Lib.hid hy
  clear hx hy
  obtain ⟨L, hL⟩ : ∃ L, L = allF x 4 := ⟨_, rfl⟩
  obtain ⟨M, hM⟩ : ∃ M, M = allF y 4 := ⟨_, rfl⟩
  rw [← hL, ← hM] at HS ⊢
  have HL := Lib.hid hL
  have HM := Lib.hid hM
  clear hL hM
  obtain ⟨R, hR⟩ : ∃ R, R = allF (fun i => x i ^^^ y i) 4 := ⟨_, rfl⟩
  rw [← hR]
  have HR := Lib.hid (show R = allF (fun i => x i ^^^ y i) 4 ∧ (valsK .u8 R).size = 4 from ⟨hR, by rw [valsK_size, hR, allF_length]⟩); clear hR
  go_enter Try.func98, Try.ntmps98
  go_wp2
  go_loopw [6] (fun i wr => ∃ k : Nat, k ≤ 4 ∧ i = .int .i64 (k : Nat) ∧ Sum2 w (stepF (fun i => x i ^^^ y i) x 4 k) M wr) (fun i _ => 4 - (intOf i).toNat)
  case atStart => exact ⟨0, Nat.zero_le _, rfl, by rw [stepF_zero, ← HL.out]; exact HS.out⟩
  case round =>
    obtain ⟨k, hk, rfl, hS⟩ := hrel
    by_cases hlt : k < 4
    · obtain ⟨a, ha⟩ : ∃ a, a = x k := ⟨_, rfl⟩
      obtain ⟨b, hb⟩ : ∃ b, b = y k := ⟨_, rfl⟩
      have hst := hS.step k (a ^^^ b)
      rw [ha, hb, stepF_next (fun i => x i ^^^ y i) x 4 k, ← ha, ← hb] at hst
      have c1 := hS.hx.cell (stepF_get (fun i => x i ^^^ y i) x 4 k k hlt)
      rw [if_neg (Nat.lt_irrefl _), ← ha] at c1
      have c2 := hS.hy.cell (show M[k]? = some b by rw [HM.out, allF_get _ _ _ hlt, hb])
      have f1 := hS.hx.frozen k
      have q := u8_xor_nat a b (by rw [ha]; exact HX.out k hlt) (by rw [hb]; exact HY.out k hlt)
      have q3 : (k : Int) < 4 := by omega
      have HST := Lib.hid hst; clear hst
      clear hS ha hb hz hne
      go_wp2
      go_region
      all_goals (go_wp2; go_roundw)
      all_goals first
        | exact ⟨k + 1, by omega, by go_num, HST.out.drew⟩
        | (simp [intOf]; omega)
    · obtain rfl : k = 4 := by omega
      rw [stepF_all, ← HR.out.1] at hS
      have HQ := Lib.hid hS; clear hS
      go_wp2_with (first | (refine load_whole (by rfl) 106 _ (by rfl) _ (by rfl) R HQ.out.hx under4 (by rw [HR.out.2]; exact zero4.2) ?_) | (refine store_whole (by rfl) 106 _ _ (by rfl) _ (by rfl) R _ (by rfl) HQ.out.hr (by rw [HR.out.2, valsK_size]; rfl) (by rw [HR.out.2]; exact zero4.2) ?_))
      refine bodyPost_ret (results_cell_row rfl _ _ (w.heap.size + 1 + 1) 106 (valsK .u8 R) (0, 0) _ rfl (setRow_heap _ _ _ _ _ _ HQ.out.hr) under4 rfl (by rw [HR.out.2]; exact zero4.2)) rfl ⟨rfl, below_setRow HQ.out.below (by omega) _⟩

end Aes
end Go.Proofs.Ytedoggejbhbebaa
