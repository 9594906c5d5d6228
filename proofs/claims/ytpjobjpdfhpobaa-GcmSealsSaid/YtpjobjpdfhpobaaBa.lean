/-
  Contracts of aes.sum, aes.replaced on a column, aes.blockOf. Conditions: the numbers are bytes; the block has sixteen.
-/
import Derived.Test.YtpjobjpdfhpobaaAf
import Derived.Deep.MidRow
import Derived.Deep.RegionHeld3
namespace Go.Proofs.Ytpjobjpdfhpobaa
namespace Aes
open Go.ChangeShapes Go.WideShapes Go.ChangeAt Go.RowKit Go.Great
open Gf
set_option linter.unusedVariables false

/-- What f gives below i, what g gives from there on. -/
def stepF (f g : Nat → Nat) (n i : Nat) : List Nat := (List.range n).map fun j => if j < i then f j else g j
theorem stepF_get (f g : Nat → Nat) (n i j : Nat) (h : j < n) : (stepF f g n i)[j]? = some (if j < i then f j else g j) := by
  unfold stepF
  rw [List.getElem?_map, List.getElem?_range h]
  rfl
theorem stepF_length (f g : Nat → Nat) (n i : Nat) : (stepF f g n i).length = n := by simp [stepF]
theorem stepF_next (f g : Nat → Nat) (n i : Nat) : (stepF f g n i).set i (f i) = stepF f g n (i + 1) := by
  apply List.ext_getElem?
  intro j
  rw [List.getElem?_set]
  by_cases h : j < n
  · by_cases e : i = j
    · subst e; rw [if_pos rfl, stepF_length, if_pos h, stepF_get _ _ _ _ _ h, if_pos (by omega)]
    · rw [if_neg e, stepF_get _ _ _ _ _ h, stepF_get _ _ _ _ _ h]
      have : (j < i + 1) = (j < i) := by apply propext; omega
      simp only [this]
  · rw [List.getElem?_eq_none (by rw [stepF_length]; omega), List.getElem?_eq_none (by rw [stepF_length]; omega)]
    split
    · rw [if_neg (by rw [stepF_length]; omega)]
    · rfl
theorem stepF_zero (f g : Nat → Nat) (n : Nat) : stepF f g n 0 = allF g n := by
  unfold stepF allF
  exact List.map_congr_left fun j hj => if_neg (by omega)
theorem stepF_all (f g : Nat → Nat) (n : Nat) : stepF f g n n = allF f n := by
  unfold stepF allF
  exact List.map_congr_left fun j hj => if_pos (List.mem_range.1 hj)
theorem allF_congr {f g : Nat → Nat} {n : Nat} (h : ∀ i < n, f i = g i) : allF f n = allF g n := by
  unfold allF
  exact List.map_congr_left fun j hj => h j (List.mem_range.1 hj)
theorem allF_zero (n : Nat) : allF (fun _ => 0) n = zerosN n := by
  unfold allF zerosN
  rw [List.map_const', List.length_range]

theorem zero4 : (∀ w, (zeroValue 74).run Try.prog w = .ok (.agg (valsK .u8 (zerosN 4))) w) ∧ (Try.prog.info? 74).map (·.size) = some 4 :=
  zero_of_info (P := Try.prog) (t := 74) (v := .agg (valsK .u8 (zerosN 4))) (n := 4) (by kernel_rfl)
theorem under4 : Try.prog.underlying 74 = some (.array 4 5) := by kernel_rfl
theorem zero16 : (∀ w, (zeroValue 85).run Try.prog w = .ok (.agg (valsK .u8 (zerosN 16))) w) ∧ (Try.prog.info? 85).map (·.size) = some 16 :=
  zero_of_info (P := Try.prog) (t := 85) (v := .agg (valsK .u8 (zerosN 16))) (n := 16) (by kernel_rfl)
theorem under16 : Try.prog.underlying 85 = some (.array 4 74) := by kernel_rfl
theorem zeros4_ne (k : IntKind) : ¬ valsK k (zerosN 4) = #[] := by intro h; have := congrArg Array.size h; rw [valsK_size, zerosN, List.length_replicate] at this; exact absurd this (by decide)
theorem zeros16_ne (k : IntKind) : ¬ valsK k (zerosN 16) = #[] := by intro h; have := congrArg Array.size h; rw [valsK_size, zerosN, List.length_replicate] at this; exact absurd this (by decide)

/-! ### Whole rows, loaded and stored -/

theorem load_whole {ops : Array Oper} {rest : List Oper} {op : Oper} {a : Act} {X : World} {Q : Exit → Act → World → Prop} (hgd : op.guard = none) (T : TypeId) (x : Operand) (ho : op.op = .load T x)
    (g : Nat) (hx : a.eval x = .pointer (some ⟨g, 0, none⟩)) (l : List Nat) (hg : Wd .u8 T g l X) {n : Nat} {e : TypeId} (hu : Try.prog.underlying T = some (.array n e)) (hi : (Try.prog.info? T).map (·.size) = some (valsK .u8 l).size)
    (h : wpList Try.prog ops Q rest (a.put op.dst (.agg (valsK .u8 l))) X) : wpList Try.prog ops Q (op :: rest) a X :=
  wpList_plain hgd fun _ hK => wp_load_row T x ho g hx T (valsK .u8 l) (0, 0) _ hg hu rfl hi (hK _ _ h)

theorem store_whole {ops : Array Oper} {rest : List Oper} {op : Oper} {a : Act} {X : World} {Q : Exit → Act → World → Prop} (hgd : op.guard = none) (T : TypeId) (x y : Operand) (ho : op.op = .store T x y)
    (g : Nat) (hx : a.eval x = .pointer (some ⟨g, 0, none⟩)) (l m : List Nat) (hy : a.eval y = .agg (valsK .u8 l)) (hg : Wd .u8 T g m X) (hm : (valsK .u8 m).size = (valsK .u8 l).size) (hi : (Try.prog.info? T).map (·.size) = some (valsK .u8 l).size)
    (h : wpList Try.prog ops Q rest (a.put op.dst undef) (X.setRow g (valsK .u8 l))) : wpList Try.prog ops Q (op :: rest) a X :=
  wpList_plain hgd fun _ hK => by
    unfold Oper.wp execOp
    simp only [ho, hx, hy, Instr.storeAt, Instr.sureAddr, Sem.run_bind, Sem.run_pure, Result.andThen_ok, run_storeVar_row (P := Try.prog) X g T T (valsK .u8 m) (valsK .u8 l) hg hi hm (valsK_one _ _)]
    exact hK _ _ h
theorem Wd.setRow {k : IntKind} {T : TypeId} {g : Nat} {l : List Nat} {w : World} (h : Wd k T g l w) (m : List Nat) : Wd k T g m (w.setRow g (valsK k m)) := setRow_heap _ _ _ _ _ _ h

/-! ### sum -/

/-- Two rows that came in, and the result's. -/
structure Sum2 (w : World) (l m : List Nat) (wr : World) : Prop where
  hx : Wd .u8 74 w.heap.size l wr
  hy : Wd .u8 74 (w.heap.size + 1) m wr
  hr : Wd .u8 74 (w.heap.size + 1 + 1) (zerosN 4) wr
  below : Below w.heap.size w wr
theorem Sum2.start (w : World) (l m : List Nat) : Sum2 w l m (((w.alloc (.cells (valsK .u8 l) 74)).alloc (.cells (valsK .u8 m) 74)).alloc (.cells (valsK .u8 (zerosN 4)) 74)) where
  hx := keepAlloc (keepAlloc (heap_alloc_new w _) _) _
  hy := by
    have := keepAlloc (heap_alloc_new (w.alloc (.cells (valsK .u8 l) 74)) (.cells (valsK .u8 m) 74)) (.cells (valsK .u8 (zerosN 4)) 74)
    rwa [alloc_size] at this
  hr := by
    have := heap_alloc_new ((w.alloc (.cells (valsK .u8 l) 74)).alloc (.cells (valsK .u8 m) 74)) (.cells (valsK .u8 (zerosN 4)) 74)
    rwa [alloc_size, alloc_size] at this
  below := below_alloc (below_alloc ((Below.refl _ _).alloc (Nat.le_refl _) _) _) _
theorem Sum2.drew {w X : World} {l m : List Nat} (h : Sum2 w l m X) : Sum2 w l m X.drew := ⟨h.hx, h.hy, h.hr, h.below.drew⟩
theorem Sum2.step {w X : World} {l m : List Nat} (h : Sum2 w l m X) (j v : Nat) : Sum2 w (l.set j v) m (X.setCell ⟨w.heap.size, j, none⟩ (.int .u8 (v : Nat))) where
  hx := h.hx.set j v
  hy := h.hy.far _ _ _ (by omega)
  hr := h.hr.far _ _ _ (by omega)
  below := h.below.setCell (by simp only []; omega) _

set_option maxHeartbeats 2000000 in
theorem sum_any (x y : Nat → Nat) (w : World) (hx : ∀ i < 4, x i < 256) (hy : ∀ i < 4, y i < 256) :
    Calls Try.prog 63 #[.agg (valsK .u8 (allF x 4)), .agg (valsK .u8 (allF y 4))] w fun e w' => e = .returned (.agg (valsK .u8 (allF (fun i => x i ^^^ y i) 4))) ∧ Below w.heap.size w w' := by
  have hz := zero4.1
  have hne := zeros4_ne .u8
  have HS := Lib.hid (Sum2.start w (allF x 4) (allF y 4))
  have HX := Lib.hid hx
  have HY := Lib.hid hy
  clear hx hy
  obtain ⟨L, hL⟩ : ∃ L, L = allF x 4 := ⟨_, rfl⟩
  obtain ⟨M, hM⟩ : ∃ M, M = allF y 4 := ⟨_, rfl⟩
  rw [← hL, ← hM] at HS ⊢
  have HL := Lib.hid hL
  have HM := Lib.hid hM
  clear hL hM
  obtain ⟨R, hR⟩ : ∃ R, R = allF (fun i => x i ^^^ y i) 4 := ⟨_, rfl⟩
  rw [← hR]
  have HR := Lib.hid (show R = allF (fun i => x i ^^^ y i) 4 ∧ (valsK .u8 R).size = 4 from ⟨hR, by rw [valsK_size, hR, allF_length]⟩); clear hR
  go_enter Try.func63, Try.ntmps63
  go_wp2
  go_loopw [6] (fun i wr => ∃ k : Nat, k ≤ 4 ∧ i = .int .i64 (k : Nat) ∧ Sum2 w (stepF (fun i => x i ^^^ y i) x 4 k) M wr) (fun i _ => 4 - (intOf i).toNat)
  case atStart => exact ⟨0, Nat.zero_le _, rfl, by rw [stepF_zero, ← HL.out]; exact HS.out⟩
  case round =>
    obtain ⟨k, hk, rfl, hS⟩ := hrel
    by_cases hlt : k < 4
    · obtain ⟨a, ha⟩ : ∃ a, a = x k := ⟨_, rfl⟩
      obtain ⟨b, hb⟩ : ∃ b, b = y k := ⟨_, rfl⟩
      have hst := hS.step k (a ^^^ b)
      rw [ha, hb, stepF_next (fun i => x i ^^^ y i) x 4 k, ← ha, ← hb] at hst
      have c1 := hS.hx.cell (stepF_get (fun i => x i ^^^ y i) x 4 k k hlt)
      rw [if_neg (Nat.lt_irrefl _), ← ha] at c1
      have c2 := hS.hy.cell (show M[k]? = some b by rw [HM.out, allF_get _ _ _ hlt, hb])
      have f1 := hS.hx.frozen k
      have q := u8_xor_nat a b (by rw [ha]; exact HX.out k hlt) (by rw [hb]; exact HY.out k hlt)
      have q3 : (k : Int) < 4 := by omega
      have HST := Lib.hid hst; clear hst
      clear hS ha hb hz hne
      go_wp2
      go_region
      all_goals (go_wp2; go_roundw)
      all_goals first
        | exact ⟨k + 1, by omega, by go_num, HST.out.drew⟩
        | (simp [intOf]; omega)
    · obtain rfl : k = 4 := by omega
      rw [stepF_all, ← HR.out.1] at hS
      have HQ := Lib.hid hS; clear hS
      go_wp2_with (first | (refine load_whole (by rfl) 74 _ (by rfl) _ (by rfl) R HQ.out.hx under4 (by rw [HR.out.2]; exact zero4.2) ?_) | (refine store_whole (by rfl) 74 _ _ (by rfl) _ (by rfl) R _ (by rfl) HQ.out.hr (by rw [HR.out.2, valsK_size]; rfl) (by rw [HR.out.2]; exact zero4.2) ?_))
      refine bodyPost_ret (results_cell_row rfl _ _ (w.heap.size + 1 + 1) 74 (valsK .u8 R) (0, 0) _ rfl (setRow_heap _ _ _ _ _ _ HQ.out.hr) under4 rfl (by rw [HR.out.2]; exact zero4.2)) rfl ⟨rfl, below_setRow HQ.out.below (by omega) _⟩

end Aes
end Go.Proofs.Ytpjobjpdfhpobaa
