/-
  Joined: Se. Conditions: as each part says.
-/
import Derived.Test.YtedoggejbhbebaaJ17

/-
  Contracts of sha.initialWords, Block and Size. Conditions: none.
-/
namespace Go.Proofs.Ytedoggejbhbebaa
namespace Dg
open Go.ChangeShapes Go.WideShapes Go.ChangeAt Go.RowKit Go.Great
open Sha
set_option linter.unusedVariables false
set_option maxRecDepth 100000

def z8 : List Nat := [0, 0, 0, 0, 0, 0, 0, 0]

theorem Wd.setE {k : IntKind} {T : TypeId} {g : Nat} {l : List Nat} {w : World} (h : Wd k T g l w) (j v : Nat) : Wd k T g (l.set j v) (w.setCell ⟨g, j, none⟩ (.int k (v : Nat))) := by
  unfold Wd
  rw [heap_setCell_same _ _ _ _ _ _ h, valsK_set]

/-- The memory of initialWords. -/
structure Ini32 (w : World) (l : List Nat) (X : World) : Prop where
  hr : Wd .u32 131 w.heap.size z8 X
  hs : Wd .u32 131 (w.heap.size + 1 + 1) l X
  below : Below w.heap.size w X
theorem Ini32.step {w X : World} {l : List Nat} (h : Ini32 w l X) (j v : Nat) : Ini32 w (l.set j v) (X.setCell ⟨w.heap.size + 1 + 1, j, none⟩ (.int .u32 (v : Nat))) where
  hr := by unfold Wd; rw [heap_setCell_other _ _ _ _ (by simp only []; omega)]; exact h.hr
  hs := h.hs.setE j v
  below := h.below.setCell (by simp only []; omega) _
theorem Ini32.start (w : World) (o : Obj) : Ini32 w z8 (((w.alloc (.cells (valsK .u32 z8) 131)).alloc o).alloc (.cells (valsK .u32 z8) 131)) where
  hr := keepAlloc (keepAlloc (heap_alloc_new w _) _) _
  hs := by
    have := heap_alloc_new ((w.alloc (.cells (valsK .u32 z8) 131)).alloc o) (.cells (valsK .u32 z8) 131)
    rwa [alloc_size, alloc_size] at this
  below := below_alloc (below_alloc ((Below.refl _ _).alloc (Nat.le_refl _) _) _) _
theorem size8_32 : (Try.prog.info? 131).map (·.size) = some 8 := by kernel_rfl

/-- The memory of initialWords. -/
structure Ini64 (w : World) (l : List Nat) (X : World) : Prop where
  hr : Wd .u64 136 w.heap.size z8 X
  hs : Wd .u64 136 (w.heap.size + 1 + 1) l X
  below : Below w.heap.size w X
theorem Ini64.step {w X : World} {l : List Nat} (h : Ini64 w l X) (j v : Nat) : Ini64 w (l.set j v) (X.setCell ⟨w.heap.size + 1 + 1, j, none⟩ (.int .u64 (v : Nat))) where
  hr := by unfold Wd; rw [heap_setCell_other _ _ _ _ (by simp only []; omega)]; exact h.hr
  hs := h.hs.setE j v
  below := h.below.setCell (by simp only []; omega) _
theorem Ini64.start (w : World) (o : Obj) : Ini64 w z8 (((w.alloc (.cells (valsK .u64 z8) 136)).alloc o).alloc (.cells (valsK .u64 z8) 136)) where
  hr := keepAlloc (keepAlloc (heap_alloc_new w _) _) _
  hs := by
    have := heap_alloc_new ((w.alloc (.cells (valsK .u64 z8) 136)).alloc o) (.cells (valsK .u64 z8) 136)
    rwa [alloc_size, alloc_size] at this
  below := below_alloc (below_alloc ((Below.refl _ _).alloc (Nat.le_refl _) _) _) _
theorem size8_64 : (Try.prog.info? 136).map (·.size) = some 8 := by kernel_rfl

/-- What is begun with, for 256 bits. -/
def ini256 : St := ⟨1779033703, 3144134277, 1013904242, 2773480762, 1359893119, 2600822924, 528734635, 1541459225⟩
theorem ini256_small : ini256.Small 32 := ⟨by decide, by decide, by decide, by decide, by decide, by decide, by decide, by decide⟩

set_option maxRecDepth 10000 in
set_option maxHeartbeats 4000000 in
theorem init_256 (w : World) :
    Calls Try.prog 86 #[.int .i64 256, .int .i64 32] w fun e w' => e = .returned (.agg (valsK .u32 ini256.list)) ∧ Below w.heap.size w w' := by
  have HS := Lib.hid (Ini32.start w)
  go_enter Try.func86, Try.ntmps86
  go_wp2
  go_loopw [14] (fun x wr => ∃ j : Nat, j ≤ 8 ∧ x = .int .i64 (j : Nat) ∧ Ini32 w (ini256.list.take j ++ z8.drop j) wr) (fun x _ => 8 - (intOf x).toNat)
  case atStart => exact ⟨0, Nat.zero_le _, rfl, HS.out _⟩
  case round =>
    obtain ⟨j, hj, rfl, hR⟩ := hrel
    match j, hj with
    | 0, _ =>
      have c := hR.hs.cell (j := 0) (x := 0) rfl
      have f := hR.hs.frozen 0
      have ix : ∀ X, (Instr.index 136 (.agg #[.int .u64 7640891576956012808, .int .u64 13503953896175478587, .int .u64 4354685564936845355, .int .u64 11912009170470909681, .int .u64 5840696475078001361, .int .u64 11170449401992604703, .int .u64 2270897969802886507, .int .u64 6620516959819538809]) (.int .i64 0)).run Try.prog X = .ok (.int .u64 7640891576956012808) X := fun _ => by kernel_rfl
      have HR := Lib.hid (hR.step 0 1779033703); clear hR
      go_wp2
      go_roundw
      case rel => exact ⟨1, by omega, rfl, HR.out⟩
      case measure => simp [intOf]
    | 1, _ =>
      have c := hR.hs.cell (j := 1) (x := 0) rfl
      have f := hR.hs.frozen 1
      have ix : ∀ X, (Instr.index 136 (.agg #[.int .u64 7640891576956012808, .int .u64 13503953896175478587, .int .u64 4354685564936845355, .int .u64 11912009170470909681, .int .u64 5840696475078001361, .int .u64 11170449401992604703, .int .u64 2270897969802886507, .int .u64 6620516959819538809]) (.int .i64 1)).run Try.prog X = .ok (.int .u64 13503953896175478587) X := fun _ => by kernel_rfl
      have HR := Lib.hid (hR.step 1 3144134277); clear hR
      go_wp2
      go_roundw
      case rel => exact ⟨2, by omega, rfl, HR.out⟩
      case measure => simp [intOf]
    | 2, _ =>
      have c := hR.hs.cell (j := 2) (x := 0) rfl
      have f := hR.hs.frozen 2
      have ix : ∀ X, (Instr.index 136 (.agg #[.int .u64 7640891576956012808, .int .u64 13503953896175478587, .int .u64 4354685564936845355, .int .u64 11912009170470909681, .int .u64 5840696475078001361, .int .u64 11170449401992604703, .int .u64 2270897969802886507, .int .u64 6620516959819538809]) (.int .i64 2)).run Try.prog X = .ok (.int .u64 4354685564936845355) X := fun _ => by kernel_rfl
      have HR := Lib.hid (hR.step 2 1013904242); clear hR
      go_wp2
      go_roundw
      case rel => exact ⟨3, by omega, rfl, HR.out⟩
      case measure => simp [intOf]
    | 3, _ =>
      have c := hR.hs.cell (j := 3) (x := 0) rfl
      have f := hR.hs.frozen 3
      have ix : ∀ X, (Instr.index 136 (.agg #[.int .u64 7640891576956012808, .int .u64 13503953896175478587, .int .u64 4354685564936845355, .int .u64 11912009170470909681, .int .u64 5840696475078001361, .int .u64 11170449401992604703, .int .u64 2270897969802886507, .int .u64 6620516959819538809]) (.int .i64 3)).run Try.prog X = .ok (.int .u64 11912009170470909681) X := fun _ => by kernel_rfl
      have HR := Lib.hid (hR.step 3 2773480762); clear hR
      go_wp2
      go_roundw
      case rel => exact ⟨4, by omega, rfl, HR.out⟩
      case measure => simp [intOf]
    | 4, _ =>
      have c := hR.hs.cell (j := 4) (x := 0) rfl
      have f := hR.hs.frozen 4
      have ix : ∀ X, (Instr.index 136 (.agg #[.int .u64 7640891576956012808, .int .u64 13503953896175478587, .int .u64 4354685564936845355, .int .u64 11912009170470909681, .int .u64 5840696475078001361, .int .u64 11170449401992604703, .int .u64 2270897969802886507, .int .u64 6620516959819538809]) (.int .i64 4)).run Try.prog X = .ok (.int .u64 5840696475078001361) X := fun _ => by kernel_rfl
      have HR := Lib.hid (hR.step 4 1359893119); clear hR
      go_wp2
      go_roundw
      case rel => exact ⟨5, by omega, rfl, HR.out⟩
      case measure => simp [intOf]
    | 5, _ =>
      have c := hR.hs.cell (j := 5) (x := 0) rfl
      have f := hR.hs.frozen 5
      have ix : ∀ X, (Instr.index 136 (.agg #[.int .u64 7640891576956012808, .int .u64 13503953896175478587, .int .u64 4354685564936845355, .int .u64 11912009170470909681, .int .u64 5840696475078001361, .int .u64 11170449401992604703, .int .u64 2270897969802886507, .int .u64 6620516959819538809]) (.int .i64 5)).run Try.prog X = .ok (.int .u64 11170449401992604703) X := fun _ => by kernel_rfl
      have HR := Lib.hid (hR.step 5 2600822924); clear hR
      go_wp2
      go_roundw
      case rel => exact ⟨6, by omega, rfl, HR.out⟩
      case measure => simp [intOf]
    | 6, _ =>
      have c := hR.hs.cell (j := 6) (x := 0) rfl
      have f := hR.hs.frozen 6
      have ix : ∀ X, (Instr.index 136 (.agg #[.int .u64 7640891576956012808, .int .u64 13503953896175478587, .int .u64 4354685564936845355, .int .u64 11912009170470909681, .int .u64 5840696475078001361, .int .u64 11170449401992604703, .int .u64 2270897969802886507, .int .u64 6620516959819538809]) (.int .i64 6)).run Try.prog X = .ok (.int .u64 2270897969802886507) X := fun _ => by kernel_rfl
      have HR := Lib.hid (hR.step 6 528734635); clear hR
      go_wp2
      go_roundw
      case rel => exact ⟨7, by omega, rfl, HR.out⟩
      case measure => simp [intOf]
    | 7, _ =>
      have c := hR.hs.cell (j := 7) (x := 0) rfl
      have f := hR.hs.frozen 7
      have ix : ∀ X, (Instr.index 136 (.agg #[.int .u64 7640891576956012808, .int .u64 13503953896175478587, .int .u64 4354685564936845355, .int .u64 11912009170470909681, .int .u64 5840696475078001361, .int .u64 11170449401992604703, .int .u64 2270897969802886507, .int .u64 6620516959819538809]) (.int .i64 7)).run Try.prog X = .ok (.int .u64 6620516959819538809) X := fun _ => by kernel_rfl
      have HR := Lib.hid (hR.step 7 1541459225); clear hR
      go_wp2
      go_roundw
      case rel => exact ⟨8, by omega, rfl, HR.out⟩
      case measure => simp [intOf]
    | 8, _ =>
      have v0 := hR.hs.cell (j := 0) (x := 1779033703) rfl
      have y0 := hR.hr.cell (j := 0) (x := 0) rfl
      have z0 := hR.hr.frozen 0
      have v1 := hR.hs.cell (j := 1) (x := 3144134277) rfl
      have y1 := hR.hr.cell (j := 1) (x := 0) rfl
      have z1 := hR.hr.frozen 1
      have v2 := hR.hs.cell (j := 2) (x := 1013904242) rfl
      have y2 := hR.hr.cell (j := 2) (x := 0) rfl
      have z2 := hR.hr.frozen 2
      have v3 := hR.hs.cell (j := 3) (x := 2773480762) rfl
      have y3 := hR.hr.cell (j := 3) (x := 0) rfl
      have z3 := hR.hr.frozen 3
      have v4 := hR.hs.cell (j := 4) (x := 1359893119) rfl
      have y4 := hR.hr.cell (j := 4) (x := 0) rfl
      have z4 := hR.hr.frozen 4
      have v5 := hR.hs.cell (j := 5) (x := 2600822924) rfl
      have y5 := hR.hr.cell (j := 5) (x := 0) rfl
      have z5 := hR.hr.frozen 5
      have v6 := hR.hs.cell (j := 6) (x := 528734635) rfl
      have y6 := hR.hr.cell (j := 6) (x := 0) rfl
      have z6 := hR.hr.frozen 6
      have v7 := hR.hs.cell (j := 7) (x := 1541459225) rfl
      have y7 := hR.hr.cell (j := 7) (x := 0) rfl
      have z7 := hR.hr.frozen 7
      have HR := Lib.hid hR; clear hR
      go_wp2
      refine bodyPost_ret (results_cell_row rfl _ _ w.heap.size 131 (valsK .u32 ini256.list) (0, 0) _ rfl (((((((((HR.out.hr.setE 0 1779033703).setE 1 3144134277).setE 2 1013904242).setE 3 2773480762).setE 4 1359893119).setE 5 2600822924).setE 6 528734635).setE 7 1541459225)) Try.underlying131 rfl size8_32) rfl ⟨rfl, ((((((((HR.out.below.setCell (Nat.le_refl _) _).setCell (Nat.le_refl _) _).setCell (Nat.le_refl _) _).setCell (Nat.le_refl _) _).setCell (Nat.le_refl _) _).setCell (Nat.le_refl _) _).setCell (Nat.le_refl _) _).setCell (Nat.le_refl _) _)⟩

/-- What is begun with, for 512 bits. -/
def ini512 : St := ⟨7640891576956012808, 13503953896175478587, 4354685564936845355, 11912009170470909681, 5840696475078001361, 11170449401992604703, 2270897969802886507, 6620516959819538809⟩
theorem ini512_small : ini512.Small 64 := ⟨by decide, by decide, by decide, by decide, by decide, by decide, by decide, by decide⟩

set_option maxRecDepth 10000 in
set_option maxHeartbeats 4000000 in
theorem init_512 (w : World) :
    Calls Try.prog 90 #[.int .i64 512, .int .i64 64] w fun e w' => e = .returned (.agg (valsK .u64 ini512.list)) ∧ Below w.heap.size w w' := by
  have HS := Lib.hid (Ini64.start w)
  go_enter Try.func90, Try.ntmps90
  go_wp2
  go_loopw [14] (fun x wr => ∃ j : Nat, j ≤ 8 ∧ x = .int .i64 (j : Nat) ∧ Ini64 w (ini512.list.take j ++ z8.drop j) wr) (fun x _ => 8 - (intOf x).toNat)
  case atStart => exact ⟨0, Nat.zero_le _, rfl, HS.out _⟩
  case round =>
    obtain ⟨j, hj, rfl, hR⟩ := hrel
    match j, hj with
    | 0, _ =>
      have c := hR.hs.cell (j := 0) (x := 0) rfl
      have f := hR.hs.frozen 0
      have ix : ∀ X, (Instr.index 136 (.agg #[.int .u64 7640891576956012808, .int .u64 13503953896175478587, .int .u64 4354685564936845355, .int .u64 11912009170470909681, .int .u64 5840696475078001361, .int .u64 11170449401992604703, .int .u64 2270897969802886507, .int .u64 6620516959819538809]) (.int .i64 0)).run Try.prog X = .ok (.int .u64 7640891576956012808) X := fun _ => by kernel_rfl
      have HR := Lib.hid (hR.step 0 7640891576956012808); clear hR
      go_wp2
      go_roundw
      case rel => exact ⟨1, by omega, rfl, HR.out⟩
      case measure => simp [intOf]
    | 1, _ =>
      have c := hR.hs.cell (j := 1) (x := 0) rfl
      have f := hR.hs.frozen 1
      have ix : ∀ X, (Instr.index 136 (.agg #[.int .u64 7640891576956012808, .int .u64 13503953896175478587, .int .u64 4354685564936845355, .int .u64 11912009170470909681, .int .u64 5840696475078001361, .int .u64 11170449401992604703, .int .u64 2270897969802886507, .int .u64 6620516959819538809]) (.int .i64 1)).run Try.prog X = .ok (.int .u64 13503953896175478587) X := fun _ => by kernel_rfl
      have HR := Lib.hid (hR.step 1 13503953896175478587); clear hR
      go_wp2
      go_roundw
      case rel => exact ⟨2, by omega, rfl, HR.out⟩
      case measure => simp [intOf]
    | 2, _ =>
      have c := hR.hs.cell (j := 2) (x := 0) rfl
      have f := hR.hs.frozen 2
      have ix : ∀ X, (Instr.index 136 (.agg #[.int .u64 7640891576956012808, .int .u64 13503953896175478587, .int .u64 4354685564936845355, .int .u64 11912009170470909681, .int .u64 5840696475078001361, .int .u64 11170449401992604703, .int .u64 2270897969802886507, .int .u64 6620516959819538809]) (.int .i64 2)).run Try.prog X = .ok (.int .u64 4354685564936845355) X := fun _ => by kernel_rfl
      have HR := Lib.hid (hR.step 2 4354685564936845355); clear hR
      go_wp2
      go_roundw
      case rel => exact ⟨3, by omega, rfl, HR.out⟩
      case measure => simp [intOf]
    | 3, _ =>
      have c := hR.hs.cell (j := 3) (x := 0) rfl
      have f := hR.hs.frozen 3
      have ix : ∀ X, (Instr.index 136 (.agg #[.int .u64 7640891576956012808, .int .u64 13503953896175478587, .int .u64 4354685564936845355, .int .u64 11912009170470909681, .int .u64 5840696475078001361, .int .u64 11170449401992604703, .int .u64 2270897969802886507, .int .u64 6620516959819538809]) (.int .i64 3)).run Try.prog X = .ok (.int .u64 11912009170470909681) X := fun _ => by kernel_rfl
      have HR := Lib.hid (hR.step 3 11912009170470909681); clear hR
      go_wp2
      go_roundw
      case rel => exact ⟨4, by omega, rfl, HR.out⟩
      case measure => simp [intOf]
    | 4, _ =>
      have c := hR.hs.cell (j := 4) (x := 0) rfl
      have f := hR.hs.frozen 4
      have ix : ∀ X, (Instr.index 136 (.agg #[.int .u64 7640891576956012808, .int .u64 13503953896175478587, .int .u64 4354685564936845355, .int .u64 11912009170470909681, .int .u64 5840696475078001361, .int .u64 11170449401992604703, .int .u64 2270897969802886507, .int .u64 6620516959819538809]) (.int .i64 4)).run Try.prog X = .ok (.int .u64 5840696475078001361) X := fun _ => by kernel_rfl
      have HR := Lib.hid (hR.step 4 5840696475078001361); clear hR
      go_wp2
      go_roundw
      case rel => exact ⟨5, by omega, rfl, HR.out⟩
      case measure => simp [intOf]
    | 5, _ =>
      have c := hR.hs.cell (j := 5) (x := 0) rfl
      have f := hR.hs.frozen 5
      have ix : ∀ X, (Instr.index 136 (.agg #[.int .u64 7640891576956012808, .int .u64 13503953896175478587, .int .u64 4354685564936845355, .int .u64 11912009170470909681, .int .u64 5840696475078001361, .int .u64 11170449401992604703, .int .u64 2270897969802886507, .int .u64 6620516959819538809]) (.int .i64 5)).run Try.prog X = .ok (.int .u64 11170449401992604703) X := fun _ => by kernel_rfl
      have HR := Lib.hid (hR.step 5 11170449401992604703); clear hR
      go_wp2
      go_roundw
      case rel => exact ⟨6, by omega, rfl, HR.out⟩
      case measure => simp [intOf]
    | 6, _ =>
      have c := hR.hs.cell (j := 6) (x := 0) rfl
      have f := hR.hs.frozen 6
      have ix : ∀ X, (Instr.index 136 (.agg #[.int .u64 7640891576956012808, .int .u64 13503953896175478587, .int .u64 4354685564936845355, .int .u64 11912009170470909681, .int .u64 5840696475078001361, .int .u64 11170449401992604703, .int .u64 2270897969802886507, .int .u64 6620516959819538809]) (.int .i64 6)).run Try.prog X = .ok (.int .u64 2270897969802886507) X := fun _ => by kernel_rfl
      have HR := Lib.hid (hR.step 6 2270897969802886507); clear hR
      go_wp2
      go_roundw
      case rel => exact ⟨7, by omega, rfl, HR.out⟩
      case measure => simp [intOf]
    | 7, _ =>
      have c := hR.hs.cell (j := 7) (x := 0) rfl
      have f := hR.hs.frozen 7
      have ix : ∀ X, (Instr.index 136 (.agg #[.int .u64 7640891576956012808, .int .u64 13503953896175478587, .int .u64 4354685564936845355, .int .u64 11912009170470909681, .int .u64 5840696475078001361, .int .u64 11170449401992604703, .int .u64 2270897969802886507, .int .u64 6620516959819538809]) (.int .i64 7)).run Try.prog X = .ok (.int .u64 6620516959819538809) X := fun _ => by kernel_rfl
      have HR := Lib.hid (hR.step 7 6620516959819538809); clear hR
      go_wp2
      go_roundw
      case rel => exact ⟨8, by omega, rfl, HR.out⟩
      case measure => simp [intOf]
    | 8, _ =>
      have v0 := hR.hs.cell (j := 0) (x := 7640891576956012808) rfl
      have y0 := hR.hr.cell (j := 0) (x := 0) rfl
      have z0 := hR.hr.frozen 0
      have v1 := hR.hs.cell (j := 1) (x := 13503953896175478587) rfl
      have y1 := hR.hr.cell (j := 1) (x := 0) rfl
      have z1 := hR.hr.frozen 1
      have v2 := hR.hs.cell (j := 2) (x := 4354685564936845355) rfl
      have y2 := hR.hr.cell (j := 2) (x := 0) rfl
      have z2 := hR.hr.frozen 2
      have v3 := hR.hs.cell (j := 3) (x := 11912009170470909681) rfl
      have y3 := hR.hr.cell (j := 3) (x := 0) rfl
      have z3 := hR.hr.frozen 3
      have v4 := hR.hs.cell (j := 4) (x := 5840696475078001361) rfl
      have y4 := hR.hr.cell (j := 4) (x := 0) rfl
      have z4 := hR.hr.frozen 4
      have v5 := hR.hs.cell (j := 5) (x := 11170449401992604703) rfl
      have y5 := hR.hr.cell (j := 5) (x := 0) rfl
      have z5 := hR.hr.frozen 5
      have v6 := hR.hs.cell (j := 6) (x := 2270897969802886507) rfl
      have y6 := hR.hr.cell (j := 6) (x := 0) rfl
      have z6 := hR.hr.frozen 6
      have v7 := hR.hs.cell (j := 7) (x := 6620516959819538809) rfl
      have y7 := hR.hr.cell (j := 7) (x := 0) rfl
      have z7 := hR.hr.frozen 7
      have HR := Lib.hid hR; clear hR
      go_wp2
      refine bodyPost_ret (results_cell_row rfl _ _ w.heap.size 136 (valsK .u64 ini512.list) (0, 0) _ rfl (((((((((HR.out.hr.setE 0 7640891576956012808).setE 1 13503953896175478587).setE 2 4354685564936845355).setE 3 11912009170470909681).setE 4 5840696475078001361).setE 5 11170449401992604703).setE 6 2270897969802886507).setE 7 6620516959819538809)) Try.underlying136 rfl size8_64) rfl ⟨rfl, ((((((((HR.out.below.setCell (Nat.le_refl _) _).setCell (Nat.le_refl _) _).setCell (Nat.le_refl _) _).setCell (Nat.le_refl _) _).setCell (Nat.le_refl _) _).setCell (Nat.le_refl _) _).setCell (Nat.le_refl _) _).setCell (Nat.le_refl _) _)⟩

/-- What is begun with, for 384 bits. -/
def ini384 : St := ⟨14680500436340154072, 7105036623409894663, 10473403895298186519, 1526699215303891257, 7436329637833083697, 10282925794625328401, 15784041429090275239, 5167115440072839076⟩
theorem ini384_small : ini384.Small 64 := ⟨by decide, by decide, by decide, by decide, by decide, by decide, by decide, by decide⟩

set_option maxRecDepth 10000 in
set_option maxHeartbeats 4000000 in
theorem init_384 (w : World) :
    Calls Try.prog 90 #[.int .i64 384, .int .i64 64] w fun e w' => e = .returned (.agg (valsK .u64 ini384.list)) ∧ Below w.heap.size w w' := by
  have HS := Lib.hid (Ini64.start w)
  go_enter Try.func90, Try.ntmps90
  go_wp2
  go_loopw [14] (fun x wr => ∃ j : Nat, j ≤ 8 ∧ x = .int .i64 (j : Nat) ∧ Ini64 w (ini384.list.take j ++ z8.drop j) wr) (fun x _ => 8 - (intOf x).toNat)
  case atStart => exact ⟨0, Nat.zero_le _, rfl, HS.out _⟩
  case round =>
    obtain ⟨j, hj, rfl, hR⟩ := hrel
    match j, hj with
    | 0, _ =>
      have c := hR.hs.cell (j := 0) (x := 0) rfl
      have f := hR.hs.frozen 0
      have ix : ∀ X, (Instr.index 136 (.agg #[.int .u64 14680500436340154072, .int .u64 7105036623409894663, .int .u64 10473403895298186519, .int .u64 1526699215303891257, .int .u64 7436329637833083697, .int .u64 10282925794625328401, .int .u64 15784041429090275239, .int .u64 5167115440072839076]) (.int .i64 0)).run Try.prog X = .ok (.int .u64 14680500436340154072) X := fun _ => by kernel_rfl
      have HR := Lib.hid (hR.step 0 14680500436340154072); clear hR
      go_wp2
      go_roundw
      case rel => exact ⟨1, by omega, rfl, HR.out⟩
      case measure => simp [intOf]
    | 1, _ =>
      have c := hR.hs.cell (j := 1) (x := 0) rfl
      have f := hR.hs.frozen 1
      have ix : ∀ X, (Instr.index 136 (.agg #[.int .u64 14680500436340154072, .int .u64 7105036623409894663, .int .u64 10473403895298186519, .int .u64 1526699215303891257, .int .u64 7436329637833083697, .int .u64 10282925794625328401, .int .u64 15784041429090275239, .int .u64 5167115440072839076]) (.int .i64 1)).run Try.prog X = .ok (.int .u64 7105036623409894663) X := fun _ => by kernel_rfl
      have HR := Lib.hid (hR.step 1 7105036623409894663); clear hR
      go_wp2
      go_roundw
      case rel => exact ⟨2, by omega, rfl, HR.out⟩
      case measure => simp [intOf]
    | 2, _ =>
      have c := hR.hs.cell (j := 2) (x := 0) rfl
      have f := hR.hs.frozen 2
      have ix : ∀ X, (Instr.index 136 (.agg #[.int .u64 14680500436340154072, .int .u64 7105036623409894663, .int .u64 10473403895298186519, .int .u64 1526699215303891257, .int .u64 7436329637833083697, .int .u64 10282925794625328401, .int .u64 15784041429090275239, .int .u64 5167115440072839076]) (.int .i64 2)).run Try.prog X = .ok (.int .u64 10473403895298186519) X := fun _ => by kernel_rfl
      have HR := Lib.hid (hR.step 2 10473403895298186519); clear hR
      go_wp2
      go_roundw
      case rel => exact ⟨3, by omega, rfl, HR.out⟩
      case measure => simp [intOf]
    | 3, _ =>
      have c := hR.hs.cell (j := 3) (x := 0) rfl
      have f := hR.hs.frozen 3
      have ix : ∀ X, (Instr.index 136 (.agg #[.int .u64 14680500436340154072, .int .u64 7105036623409894663, .int .u64 10473403895298186519, .int .u64 1526699215303891257, .int .u64 7436329637833083697, .int .u64 10282925794625328401, .int .u64 15784041429090275239, .int .u64 5167115440072839076]) (.int .i64 3)).run Try.prog X = .ok (.int .u64 1526699215303891257) X := fun _ => by kernel_rfl
      have HR := Lib.hid (hR.step 3 1526699215303891257); clear hR
      go_wp2
      go_roundw
      case rel => exact ⟨4, by omega, rfl, HR.out⟩
      case measure => simp [intOf]
    | 4, _ =>
      have c := hR.hs.cell (j := 4) (x := 0) rfl
      have f := hR.hs.frozen 4
      have ix : ∀ X, (Instr.index 136 (.agg #[.int .u64 14680500436340154072, .int .u64 7105036623409894663, .int .u64 10473403895298186519, .int .u64 1526699215303891257, .int .u64 7436329637833083697, .int .u64 10282925794625328401, .int .u64 15784041429090275239, .int .u64 5167115440072839076]) (.int .i64 4)).run Try.prog X = .ok (.int .u64 7436329637833083697) X := fun _ => by kernel_rfl
      have HR := Lib.hid (hR.step 4 7436329637833083697); clear hR
      go_wp2
      go_roundw
      case rel => exact ⟨5, by omega, rfl, HR.out⟩
      case measure => simp [intOf]
    | 5, _ =>
      have c := hR.hs.cell (j := 5) (x := 0) rfl
      have f := hR.hs.frozen 5
      have ix : ∀ X, (Instr.index 136 (.agg #[.int .u64 14680500436340154072, .int .u64 7105036623409894663, .int .u64 10473403895298186519, .int .u64 1526699215303891257, .int .u64 7436329637833083697, .int .u64 10282925794625328401, .int .u64 15784041429090275239, .int .u64 5167115440072839076]) (.int .i64 5)).run Try.prog X = .ok (.int .u64 10282925794625328401) X := fun _ => by kernel_rfl
      have HR := Lib.hid (hR.step 5 10282925794625328401); clear hR
      go_wp2
      go_roundw
      case rel => exact ⟨6, by omega, rfl, HR.out⟩
      case measure => simp [intOf]
    | 6, _ =>
      have c := hR.hs.cell (j := 6) (x := 0) rfl
      have f := hR.hs.frozen 6
      have ix : ∀ X, (Instr.index 136 (.agg #[.int .u64 14680500436340154072, .int .u64 7105036623409894663, .int .u64 10473403895298186519, .int .u64 1526699215303891257, .int .u64 7436329637833083697, .int .u64 10282925794625328401, .int .u64 15784041429090275239, .int .u64 5167115440072839076]) (.int .i64 6)).run Try.prog X = .ok (.int .u64 15784041429090275239) X := fun _ => by kernel_rfl
      have HR := Lib.hid (hR.step 6 15784041429090275239); clear hR
      go_wp2
      go_roundw
      case rel => exact ⟨7, by omega, rfl, HR.out⟩
      case measure => simp [intOf]
    | 7, _ =>
      have c := hR.hs.cell (j := 7) (x := 0) rfl
      have f := hR.hs.frozen 7
      have ix : ∀ X, (Instr.index 136 (.agg #[.int .u64 14680500436340154072, .int .u64 7105036623409894663, .int .u64 10473403895298186519, .int .u64 1526699215303891257, .int .u64 7436329637833083697, .int .u64 10282925794625328401, .int .u64 15784041429090275239, .int .u64 5167115440072839076]) (.int .i64 7)).run Try.prog X = .ok (.int .u64 5167115440072839076) X := fun _ => by kernel_rfl
      have HR := Lib.hid (hR.step 7 5167115440072839076); clear hR
      go_wp2
      go_roundw
      case rel => exact ⟨8, by omega, rfl, HR.out⟩
      case measure => simp [intOf]
    | 8, _ =>
      have v0 := hR.hs.cell (j := 0) (x := 14680500436340154072) rfl
      have y0 := hR.hr.cell (j := 0) (x := 0) rfl
      have z0 := hR.hr.frozen 0
      have v1 := hR.hs.cell (j := 1) (x := 7105036623409894663) rfl
      have y1 := hR.hr.cell (j := 1) (x := 0) rfl
      have z1 := hR.hr.frozen 1
      have v2 := hR.hs.cell (j := 2) (x := 10473403895298186519) rfl
      have y2 := hR.hr.cell (j := 2) (x := 0) rfl
      have z2 := hR.hr.frozen 2
      have v3 := hR.hs.cell (j := 3) (x := 1526699215303891257) rfl
      have y3 := hR.hr.cell (j := 3) (x := 0) rfl
      have z3 := hR.hr.frozen 3
      have v4 := hR.hs.cell (j := 4) (x := 7436329637833083697) rfl
      have y4 := hR.hr.cell (j := 4) (x := 0) rfl
      have z4 := hR.hr.frozen 4
      have v5 := hR.hs.cell (j := 5) (x := 10282925794625328401) rfl
      have y5 := hR.hr.cell (j := 5) (x := 0) rfl
      have z5 := hR.hr.frozen 5
      have v6 := hR.hs.cell (j := 6) (x := 15784041429090275239) rfl
      have y6 := hR.hr.cell (j := 6) (x := 0) rfl
      have z6 := hR.hr.frozen 6
      have v7 := hR.hs.cell (j := 7) (x := 5167115440072839076) rfl
      have y7 := hR.hr.cell (j := 7) (x := 0) rfl
      have z7 := hR.hr.frozen 7
      have HR := Lib.hid hR; clear hR
      go_wp2
      refine bodyPost_ret (results_cell_row rfl _ _ w.heap.size 136 (valsK .u64 ini384.list) (0, 0) _ rfl (((((((((HR.out.hr.setE 0 14680500436340154072).setE 1 7105036623409894663).setE 2 10473403895298186519).setE 3 1526699215303891257).setE 4 7436329637833083697).setE 5 10282925794625328401).setE 6 15784041429090275239).setE 7 5167115440072839076)) Try.underlying136 rfl size8_64) rfl ⟨rfl, ((((((((HR.out.below.setCell (Nat.le_refl _) _).setCell (Nat.le_refl _) _).setCell (Nat.le_refl _) _).setCell (Nat.le_refl _) _).setCell (Nat.le_refl _) _).setCell (Nat.le_refl _) _).setCell (Nat.le_refl _) _).setCell (Nat.le_refl _) _)⟩

end Dg
end Go.Proofs.Ytedoggejbhbebaa
