/-
  Contracts of eid.dtnOf and ipnOf. Conditions: the item lies in memory.
-/
import Derived.Test.YtmbmhblogjkflaaDoorEir
import Derived.Test.YtmbmhblogjkflaaDoorEif
namespace Go.Proofs.YtmbmhblogjkflaaDoor
namespace Eid
open Go.ChangeShapes Go.WideShapes Go.ChangeAt Go.RowKit
set_option linter.unusedVariables false
set_option maxRecDepth 100000

/-- An item's box, and a result's. -/
structure IBox (w : World) (x : It) (sl : Value) (r : Nm) (X : World) : Prop where
  box : X.heap[w.heap.size]? = some (boxOf x sl)
  res : EB X (w.heap.size + 1) r
  below : Below w.heap.size w X
theorem IBox.next {w : World} {x : It} {sl : Value} {r : Nm} {X Y : World} (h : IBox w x sl r X) (hb : Below X.heap.size X Y) : IBox w x sl r Y :=
  ⟨(hb.block _ (by have := h.res.lt; omega)).trans h.box, h.res.below hb h.res.lt, h.below.trans (hb.mono h.below.size)⟩
theorem IBox.new (w : World) (x : It) (sl : Value) (r : Nm) : IBox w x sl r ((w.alloc (boxOf x sl)).alloc (.cells (eCells r) 24 (0, 0))) := by
  have h1 := EB.new (w.alloc (boxOf x sl)) r
  rw [World.size_alloc] at h1
  refine ⟨?_, h1, ((Below.refl w.heap.size w).alloc (Nat.le_refl _) _).alloc (by simp) _⟩
  rw [((Below.refl _ _).alloc (Nat.le_refl _) (.cells (eCells r) 24 (0, 0))).block w.heap.size (by simp)]
  exact heap_alloc_new w _
theorem IBox.cells {w : World} {x : It} {sl : Value} {r : Nm} {X : World} (h : IBox w x sl r X) : X.cell? ⟨w.heap.size, 0, none⟩ = some (.int .i64 x.kind) ∧ X.cell? ⟨w.heap.size, 1, none⟩ = some (.int .u64 x.n) ∧ X.cell? ⟨w.heap.size, 2, none⟩ = some (.string x.s) ∧ X.cell? ⟨w.heap.size, 3, none⟩ = some sl ∧ X.cell? ⟨w.heap.size, 4, none⟩ = some (.bool x.opn) :=
  ⟨cell_of_row X _ 0 _ _ _ h.box, cell_of_row X _ 1 _ _ _ h.box, cell_of_row X _ 2 _ _ _ h.box, cell_of_row X _ 3 _ _ _ h.box, cell_of_row X _ 4 _ _ _ h.box⟩
theorem IBox.fin {w : World} {x : It} {sl : Value} {r f : Nm} {X : World} (h : IBox w x sl r X) (F : World)
    (hF : ((((X.setCell ⟨w.heap.size + 1, 0, none⟩ (.int .i64 f.scheme)).setCell ⟨w.heap.size + 1, 1, none⟩ (.string f.name)).setCell ⟨w.heap.size + 1, 2, none⟩ (.int .u64 (f.node : Nat))).setCell ⟨w.heap.size + 1, 3, none⟩ (.int .u64 (f.service : Nat))) = F) : IBox w x sl f F := by
  obtain ⟨h1, h2, h3⟩ := h.res.set_end (f := f) (B := w.heap.size) (by omega) F hF
  exact ⟨(h3 _ (by omega)).trans h.box, h1, h.below.trans h2⟩

/-- What dtnOf makes of an item. -/
def DtnR (y : It) (r : Nm) : Prop := (isNumI y ∧ y.n = 0 ∧ r = noneE) ∨ (isTextI y ∧ y.s ≠ noneB ∧ r = ⟨1, y.s, 0, 0⟩) ∨ (¬ (isNumI y ∧ y.n = 0) ∧ ¬ (isTextI y ∧ y.s ≠ noneB) ∧ r = zeroE)

set_option maxHeartbeats 16000000 in
theorem dtn_by (k : Int) (n : Nat) (s : ByteArray) (sl : Value) (l : List It) (o : Bool) (bn bt : Bool) (w : World)
    (HN : Hid (∀ W, IBox w (.mk k n s l o) sl zeroE W → Calls Tryd.prog 33 #[itV (.mk k n s l o) sl] W fun e w' => e = .returned (.bool bn) ∧ Below W.heap.size W w'))
    (HT : Hid (∀ W, IBox w (.mk k n s l o) sl zeroE W → Calls Tryd.prog 43 #[itV (.mk k n s l o) sl] W fun e w' => e = .returned (.bool bt) ∧ Below W.heap.size W w')) (r : Nm)
    (hr : (bn = true ∧ n = 0 ∧ r = noneE) ∨ ((bn = false ∨ n ≠ 0) ∧ bt = true ∧ s ≠ noneB ∧ r = ⟨1, s, 0, 0⟩) ∨ ((bn = false ∨ n ≠ 0) ∧ (bt = false ∨ s = noneB) ∧ r = zeroE)) :
    Calls Tryd.prog 34 #[itV (.mk k n s l o) sl] w fun e w' => e = .returned (eV r) ∧ Below w.heap.size w w' := by
  have h0 := IBox.new w (.mk k n s l o) sl zeroE
  generalize hW : (w.alloc (boxOf (.mk k n s l o) sl)).alloc (.cells (eCells zeroE) 24 (0, 0)) = w1 at h0
  have HO := Lib.hid (fun w => none_any w)
  simp only [boxOf, eCells, zeroE, Int.cast_ofNat_Int, It.kind, It.n, It.s, It.l, It.opn, itV] at hW HN HT ⊢
  simp only [eV, noneE, noneB, Int.cast_ofNat_Int] at HO
  obtain ⟨c0, c1, c2, c3, c4⟩ := h0.cells
  obtain ⟨r0, r1, r2, r3⟩ := h0.res.cells
  have rf := h0.res.free
  have HX := Lib.hid h0; clear h0
  simp only [zeroE, It.kind, It.n, It.s, It.l, It.opn, Int.cast_ofNat_Int] at c0 c1 c2 c3 c4 r0 r1 r2 r3
  go_enter Tryd.func34, Tryd.ntmps34
  go_upto_region 1 with fail
  clear hW
  go_wp2_with fail
  refine (HN.out _ HX.out).mono ?_
  rintro _ w2 ⟨rfl, hb⟩
  have h2 := HX.out.next hb
  clear hb c0 c1 c2 c3 c4 r0 r1 r2 r3 rf HX
  obtain ⟨c0, c1, c2, c3, c4⟩ := h2.cells
  obtain ⟨r0, r1, r2, r3⟩ := h2.res.cells
  have rf := h2.res.free
  have HX := Lib.hid h2; clear h2
  simp only [zeroE, It.kind, It.n, It.s, It.l, It.opn, Int.cast_ofNat_Int] at c0 c1 c2 c3 c4 r0 r1 r2 r3
  have HR := Lib.hid hr; clear hr
  by_cases hbn : bn = true ∧ n = 0
  · obtain ⟨rfl, rfl⟩ := hbn
    have hr : r = noneE := by
      rcases HR.out with ⟨-, -, h⟩ | ⟨h, -⟩ | ⟨h, -⟩
      · exact h
      · simp at h
      · simp at h
    subst hr
    clear HR
    go_wp2_with fail
    refine (HO.out _).mono ?_
    rintro _ X ⟨rfl, hb⟩
    have h3 := HX.out.next hb
    clear hb c0 c1 c2 c3 c4 r0 r1 r2 r3 rf HX
    obtain ⟨c0, c1, c2, c3, c4⟩ := h3.cells
    obtain ⟨r0, r1, r2, r3⟩ := h3.res.cells
    have rf := h3.res.free
    have HX := Lib.hid h3; clear h3
    simp only [zeroE, It.kind, It.n, It.s, It.l, It.opn, Int.cast_ofNat_Int] at c0 c1 c2 c3 c4 r0 r1 r2 r3
    go_wp2
    generalize hF : ((((X.setCell ⟨w.heap.size + 1, 0, none⟩ (.int .i64 1)).setCell ⟨w.heap.size + 1, 1, none⟩ (.string ⟨#[110, 111, 110, 101]⟩)).setCell ⟨w.heap.size + 1, 2, none⟩ (.int .u64 0)).setCell ⟨w.heap.size + 1, 3, none⟩ (.int .u64 0)) = F
    have hfin := HX.out.fin (f := noneE) F hF
    obtain ⟨f0, f1, f2, f3⟩ := hfin.res.cells
    clear hF
    exact bodyPost_ret (v := eV (noneE)) (by simp [results, Tryd.results34, go_sem, f0, f1, f2, f3, eV, noneE, noneB, zeroE]) rfl ⟨rfl, hfin.below⟩
  · cases bn with
    | true =>
      have hnz : n ≠ 0 := fun h => hbn ⟨rfl, h⟩
      have g0 : ((n : Int) == 0) = false := by simp; omega
      have g1 : decide ((n : Int) = 0) = false := by simp; omega
      have HNZ := Lib.hid hnz; clear hnz hbn
      go_wp2_with fail
      refine (HT.out _ HX.out).mono ?_
      rintro _ X ⟨rfl, hb⟩
      have h3 := HX.out.next hb
      clear hb c0 c1 c2 c3 c4 r0 r1 r2 r3 rf HX
      obtain ⟨c0, c1, c2, c3, c4⟩ := h3.cells
      obtain ⟨r0, r1, r2, r3⟩ := h3.res.cells
      have rf := h3.res.free
      have HX := Lib.hid h3; clear h3
      simp only [zeroE, It.kind, It.n, It.s, It.l, It.opn, Int.cast_ofNat_Int] at c0 c1 c2 c3 c4 r0 r1 r2 r3
      cases bt with
      | false =>
        have hr : r = zeroE := by
          rcases HR.out with ⟨h, h', -⟩ | ⟨-, h, -⟩ | ⟨-, -, h⟩
          · first | (exact absurd h' HNZ.out) | (cases h)
          · cases h
          · exact h
        subst hr
        clear HR
        go_wp2
        generalize hF : ((((X.setCell ⟨w.heap.size + 1, 0, none⟩ (.int .i64 0)).setCell ⟨w.heap.size + 1, 1, none⟩ (.string ⟨#[]⟩)).setCell ⟨w.heap.size + 1, 2, none⟩ (.int .u64 0)).setCell ⟨w.heap.size + 1, 3, none⟩ (.int .u64 0)) = F
        have hfin := HX.out.fin (f := zeroE) F hF
        obtain ⟨f0, f1, f2, f3⟩ := hfin.res.cells
        clear hF
        exact bodyPost_ret (v := eV (zeroE)) (by simp [results, Tryd.results34, go_sem, f0, f1, f2, f3, eV, noneE, noneB, zeroE]) rfl ⟨rfl, hfin.below⟩
      | true =>
        by_cases hs : s = noneB
        · have hr : r = zeroE := by
            rcases HR.out with ⟨h, h', -⟩ | ⟨-, -, h, -⟩ | ⟨-, -, h⟩
            · first | (exact absurd h' HNZ.out) | (cases h)
            · exact absurd hs h
            · exact h
          subst hr
          have q1 := noneB_test' s
          rw [decide_eq_true hs] at q1
          have q2 : (s.toList != ([110, 111, 110, 101] : List UInt8)) = false := q1
          have q3 := noneB_test s
          rw [decide_eq_true hs] at q3
          clear HR q1 hs
          go_wp2
          generalize hF : ((((X.setCell ⟨w.heap.size + 1, 0, none⟩ (.int .i64 0)).setCell ⟨w.heap.size + 1, 1, none⟩ (.string ⟨#[]⟩)).setCell ⟨w.heap.size + 1, 2, none⟩ (.int .u64 0)).setCell ⟨w.heap.size + 1, 3, none⟩ (.int .u64 0)) = F
          have hfin := HX.out.fin (f := zeroE) F hF
          obtain ⟨f0, f1, f2, f3⟩ := hfin.res.cells
          clear hF
          exact bodyPost_ret (v := eV (zeroE)) (by simp [results, Tryd.results34, go_sem, f0, f1, f2, f3, eV, noneE, noneB, zeroE]) rfl ⟨rfl, hfin.below⟩
        · have hr : r = ⟨1, s, 0, 0⟩ := by
            rcases HR.out with ⟨h, h', -⟩ | ⟨-, -, -, h⟩ | ⟨-, h | h, -⟩
            · first | (exact absurd h' HNZ.out) | (cases h)
            · exact h
            · cases h
            · exact absurd h hs
          subst hr
          have q1 := noneB_test' s
          rw [decide_eq_false hs] at q1
          have q2 : (s.toList != ([110, 111, 110, 101] : List UInt8)) = true := q1
          have q3 := noneB_test s
          rw [decide_eq_false hs] at q3
          clear HR q1 hs
          go_wp2
          generalize hF : ((((X.setCell ⟨w.heap.size + 1, 0, none⟩ (.int .i64 1)).setCell ⟨w.heap.size + 1, 1, none⟩ (.string s)).setCell ⟨w.heap.size + 1, 2, none⟩ (.int .u64 0)).setCell ⟨w.heap.size + 1, 3, none⟩ (.int .u64 0)) = F
          have hfin := HX.out.fin (f := ⟨1, s, 0, 0⟩) F hF
          obtain ⟨f0, f1, f2, f3⟩ := hfin.res.cells
          clear hF
          exact bodyPost_ret (v := eV (⟨1, s, 0, 0⟩)) (by simp [results, Tryd.results34, go_sem, f0, f1, f2, f3, eV, noneE, noneB, zeroE]) rfl ⟨rfl, hfin.below⟩
    | false =>
      have HNZ := Lib.hid trivial
      clear hbn
      go_wp2_with fail
      refine (HT.out _ HX.out).mono ?_
      rintro _ X ⟨rfl, hb⟩
      have h3 := HX.out.next hb
      clear hb c0 c1 c2 c3 c4 r0 r1 r2 r3 rf HX
      obtain ⟨c0, c1, c2, c3, c4⟩ := h3.cells
      obtain ⟨r0, r1, r2, r3⟩ := h3.res.cells
      have rf := h3.res.free
      have HX := Lib.hid h3; clear h3
      simp only [zeroE, It.kind, It.n, It.s, It.l, It.opn, Int.cast_ofNat_Int] at c0 c1 c2 c3 c4 r0 r1 r2 r3
      cases bt with
      | false =>
        have hr : r = zeroE := by
          rcases HR.out with ⟨h, h', -⟩ | ⟨-, h, -⟩ | ⟨-, -, h⟩
          · first | (exact absurd h' HNZ.out) | (cases h)
          · cases h
          · exact h
        subst hr
        clear HR
        go_wp2
        generalize hF : ((((X.setCell ⟨w.heap.size + 1, 0, none⟩ (.int .i64 0)).setCell ⟨w.heap.size + 1, 1, none⟩ (.string ⟨#[]⟩)).setCell ⟨w.heap.size + 1, 2, none⟩ (.int .u64 0)).setCell ⟨w.heap.size + 1, 3, none⟩ (.int .u64 0)) = F
        have hfin := HX.out.fin (f := zeroE) F hF
        obtain ⟨f0, f1, f2, f3⟩ := hfin.res.cells
        clear hF
        exact bodyPost_ret (v := eV (zeroE)) (by simp [results, Tryd.results34, go_sem, f0, f1, f2, f3, eV, noneE, noneB, zeroE]) rfl ⟨rfl, hfin.below⟩
      | true =>
        by_cases hs : s = noneB
        · have hr : r = zeroE := by
            rcases HR.out with ⟨h, h', -⟩ | ⟨-, -, h, -⟩ | ⟨-, -, h⟩
            · first | (exact absurd h' HNZ.out) | (cases h)
            · exact absurd hs h
            · exact h
          subst hr
          have q1 := noneB_test' s
          rw [decide_eq_true hs] at q1
          have q2 : (s.toList != ([110, 111, 110, 101] : List UInt8)) = false := q1
          have q3 := noneB_test s
          rw [decide_eq_true hs] at q3
          clear HR q1 hs
          go_wp2
          generalize hF : ((((X.setCell ⟨w.heap.size + 1, 0, none⟩ (.int .i64 0)).setCell ⟨w.heap.size + 1, 1, none⟩ (.string ⟨#[]⟩)).setCell ⟨w.heap.size + 1, 2, none⟩ (.int .u64 0)).setCell ⟨w.heap.size + 1, 3, none⟩ (.int .u64 0)) = F
          have hfin := HX.out.fin (f := zeroE) F hF
          obtain ⟨f0, f1, f2, f3⟩ := hfin.res.cells
          clear hF
          exact bodyPost_ret (v := eV (zeroE)) (by simp [results, Tryd.results34, go_sem, f0, f1, f2, f3, eV, noneE, noneB, zeroE]) rfl ⟨rfl, hfin.below⟩
        · have hr : r = ⟨1, s, 0, 0⟩ := by
            rcases HR.out with ⟨h, h', -⟩ | ⟨-, -, -, h⟩ | ⟨-, h | h, -⟩
            · first | (exact absurd h' HNZ.out) | (cases h)
            · exact h
            · cases h
            · exact absurd h hs
          subst hr
          have q1 := noneB_test' s
          rw [decide_eq_false hs] at q1
          have q2 : (s.toList != ([110, 111, 110, 101] : List UInt8)) = true := q1
          have q3 := noneB_test s
          rw [decide_eq_false hs] at q3
          clear HR q1 hs
          go_wp2
          generalize hF : ((((X.setCell ⟨w.heap.size + 1, 0, none⟩ (.int .i64 1)).setCell ⟨w.heap.size + 1, 1, none⟩ (.string s)).setCell ⟨w.heap.size + 1, 2, none⟩ (.int .u64 0)).setCell ⟨w.heap.size + 1, 3, none⟩ (.int .u64 0)) = F
          have hfin := HX.out.fin (f := ⟨1, s, 0, 0⟩) F hF
          obtain ⟨f0, f1, f2, f3⟩ := hfin.res.cells
          clear hF
          exact bodyPost_ret (v := eV (⟨1, s, 0, 0⟩)) (by simp [results, Tryd.results34, go_sem, f0, f1, f2, f3, eV, noneE, noneB, zeroE]) rfl ⟨rfl, hfin.below⟩

/-- eid.dtnOf. -/
theorem dtn_any (y : It) (w : World) (B : Nat) (v : Value) (hB : B ≤ w.heap.size) (hy : Lies w B y v) : ∃ r, DtnR y r ∧ Calls Tryd.prog 34 #[v] w fun e w' => e = .returned (eV r) ∧ Below w.heap.size w w' := by
  have hk : ∀ W sl r, IBox w y sl r W → Lies W B y v := fun W sl r h => hy.keep (h.below.mono hB)
  have hle : ∀ W sl r, IBox w y sl r W → B ≤ W.heap.size := fun W sl r h => Nat.le_trans hB h.below.size
  obtain ⟨A, cap, rfl, hf, -⟩ := hy.out
  have cn : ∀ b : Bool, (b = true ↔ isNumI y) → ∀ W, IBox w y (.slice A y.l.length cap) zeroE W → Calls Tryd.prog 33 #[itV y (.slice A y.l.length cap)] W fun e w' => e = .returned (.bool b) ∧ Below W.heap.size W w' := fun b hb W h => isNumber_any y b hb W B _ (hle _ _ _ h) (hk _ _ _ h)
  have ct : ∀ b : Bool, (b = true ↔ isTextI y) → ∀ W, IBox w y (.slice A y.l.length cap) zeroE W → Calls Tryd.prog 43 #[itV y (.slice A y.l.length cap)] W fun e w' => e = .returned (.bool b) ∧ Below W.heap.size W w' := fun b hb W h => isText_any y b hb W B _ (hle _ _ _ h) (hk _ _ _ h)
  clear hk hle hy hf
  obtain ⟨bn, hbn⟩ : ∃ b : Bool, b = true ↔ isNumI y := by
    by_cases h : isNumI y
    · exact ⟨true, fun _ => h, fun _ => rfl⟩
    · exact ⟨false, fun h => (by cases h), fun k => absurd k h⟩
  obtain ⟨bt, hbt⟩ : ∃ b : Bool, b = true ↔ isTextI y := by
    by_cases h : isTextI y
    · exact ⟨true, fun _ => h, fun _ => rfl⟩
    · exact ⟨false, fun h => (by cases h), fun k => absurd k h⟩
  have HN := Lib.hid (cn bn hbn)
  have HT := Lib.hid (ct bt hbt)
  have hnt : isNumI y → isTextI y → False := fun h1 h2 => by
    unfold isNumI at h1; unfold isTextI at h2
    have h3 : y.kind = 0 := by rw [h1]; rfl
    have h4 : y.kind = 3 := by rw [h2]; rfl
    omega
  obtain ⟨k, n, s, l, o⟩ := y
  by_cases h1 : bn = true ∧ n = 0
  · exact ⟨_, .inl ⟨hbn.1 h1.1, h1.2, rfl⟩, dtn_by k n s _ l o bn bt w HN HT _ (.inl ⟨h1.1, h1.2, rfl⟩)⟩
  · have h1' : bn = false ∨ n ≠ 0 := by
      cases bn with
      | false => exact .inl rfl
      | true => exact .inr fun h => h1 ⟨rfl, h⟩
    by_cases h2 : bt = true ∧ s ≠ noneB
    · exact ⟨_, .inr (.inl ⟨hbt.1 h2.1, h2.2, rfl⟩), dtn_by k n s _ l o bn bt w HN HT _ (.inr (.inl ⟨h1', h2.1, h2.2, rfl⟩))⟩
    · have h2' : bt = false ∨ s = noneB := by
        cases bt with
        | false => exact .inl rfl
        | true => exact .inr (Classical.byContradiction fun h => h2 ⟨rfl, h⟩)
      exact ⟨_, .inr (.inr ⟨fun h => h1 ⟨hbn.2 h.1, h.2⟩, fun h => h2 ⟨hbt.2 h.1, h.2⟩, rfl⟩), dtn_by k n s _ l o bn bt w HN HT _ (.inr (.inr ⟨h1', h2', rfl⟩))⟩
end Eid
end Go.Proofs.YtmbmhblogjkflaaDoor
