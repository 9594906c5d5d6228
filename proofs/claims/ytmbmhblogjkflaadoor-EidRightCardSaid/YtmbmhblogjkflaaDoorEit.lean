/-
  Contract of eid.ipnOf. Conditions: the item lies in memory.
-/
import Derived.Test.YtmbmhblogjkflaaDoorEis
namespace Go.Proofs.YtmbmhblogjkflaaDoor
namespace Eid
open Go.ChangeShapes Go.WideShapes Go.ChangeAt Go.RowKit
set_option linter.unusedVariables false
set_option linter.unusedSimpArgs false
set_option maxRecDepth 100000

/-- What ipnOf makes of an item. -/
def IpnR (y : It) (r : Nm) : Prop := (∃ a b, y = pairI (numI a) (numI b) ∧ r = ⟨2, ⟨#[]⟩, a, b⟩) ∨ ((¬ ∃ a b, y = pairI (numI a) (numI b)) ∧ r = zeroE)

set_option maxHeartbeats 16000000 in
theorem ipn_not (y : It) (h : ¬ isPairI y) (A : Option Addr) (cap : Nat) (w : World) : Calls Tryd.prog 35 #[itV y (.slice A y.l.length cap)] w fun e w' => e = .returned (eV zeroE) ∧ Below w.heap.size w w' := by
  have HP := Lib.hid (fun W => isPair_any y false ⟨fun h => (by cases h), fun k => absurd k h⟩ A cap W)
  clear h
  have h0 := IBox.new w y (.slice A y.l.length cap) zeroE
  generalize hW : (w.alloc (boxOf y (.slice A y.l.length cap))).alloc (.cells (eCells zeroE) 24 (0, 0)) = w1 at h0
  obtain ⟨k, n, s, l, o⟩ := y
  simp only [boxOf, eCells, zeroE, Int.cast_ofNat_Int, It.kind, It.n, It.s, It.l, It.opn, itV] at hW HP ⊢
  obtain ⟨c0, c1, c2, c3, c4⟩ := h0.cells
  have HX := Lib.hid h0; clear h0
  simp only [zeroE, It.kind, It.n, It.s, It.l, It.opn, Int.cast_ofNat_Int] at c0 c1 c2 c3 c4
  generalize l.length = len at *
  go_enter Tryd.func35, Tryd.ntmps35
  go_upto_region 1 with fail
  clear hW
  go_wp2_with fail
  refine (HP.out _).mono ?_
  rintro _ X ⟨rfl, hb⟩
  have h3 := HX.out.next hb
  clear hb c0 c1 c2 c3 c4 HX
  obtain ⟨r0, r1, r2, r3⟩ := h3.res.cells
  have rf := h3.res.free
  have HX := Lib.hid h3; clear h3
  simp only [zeroE, Int.cast_ofNat_Int] at r0 r1 r2 r3
  go_wp2
  generalize hF : ((((X.setCell ⟨w.heap.size + 1, 0, none⟩ (.int .i64 0)).setCell ⟨w.heap.size + 1, 1, none⟩ (.string ⟨#[]⟩)).setCell ⟨w.heap.size + 1, 2, none⟩ (.int .u64 0)).setCell ⟨w.heap.size + 1, 3, none⟩ (.int .u64 0)) = F
  have hfin := HX.out.fin (f := zeroE) F hF
  obtain ⟨f0, f1, f2, f3⟩ := hfin.res.cells
  clear hF
  exact bodyPost_ret (v := eV zeroE) (by simp [results, Tryd.results35, go_sem, f0, f1, f2, f3, eV, zeroE]) rfl ⟨rfl, hfin.below⟩

/-- Two elements' cells. -/
structure Two (X : World) (b off : Nat) (y0 y1 : It) (s0 s1 : Value) : Prop where
  a : At5 X b off y0 s0
  b : At5 X b (off + 5) y1 s1
theorem Two.below {X Y : World} {b off B : Nat} {y0 y1 : It} {s0 s1 : Value} (h : Two X b off y0 y1 s0 s1) (hb : Below B X Y) (hB : b < B) : Two Y b off y0 y1 s0 s1 :=
  ⟨h.a.below hb hB, h.b.below hb hB⟩

set_option maxHeartbeats 32000000 in
theorem ipn_two (y0 y1 : It) (b off cap : Nat) (s0 s1 : Value) (w : World) (B : Nat) (hB : B ≤ w.heap.size) (hb : b < B) (h5 : Two w b off y0 y1 s0 s1) (bn bm : Bool)
    (HN : Hid (∀ W, Below w.heap.size w W → Calls Tryd.prog 33 #[itV y0 s0] W fun e w' => e = .returned (.bool bn) ∧ Below W.heap.size W w'))
    (HM : Hid (∀ W, Below w.heap.size w W → Calls Tryd.prog 33 #[itV y1 s1] W fun e w' => e = .returned (.bool bm) ∧ Below W.heap.size W w')) (r : Nm)
    (hr : ((bn && bm) = true ∧ r = ⟨2, ⟨#[]⟩, y0.n, y1.n⟩) ∨ ((bn && bm) = false ∧ r = zeroE)) :
    Calls Tryd.prog 35 #[itV (pairI y0 y1) (.slice (some ⟨b, off, none⟩) 2 cap)] w fun e w' => e = .returned (eV r) ∧ Below w.heap.size w w' := by
  have HP := Lib.hid (fun W => isPair_any (pairI y0 y1) true ⟨fun _ => pair_is y0 y1, fun _ => rfl⟩ (some ⟨b, off, none⟩) cap W)
  have h0 := IBox.new w (pairI y0 y1) (.slice (some ⟨b, off, none⟩) 2 cap) zeroE
  generalize hW : (w.alloc (boxOf (pairI y0 y1) (.slice (some ⟨b, off, none⟩) 2 cap))).alloc (.cells (eCells zeroE) 24 (0, 0)) = w1 at h0
  have hkeep : ∀ W, Below w.heap.size w W → Two W b off y0 y1 s0 s1 := fun W h => h5.below h (by omega)
  have HK := Lib.hid hkeep; clear hkeep h5
  have HBB := Lib.hid (And.intro hB hb); clear hB hb
  obtain ⟨k0, n0, t0, l0, o0⟩ := y0
  obtain ⟨k1, n1, t1, l1, o1⟩ := y1
  simp only [boxOf, eCells, zeroE, Int.cast_ofNat_Int, It.kind, It.n, It.s, It.l, It.opn, itV, pairI, List.length_cons, List.length_nil] at hW HP HN HM hr ⊢
  obtain ⟨c0, c1, c2, c3, c4⟩ := h0.cells
  have HX := Lib.hid h0; clear h0
  simp only [zeroE, It.kind, It.n, It.s, It.l, It.opn, pairI, Int.cast_ofNat_Int] at c0 c1 c2 c3 c4
  have HR := Lib.hid hr; clear hr
  go_enter Tryd.func35, Tryd.ntmps35
  go_upto_region 1 with fail
  clear hW
  go_wp2_with fail
  refine (HP.out _).mono ?_
  rintro _ X ⟨rfl, hb⟩
  have h3 := HX.out.next hb
  clear hb c0 c1 c2 c3 c4 HX
  obtain ⟨c0, c1, c2, c3, c4⟩ := h3.cells
  have h5 := HK.out _ h3.below
  have a0 := h5.a.c0
  have a1 := h5.a.c1
  have a2 := h5.a.c2
  have a3 := h5.a.c3
  have a4 := h5.a.c4
  have HX := Lib.hid h3; clear h3 h5
  simp only [It.kind, It.n, It.s, It.l, It.opn, pairI] at c0 c1 c2 c3 c4 a0 a1 a2 a3 a4
  go_wp2_with fail
  refine (HN.out _ HX.out.below).mono ?_
  rintro _ X2 ⟨rfl, hb⟩
  have h3 := HX.out.next hb
  clear hb c0 c1 c2 c3 c4 a0 a1 a2 a3 a4 HX
  obtain ⟨c0, c1, c2, c3, c4⟩ := h3.cells
  obtain ⟨r0, r1, r2, r3⟩ := h3.res.cells
  have rf := h3.res.free
  have h5 := HK.out _ h3.below
  have a0 := h5.a.c0
  have a1 := h5.a.c1
  have a2 := h5.a.c2
  have a3 := h5.a.c3
  have a4 := h5.a.c4
  have b0 := h5.b.c0
  have b1 := h5.b.c1
  have b2 := h5.b.c2
  have b3 := h5.b.c3
  have b4 := h5.b.c4
  have HX := Lib.hid h3; clear h3 h5
  simp only [zeroE, It.kind, It.n, It.s, It.l, It.opn, pairI, Int.cast_ofNat_Int] at c0 c1 c2 c3 c4 a0 a1 a2 a3 a4 b0 b1 b2 b3 b4 r0 r1 r2 r3
  cases bn with
  | false =>
    have hr : r = zeroE := by
      rcases HR.out with ⟨h, -⟩ | ⟨-, h⟩
      · simp at h
      · exact h
    subst hr
    clear HR
    go_wp2
    generalize hF : ((((X2.setCell ⟨w.heap.size + 1, 0, none⟩ (.int .i64 0)).setCell ⟨w.heap.size + 1, 1, none⟩ (.string ⟨#[]⟩)).setCell ⟨w.heap.size + 1, 2, none⟩ (.int .u64 0)).setCell ⟨w.heap.size + 1, 3, none⟩ (.int .u64 0)) = F
    have hfin := HX.out.fin (f := zeroE) F hF
    obtain ⟨f0, f1, f2, f3⟩ := hfin.res.cells
    clear hF
    exact bodyPost_ret (v := eV (zeroE)) (by simp [results, Tryd.results35, go_sem, f0, f1, f2, f3, eV, zeroE]) rfl ⟨rfl, hfin.below⟩
  | true =>
    go_wp2_with fail
    refine (HM.out _ HX.out.below).mono ?_
    rintro _ X3 ⟨rfl, hb⟩
    have h3 := HX.out.next hb
    clear hb c0 c1 c2 c3 c4 a0 a1 a2 a3 a4 b0 b1 b2 b3 b4 r0 r1 r2 r3 rf HX
    obtain ⟨c0, c1, c2, c3, c4⟩ := h3.cells
    obtain ⟨r0, r1, r2, r3⟩ := h3.res.cells
    have rf := h3.res.free
    have h5 := HK.out _ h3.below
    have a0 := h5.a.c0
    have a1 := h5.a.c1
    have a2 := h5.a.c2
    have a3 := h5.a.c3
    have a4 := h5.a.c4
    have b0 := h5.b.c0
    have b1 := h5.b.c1
    have b2 := h5.b.c2
    have b3 := h5.b.c3
    have b4 := h5.b.c4
    have HX := Lib.hid h3; clear h3 h5
    simp only [zeroE, It.kind, It.n, It.s, It.l, It.opn, pairI, Int.cast_ofNat_Int] at c0 c1 c2 c3 c4 a0 a1 a2 a3 a4 b0 b1 b2 b3 b4 r0 r1 r2 r3
    cases bm with
    | false =>
      have hr : r = zeroE := by
        rcases HR.out with ⟨h, -⟩ | ⟨-, h⟩
        · simp at h
        · exact h
      subst hr
      clear HR
      go_wp2
      generalize hF : ((((X3.setCell ⟨w.heap.size + 1, 0, none⟩ (.int .i64 0)).setCell ⟨w.heap.size + 1, 1, none⟩ (.string ⟨#[]⟩)).setCell ⟨w.heap.size + 1, 2, none⟩ (.int .u64 0)).setCell ⟨w.heap.size + 1, 3, none⟩ (.int .u64 0)) = F
      have hfin := HX.out.fin (f := zeroE) F hF
      obtain ⟨f0, f1, f2, f3⟩ := hfin.res.cells
      clear hF
      exact bodyPost_ret (v := eV (zeroE)) (by simp [results, Tryd.results35, go_sem, f0, f1, f2, f3, eV, zeroE]) rfl ⟨rfl, hfin.below⟩
    | true =>
      have hr : r = ⟨2, ⟨#[]⟩, n0, n1⟩ := by
        rcases HR.out with ⟨-, h⟩ | ⟨h, -⟩
        · exact h
        · simp at h
      subst hr
      clear HR
      go_upto_region 3 with fail
      go_region
      all_goals
        go_wp2
        generalize hF : ((((X3.setCell ⟨w.heap.size + 1, 0, none⟩ (.int .i64 2)).setCell ⟨w.heap.size + 1, 1, none⟩ (.string ⟨#[]⟩)).setCell ⟨w.heap.size + 1, 2, none⟩ (.int .u64 (n0 : Nat))).setCell ⟨w.heap.size + 1, 3, none⟩ (.int .u64 (n1 : Nat))) = F
        have hfin := HX.out.fin (f := ⟨2, ⟨#[]⟩, n0, n1⟩) F hF
        obtain ⟨f0, f1, f2, f3⟩ := hfin.res.cells
        clear hF
        exact bodyPost_ret (v := eV (⟨2, ⟨#[]⟩, n0, n1⟩)) (by simp [results, Tryd.results35, go_sem, f0, f1, f2, f3, eV, zeroE]) rfl ⟨rfl, hfin.below.drew⟩

/-- eid.ipnOf. -/
theorem ipn_any (y : It) (w : World) (B : Nat) (v : Value) (hB : B ≤ w.heap.size) (hy : Lies w B y v) : ∃ r, IpnR y r ∧ Calls Tryd.prog 35 #[v] w fun e w' => e = .returned (eV r) ∧ Below w.heap.size w w' := by
  obtain ⟨A, cap, rfl, hf, he⟩ := hy.out
  by_cases hp : isPairI y
  · obtain ⟨y0, y1, rfl⟩ := isPair_of hp
    obtain ⟨b, off, s0, rfl, hb, h0, l0⟩ := he 0 y0 rfl
    obtain ⟨b', off', s1, e1, hb', h1, l1⟩ := he 1 y1 rfl
    simp only [Option.some.injEq, Addr.mk.injEq, and_true] at e1
    obtain ⟨rfl, rfl⟩ := e1
    simp only [Nat.zero_mul, Nat.add_zero, Nat.one_mul] at h0 h1
    have cn : ∀ (x : It) (sl : Value), Lies w B x (itV x sl) → ∀ c : Bool, (c = true ↔ isNumI x) → ∀ W, Below w.heap.size w W → Calls Tryd.prog 33 #[itV x sl] W fun e w' => e = .returned (.bool c) ∧ Below W.heap.size W w' := fun x sl hl c hc W hW => isNumber_any x c hc W B _ (Nat.le_trans hB hW.size) (hl.keep (hW.mono hB))
    obtain ⟨bn, hbn⟩ : ∃ c : Bool, c = true ↔ isNumI y0 := by
      by_cases h : isNumI y0
      · exact ⟨true, fun _ => h, fun _ => rfl⟩
      · exact ⟨false, fun h => (by cases h), fun k => absurd k h⟩
    obtain ⟨bm, hbm⟩ : ∃ c : Bool, c = true ↔ isNumI y1 := by
      by_cases h : isNumI y1
      · exact ⟨true, fun _ => h, fun _ => rfl⟩
      · exact ⟨false, fun h => (by cases h), fun k => absurd k h⟩
    have key := fun r hr => ipn_two y0 y1 b off cap s0 s1 w B hB hb ⟨h0, h1⟩ bn bm (Lib.hid (cn y0 s0 l0 bn hbn)) (Lib.hid (cn y1 s1 l1 bm hbm)) r hr
    by_cases hc : (bn && bm) = true
    · have hc' := hc
      rw [Bool.and_eq_true] at hc'
      have e0 := hbn.1 hc'.1
      have e1 := hbm.1 hc'.2
      unfold isNumI at e0 e1
      exact ⟨_, .inl ⟨y0.n, y1.n, by rw [← e0, ← e1], rfl⟩, key _ (.inl ⟨hc, rfl⟩)⟩
    · have hc' : (bn && bm) = false := by simpa using hc
      refine ⟨_, .inr ⟨?_, rfl⟩, key _ (.inr ⟨hc', rfl⟩)⟩
      rintro ⟨a, c, e⟩
      simp only [pairI, It.mk.injEq, List.cons.injEq, true_and, and_true] at e
      apply hc
      rw [Bool.and_eq_true]
      exact ⟨hbn.2 (by rw [e.1]; rfl), hbm.2 (by rw [e.2]; rfl)⟩
  · refine ⟨_, .inr ⟨?_, rfl⟩, ipn_not y hp A cap w⟩
    rintro ⟨a, c, e⟩
    exact hp (by rw [e]; exact pair_is _ _)
end Eid
end Go.Proofs.YtmbmhblogjkflaaDoor
