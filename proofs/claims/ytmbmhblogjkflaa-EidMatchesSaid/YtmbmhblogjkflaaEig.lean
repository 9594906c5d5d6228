/-
  Contract of dromondref10.Node at a right name. Conditions: names are of at most 2^40 bytes.
-/
import Derived.Test.YtmbmhblogjkflaaEif
namespace Go.Proofs.Ytmbmhblogjkflaa
namespace Eid
open Go.ChangeShapes Go.WideShapes Go.ChangeAt Go.RowKit
set_option linter.unusedVariables false
set_option maxRecDepth 100000

theorem slash_svc {l : List Nat} (h : ∃ a b, Full l a b) : slashOf l + 1 = svc l := by
  obtain ⟨a, b, hf⟩ := h
  rw [svc_full hf, (full_slash hf).2.1]; omega

set_option maxHeartbeats 8000000 in
theorem rnode_two (nm : ByteArray) (nd sv : Nat) (w : World) : Calls Try.prog 13 #[eV ⟨2, nm, nd, sv⟩] w fun r w' => r = .returned (eV ⟨2, nm, nd, 0⟩) ∧ Below w.heap.size w w' := by
  simp only [eV, Int.cast_ofNat_Int]
  obtain ⟨hy, hz, hbl⟩ := EB.box2 w ⟨2, nm, nd, sv⟩ zeroE (Below.refl _ _)
  generalize hW : (w.alloc (.cells (eCells ⟨2, nm, nd, sv⟩) 29 (0, 0))).alloc (.cells (eCells zeroE) 29 (0, 0)) = w1 at hy hz hbl
  obtain ⟨y0, y1, y2, y3⟩ := hy.cells
  have yf := hy.free
  have hy2 := hy.set3 0
  have hz2 := hz.other (c := w.heap.size) (by omega) 3 (.int .u64 ((0 : Nat) : Int))
  have hbl2 := hbl.setCell (p := ⟨w.heap.size, 3, none⟩) (Nat.le_refl _) (.int .u64 ((0 : Nat) : Int))
  obtain ⟨x0, x1, x2, x3⟩ := hy2.cells
  obtain ⟨r0, r1, r2, r3⟩ := hz2.cells
  have rf := hz2.free
  have HX := Lib.hid (And.intro hy2 (And.intro hz2 hbl2)); clear hz hbl hy hy2 hz2 hbl2
  simp only [zeroE, eCells, Int.cast_ofNat_Int] at r0 r1 r2 r3 x0 x1 x2 x3 rf HX hW
  go_enter Try.func13, Try.ntmps13
  go_upto_region 1 with fail
  clear hW
  go_wp2
  generalize hF : ((((((w1.setCell ⟨w.heap.size, 3, none⟩ (.int .u64 0)).setCell ⟨w.heap.size + 1, 0, none⟩ (.int .i64 2)).setCell ⟨w.heap.size + 1, 1, none⟩ (.string nm)).setCell ⟨w.heap.size + 1, 2, none⟩ (.int .u64 (nd : Nat))).setCell ⟨w.heap.size + 1, 3, none⟩ (.int .u64 0))) = F
  obtain ⟨h1, h2⟩ := pnode_end (e := ⟨2, nm, nd, 0⟩) HX.out.1 HX.out.2.1 HX.out.2.2 F hF
  obtain ⟨f0, f1, f2, f3⟩ := h1.cells
  clear hF
  exact bodyPost_ret (v := eV ⟨2, nm, nd, 0⟩) (by simp [results, Try.results13, go_sem, f0, f1, f2, f3, eV]) rfl ⟨rfl, h2⟩

set_option maxHeartbeats 8000000 in
theorem rnode_none (w : World) : Calls Try.prog 13 #[eV noneE] w fun r w' => r = .returned (eV noneE) ∧ Below w.heap.size w w' := by
  obtain ⟨hy, hz, hbl⟩ := EB.box2 w noneE zeroE (Below.refl _ _)
  generalize hW : (w.alloc (.cells (eCells noneE) 29 (0, 0))).alloc (.cells (eCells zeroE) 29 (0, 0)) = w1 at hy hz hbl
  simp only [eV, noneE, noneB, Int.cast_ofNat_Int]
  obtain ⟨y0, y1, y2, y3⟩ := hy.cells
  have yf := hy.free
  have hy2 := hy.set3 0
  have hz2 := hz.other (c := w.heap.size) (by omega) 3 (.int .u64 ((0 : Nat) : Int))
  have hbl2 := hbl.setCell (p := ⟨w.heap.size, 3, none⟩) (Nat.le_refl _) (.int .u64 ((0 : Nat) : Int))
  obtain ⟨x0, x1, x2, x3⟩ := hy2.cells
  obtain ⟨r0, r1, r2, r3⟩ := hz2.cells
  have rf := hz2.free
  have HX := Lib.hid (And.intro hy2 (And.intro hz2 hbl2)); clear hz hbl hy hy2 hz2 hbl2
  simp only [zeroE, noneE, noneB, eCells, Int.cast_ofNat_Int] at y0 y1 y2 y3 r0 r1 r2 r3 x0 x1 x2 x3 rf HX hW
  go_enter Try.func13, Try.ntmps13
  go_upto_region 1 with fail
  clear hW
  go_wp2
  generalize hF : ((((((w1.setCell ⟨w.heap.size, 3, none⟩ (.int .u64 0)).setCell ⟨w.heap.size + 1, 0, none⟩ (.int .i64 1)).setCell ⟨w.heap.size + 1, 1, none⟩ (.string ⟨#[110, 111, 110, 101]⟩)).setCell ⟨w.heap.size + 1, 2, none⟩ (.int .u64 0)).setCell ⟨w.heap.size + 1, 3, none⟩ (.int .u64 0))) = F
  obtain ⟨h1, h2⟩ := pnode_end (e := noneE) HX.out.1 HX.out.2.1 HX.out.2.2 F hF
  obtain ⟨f0, f1, f2, f3⟩ := h1.cells
  clear hF
  exact bodyPost_ret (v := eV noneE) (by simp [results, Try.results13, go_sem, f0, f1, f2, f3, eV, noneE, noneB]) rfl ⟨rfl, h2⟩

set_option maxHeartbeats 8000000 in
theorem rnode_full (nm : ByteArray) (h : ∃ a b, Full (nb nm) a b) (hn : nm ≠ noneB) (hs : nm.size ≤ 1099511627776) (w : World) : Calls Try.prog 13 #[eV ⟨1, nm, 0, 0⟩] w fun r w' => r = .returned (eV ⟨1, nm.extract 0 (svc (nb nm)), 0, 0⟩) ∧ Below w.heap.size w w' := by
  have HS := Lib.hid (fun w => rslash nm (by omega) w)
  have hk := svc_le (nb nm)
  rw [nb_length, ← slash_svc h] at hk
  rw [← slash_svc h]
  obtain ⟨k, hkk⟩ : ∃ k, k = slashOf (nb nm) := ⟨_, rfl⟩
  rw [← hkk] at HS hk ⊢
  clear hkk
  have ht := noneB_test nm
  rw [decide_eq_false hn] at ht
  have ht' : (nm.toList != ([110, 111, 110, 101] : List UInt8)) = true := by rw [noneB_test', decide_eq_false hn]; rfl
  clear h hn
  have hwr : IntKind.i64.wrap ((k : Int) + 1) = ((k + 1 : Nat) : Int) := by rw [IntKind.wrap_i64]; omega
  obtain ⟨j, hj⟩ : ∃ j, j = k + 1 := ⟨_, rfl⟩
  rw [← hj] at hwr hk ⊢
  have hkI : (j : Int) ≤ (nm.size : Int) := by omega
  have hk0 : (0 : Int) ≤ (j : Int) := by omega
  have HSZ := Lib.hid (And.intro hs hj); clear hs hk hj
  obtain ⟨hy, hz, hbl⟩ := EB.box2 w ⟨1, nm, 0, 0⟩ zeroE (Below.refl _ _)
  generalize hW : (w.alloc (.cells (eCells ⟨1, nm, 0, 0⟩) 29 (0, 0))).alloc (.cells (eCells zeroE) 29 (0, 0)) = w1 at hy hz hbl
  simp only [eV, Int.cast_ofNat_Int]
  obtain ⟨y0, y1, y2, y3⟩ := hy.cells
  have yf := hy.free
  have hy2 := hy.set3 0
  have hz2 := hz.other (c := w.heap.size) (by omega) 3 (.int .u64 ((0 : Nat) : Int))
  have hbl2 := hbl.setCell (p := ⟨w.heap.size, 3, none⟩) (Nat.le_refl _) (.int .u64 ((0 : Nat) : Int))
  have hfr : w1.frozen? ⟨w.heap.size, 3, none⟩ = false := yf 3
  obtain ⟨w2, hw2⟩ : ∃ X, w1.setCell ⟨w.heap.size, 3, none⟩ (.int .u64 0) = X := ⟨_, rfl⟩
  simp only [Int.cast_ofNat_Int] at hy2 hz2 hbl2
  rw [hw2] at hy2 hz2 hbl2
  obtain ⟨x0, x1, x2, x3⟩ := hy2.cells
  have hlt := hz2.lt
  have hlt0 := hy2.lt
  have hkp : ∀ X, Below w2.heap.size w2 X → X.cell? ⟨w.heap.size, 1, none⟩ = some (.string nm) := fun X hX => (hX.cell (p := ⟨w.heap.size, 1, none⟩) hlt0).trans x1
  have hkf : ∀ X, Below w2.heap.size w2 X → X.frozen? ⟨w.heap.size, 1, none⟩ = false := fun X hX => (hy2.below hX hlt0).free 1
  have HX := Lib.hid (And.intro hy2 (And.intro hz2 hbl2)); clear hz hbl hy hy2 hz2 hbl2
  have HKP := Lib.hid hkp; clear hkp
  have HKF := Lib.hid hkf; clear hkf
  simp only [zeroE, eCells, Int.cast_ofNat_Int] at y0 y1 y2 y3 x0 x1 x2 x3 hW
  go_enter Try.func13, Try.ntmps13
  go_upto_region 1 with fail
  clear hW
  go_upto_region 2 with fail
  clear hw2 y0 y1 y2 y3 yf hfr
  go_upto_region 3 with fail
  have hd0 : Below w2.heap.size w2 w2.drew := (Below.refl _ _).drew
  have hc0 := HKP.out _ hd0
  have hd1 : Below w2.heap.size w2 w2 := Below.refl _ _
  go_region_with (go_at_call 28; with_reducible refine (HS.out _).mono ?_; rintro e w' ⟨rfl, he⟩; have hw : Below w2.heap.size w2 w' := he ▸ hd0; clear he; have hf := HKF.out _ hw; have hc := HKP.out _ hw)
  all_goals
    obtain ⟨E0, E1, E2⟩ := pnode_set HX.out.1 HX.out.2.1 HX.out.2.2 hw (nm.extract 0 j)
    obtain ⟨x0, x1, x2, x3⟩ := E0.cells
    obtain ⟨r0, r1, r2, r3⟩ := E1.cells
    have rf := E1.free
    have HE := Lib.hid (And.intro E0 (And.intro E1 E2)); clear E0 E1 E2
    simp only [zeroE, Int.cast_ofNat_Int] at x0 x1 x2 x3 r0 r1 r2 r3
    generalize w'.setCell ⟨w.heap.size, 1, none⟩ (.string (nm.extract 0 j)) = X at *
    go_wp2
    generalize hF : ((((X.setCell ⟨w.heap.size + 1, 0, none⟩ (.int .i64 1)).setCell ⟨w.heap.size + 1, 1, none⟩ (.string (nm.extract 0 j))).setCell ⟨w.heap.size + 1, 2, none⟩ (.int .u64 0)).setCell ⟨w.heap.size + 1, 3, none⟩ (.int .u64 0)) = F
    obtain ⟨h1, h2⟩ := pnode_end (e := ⟨1, nm.extract 0 j, 0, 0⟩) HE.out.1 HE.out.2.1 HE.out.2.2 F hF
    obtain ⟨f0, f1, f2, f3⟩ := h1.cells
    clear hF
    exact bodyPost_ret (v := eV ⟨1, nm.extract 0 j, 0, 0⟩) (by simp [results, Try.results13, go_sem, f0, f1, f2, f3, eV]) rfl ⟨rfl, h2⟩

/-- The reference's Node. -/
theorem rnode (e : Nm) (h : Right e) (hs : e.name.size ≤ 1099511627776) (w : World) : Calls Try.prog 13 #[eV e] w fun r w' => r = .returned (eV (nodeE e)) ∧ Below w.heap.size w w' := by
  obtain ⟨s, nm, nd, sv⟩ := e
  rcases h with ⟨h1, h2, h3, h4⟩ | ⟨h1, h2, h3, h4, h5⟩
  · obtain rfl : s = 2 := h1
    exact rnode_two nm nd sv w
  · obtain rfl : s = 1 := h1
    obtain rfl : nd = 0 := h2
    obtain rfl : sv = 0 := h3
    by_cases hn : nm = noneB
    · subst hn
      have e : nodeE ⟨1, noneB, 0, 0⟩ = noneE := by unfold nodeE; rw [if_neg (by decide), if_pos rfl]; rfl
      rw [e]
      exact rnode_none w
    · have e : nodeE ⟨1, nm, 0, 0⟩ = ⟨1, nm.extract 0 (svc (nb nm)), 0, 0⟩ := by unfold nodeE; rw [if_neg (show ¬ (1 : Int) = 2 by decide), if_neg hn]
      rw [e]
      have hf : ∃ a b, Full (nb nm) a b := h5.resolve_left fun h => hn ((noneB_iff nm).1 h)
      exact rnode_full nm hf hn hs w
end Eid
end Go.Proofs.Ytmbmhblogjkflaa
