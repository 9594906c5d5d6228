/-
  Contracts of eid.sameNode and eid.Match. Conditions: names are of at most 2^40 bytes.
-/
import Derived.Test.YtmbmhblogjkflaaEig
namespace Go.Proofs.Ytmbmhblogjkflaa
namespace Eid
open Go.ChangeShapes Go.WideShapes Go.ChangeAt Go.RowKit
set_option linter.unusedVariables false
set_option maxRecDepth 100000

/-- What Node answers. -/
theorem pnode_any (e : Nm) (hs : e.name.size ≤ 1099511627776) (w : World) : ∃ (x : Nm) (k : Int), (Right e ∧ x = nodeE e ∧ k = 0 ∨ ¬ Right e ∧ x = zeroE ∧ k = 1) ∧ Calls Try.prog 11 #[eV e] w fun r w' => r = .returned (.tuple #[eV x, .int .i64 k]) ∧ Below w.heap.size w w' := by
  by_cases h : Right e
  · exact ⟨_, _, .inl ⟨h, rfl, rfl⟩, pnode e h hs w⟩
  · exact ⟨_, _, .inr ⟨h, rfl, rfl⟩, pnode_no e h hs w⟩

set_option maxHeartbeats 8000000 in
theorem same_by (a b x y : Nm) (k l : Int) (HA : Hid (∀ w, Calls Try.prog 11 #[eV a] w fun r w' => r = .returned (.tuple #[eV x, .int .i64 k]) ∧ Below w.heap.size w w'))
    (HB : Hid (∀ w, Calls Try.prog 11 #[eV b] w fun r w' => r = .returned (.tuple #[eV y, .int .i64 l]) ∧ Below w.heap.size w w')) (hk : k = 0 ∨ k = 1) (hl : l = 0) (c : Bool) (hc : c = (decide (k = 0) && decide (x = y))) (w : World) :
    Calls Try.prog 30 #[eV a, eV b] w fun r w' => r = .returned (.bool c) ∧ Below w.heap.size w w' := by
  subst hl
  obtain ⟨hy, hz, hbl⟩ := EB.box2 w a b (Below.refl _ _)
  generalize hW : (w.alloc (.cells (eCells a) 29 (0, 0))).alloc (.cells (eCells b) 29 (0, 0)) = w1 at hy hz hbl
  obtain ⟨a0, a1, a2, a3⟩ := a
  obtain ⟨b0, b1, b2, b3⟩ := b
  obtain ⟨x0, x1, x2, x3⟩ := x
  obtain ⟨y0, y1, y2, y3⟩ := y
  have HE := fun X => eql_run ⟨x0, x1, x2, x3⟩ ⟨y0, y1, y2, y3⟩ X
  obtain ⟨c0, c1, c2, c3⟩ := hy.cells
  have HX := Lib.hid (And.intro hy (And.intro hz hbl)); clear hy hz hbl
  simp only [eV, eCells] at HA HB hW HE ⊢
  go_enter Try.func30, Try.ntmps30
  go_upto_region 1 with fail
  clear hW
  go_wp2_with fail
  refine (HA.out _).mono ?_
  rintro r w2 ⟨rfl, hb2⟩
  have hy2 := HX.out.1.below hb2 HX.out.1.lt
  have hz2 := HX.out.2.1.below hb2 HX.out.2.1.lt
  have hbl2 := HX.out.2.2.trans (hb2.mono HX.out.2.2.size)
  clear c0 c1 c2 c3 hb2
  have hx3 := EB.new w2 ⟨x0, x1, x2, x3⟩
  have hz3 := hz2.alloc (.cells (eCells ⟨x0, x1, x2, x3⟩) 29 (0, 0))
  have hbl3 := hbl2.alloc hbl2.size (.cells (eCells ⟨x0, x1, x2, x3⟩) 29 (0, 0))
  generalize hF : w2.alloc (.cells (eCells ⟨x0, x1, x2, x3⟩) 29 (0, 0)) = w3 at hx3 hz3 hbl3
  simp only [eCells] at hF
  obtain ⟨d0, d1, d2, d3⟩ := hz3.cells
  have HX3 := Lib.hid (And.intro hx3 (And.intro hz3 hbl3)); clear hx3 hz3 hbl3 hy2 hz2 hbl2
  go_upto_region 2 with fail
  clear hF
  go_wp2_with fail
  refine (HB.out _).mono ?_
  rintro r w4 ⟨rfl, hb4⟩
  have hx4 := HX3.out.1.below hb4 HX3.out.1.lt
  have hbl4 := HX3.out.2.2.trans (hb4.mono HX3.out.2.2.size)
  clear d0 d1 d2 d3 hb4
  have hy5 := EB.new w4 ⟨y0, y1, y2, y3⟩
  have hx5 := hx4.alloc (.cells (eCells ⟨y0, y1, y2, y3⟩) 29 (0, 0))
  have hfin := hbl4.alloc hbl4.size (.cells (eCells ⟨y0, y1, y2, y3⟩) 29 (0, 0))
  generalize hF : w4.alloc (.cells (eCells ⟨y0, y1, y2, y3⟩) 29 (0, 0)) = w5 at hy5 hx5 hfin
  simp only [eCells] at hF
  obtain ⟨d0, d1, d2, d3⟩ := hx5.cells
  obtain ⟨e0, e1, e2, e3⟩ := hy5.cells
  have HFIN := Lib.hid hfin; clear hfin hx5 hy5 hx4 hbl4
  go_upto_region 3 with fail
  clear hF
  generalize decide ((⟨x0, x1, x2, x3⟩ : Nm) = ⟨y0, y1, y2, y3⟩) = q at HE hc
  have HC := Lib.hid hc; clear hc
  rcases hk with rfl | rfl
  · go_wp2
    go_ret
    exact ⟨by rw [HC.out]; simp [go_sem], HFIN.out⟩
  · go_wp2
    go_ret
    exact ⟨by rw [HC.out]; simp [go_sem], HFIN.out⟩

/-- sameNode at a name and a right one. -/
theorem same_any (a b : Nm) (hb : Right b) (ha : a.name.size ≤ 1099511627776) (hs : b.name.size ≤ 1099511627776) (c : Bool) (hc : c = true ↔ Right a ∧ nodeE a = nodeE b) (w : World) :
    Calls Try.prog 30 #[eV a, eV b] w fun r w' => r = .returned (.bool c) ∧ Below w.heap.size w w' := by
  by_cases h : Right a
  · refine same_by a b (nodeE a) (nodeE b) 0 0 (Lib.hid fun w => pnode a h ha w) (Lib.hid fun w => pnode b hb hs w) (.inl rfl) rfl c ?_ w
    rw [Bool.eq_iff_iff, hc]; simp [h]
  · refine same_by a b zeroE (nodeE b) 1 0 (Lib.hid fun w => pnode_no a h ha w) (Lib.hid fun w => pnode b hb hs w) (.inr rfl) rfl c ?_ w
    rw [Bool.eq_iff_iff, hc]; simp [h]

def pV (k : Int) (p : Nm) : Value := .agg #[.int .i64 k, .int .i64 p.scheme, .string p.name, .int .u64 (p.node : Nat), .int .u64 (p.service : Nat)]
/-- When a name matches. -/
def MatchE (k : Int) (p e : Nm) : Prop := Right e ∧ (k = 0 ∨ (k = 1 ∧ e = p) ∨ (k = 2 ∧ Right p ∧ nodeE p = nodeE e))

def pCells (k : Int) (p : Nm) : Array Value := #[.int .i64 k, .int .i64 p.scheme, .string p.name, .int .u64 (p.node : Nat), .int .u64 (p.service : Nat)]
theorem pcells {X : World} {b : Nat} {k : Int} {p : Nm} (h : X.heap[b]? = some (.cells (pCells k p) 40 (0, 0))) : X.cell? ⟨b, 0, none⟩ = some (.int .i64 k) ∧ X.cell? ⟨b, 1, none⟩ = some (.int .i64 p.scheme) ∧ X.cell? ⟨b, 2, none⟩ = some (.string p.name) ∧ X.cell? ⟨b, 3, none⟩ = some (.int .u64 (p.node : Nat)) ∧ X.cell? ⟨b, 4, none⟩ = some (.int .u64 (p.service : Nat)) :=
  ⟨cell_of_row X _ 0 _ _ _ h, cell_of_row X _ 1 _ _ _ h, cell_of_row X _ 2 _ _ _ h, cell_of_row X _ 3 _ _ _ h, cell_of_row X _ 4 _ _ _ h⟩

set_option maxHeartbeats 8000000 in
theorem match_any (k : Int) (p e : Nm) (hp : p.name.size ≤ 1099511627776) (hs : e.name.size ≤ 1099511627776) (c : Bool) (hc : c = true ↔ MatchE k p e) (w : World) :
    Calls Try.prog 14 #[pV k p, eV e] w fun r w' => r = .returned (.bool c) ∧ Below w.heap.size w w' := by
  obtain ⟨r, hr⟩ : ∃ r, r = decide (Right e) := ⟨_, rfl⟩
  have hr' : r = true ↔ Right e := by rw [hr]; exact decide_eq_true_iff
  have HR := Lib.hid (fun w => pright e r hr' hs w)
  obtain ⟨q, hq⟩ : ∃ q, q = decide (Right p ∧ nodeE p = nodeE e) := ⟨_, rfl⟩
  have hq' : q = true ↔ Right p ∧ nodeE p = nodeE e := by rw [hq]; exact decide_eq_true_iff
  have HM := Lib.hid (fun (h : r = true) w => same_any p e (hr'.1 h) hp hs q hq' w)
  have HE := fun X => eql_run e p X
  obtain ⟨t, ht⟩ : ∃ t, t = decide (e = p) := ⟨_, rfl⟩
  have ht' : t = true ↔ e = p := by rw [ht]; exact decide_eq_true_iff
  rw [← ht] at HE
  have hcv : c = (r && (decide (k = 0) || (decide (k = 1) && t) || (decide (k = 2) && q))) := by
    rw [Bool.eq_iff_iff, hc]
    unfold MatchE
    simp only [Bool.and_eq_true, Bool.or_eq_true, decide_eq_true_eq, hr', ht', hq', or_assoc]
  have HC := Lib.hid hcv
  clear hr hr' hq hq' ht ht' hcv hc hp hs
  have h0 : ((w.alloc (.cells (pCells k p) 40 (0, 0))).alloc (.cells (eCells e) 29 (0, 0))).heap[w.heap.size]? = some (.cells (pCells k p) 40 (0, 0)) := by
    rw [((Below.refl _ _).alloc (Nat.le_refl _) (.cells (eCells e) 29 (0, 0))).block w.heap.size (by simp)]
    exact heap_alloc_new w _
  have h1 := EB.new (w.alloc (.cells (pCells k p) 40 (0, 0))) e
  rw [World.size_alloc] at h1
  have h2 : Below w.heap.size w ((w.alloc (.cells (pCells k p) 40 (0, 0))).alloc (.cells (eCells e) 29 (0, 0))) := ((Below.refl _ _).alloc (Nat.le_refl _) _).alloc (by simp) _
  have hlt : w.heap.size + 1 < ((w.alloc (.cells (pCells k p) 40 (0, 0))).alloc (.cells (eCells e) 29 (0, 0))).heap.size := by simp
  generalize hW : (w.alloc (.cells (pCells k p) 40 (0, 0))).alloc (.cells (eCells e) 29 (0, 0)) = w1 at h0 h1 h2 hlt
  obtain ⟨e0, e1, e2, e3⟩ := e
  obtain ⟨p0, p1, p2, p3⟩ := p
  obtain ⟨c0, c1, c2, c3⟩ := h1.cells
  have HX := Lib.hid (And.intro h0 (And.intro h1 h2)); clear h0 h1 h2
  simp only [pV, eV, eCells, pCells] at HR HM hW HE c0 c1 c2 c3 ⊢
  go_enter Try.func14, Try.ntmps14
  go_upto_region 1 with fail
  clear hW
  go_wp2_with fail
  refine (HR.out _).mono ?_
  rintro _ w2 ⟨rfl, hb2⟩
  obtain ⟨a0, a1, a2, a3, a4⟩ := pcells ((hb2.block _ (by omega)).trans HX.out.1)
  obtain ⟨d0, d1, d2, d3⟩ := (HX.out.2.1.below hb2 hlt).cells
  have hbl := HX.out.2.2.trans (hb2.mono HX.out.2.2.size)
  have HBL := Lib.hid hbl; clear hbl hb2 hlt c0 c1 c2 c3
  simp only at a0 a1 a2 a3 a4 d0 d1 d2 d3
  cases r with
  | false =>
    go_wp2
    go_ret
    exact ⟨by rw [HC.out]; rfl, HBL.out⟩
  | true =>
    by_cases k0 : k = 0
    · subst k0
      go_wp2
      go_ret
      exact ⟨by rw [HC.out]; rfl, HBL.out⟩
    · have g0 : decide (k = 0) = false := decide_eq_false k0
      by_cases k1 : k = 1
      · subst k1
        go_wp2
        go_ret
        exact ⟨by rw [HC.out]; simp [go_sem], HBL.out⟩
      · have g1 : decide (k = 1) = false := decide_eq_false k1
        by_cases k2 : k = 2
        · subst k2
          have HS := Lib.hid (HM.out rfl)
          go_wp2_with fail
          refine (HS.out _).mono ?_
          rintro _ w3 ⟨rfl, hb3⟩
          have hfin := HBL.out.trans (hb3.mono HBL.out.size)
          have HFIN := Lib.hid hfin; clear hfin hb3
          go_wp2
          go_ret
          exact ⟨by rw [HC.out]; simp [go_sem], HFIN.out⟩
        · have g2 : decide (k = 2) = false := decide_eq_false k2
          go_wp2
          go_ret
          exact ⟨by rw [HC.out, g0, g1, g2]; rfl, HBL.out⟩
end Eid
end Go.Proofs.Ytmbmhblogjkflaa
