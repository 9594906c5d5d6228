/-
  Contract of dromondref10.Match. Conditions: names are of at most 2^40 bytes.
-/
import Derived.Test.YtmbmhblogjkflaaEih
namespace Go.Proofs.Ytmbmhblogjkflaa
namespace Eid
open Go.ChangeShapes Go.WideShapes Go.ChangeAt Go.RowKit
set_option linter.unusedVariables false
set_option maxRecDepth 100000

theorem below_drewN' {n : Nat} {w w' : World} (h : Below n w w') (m : Nat) : Below n w (w'.drewN m) := ⟨h.os, h.tape, h.output, h.size, h.block⟩

set_option maxHeartbeats 16000000 in
theorem rmatch_any (k : Int) (p e : Nm) (hp : p.name.size ≤ 1099511627776) (hs : e.name.size ≤ 1099511627776) (c : Bool) (hc : c = true ↔ MatchE k p e) (w : World) :
    Calls Try.prog 15 #[pV k p, eV e] w fun r w' => r = .returned (.bool c) ∧ Below w.heap.size w w' := by
  obtain ⟨r, hr⟩ : ∃ r, r = decide (Right e) := ⟨_, rfl⟩
  have hr' : r = true ↔ Right e := by rw [hr]; exact decide_eq_true_iff
  have HR := Lib.hid (fun w => rright e r hr' hs w)
  obtain ⟨u, hu⟩ : ∃ u, u = decide (Right p) := ⟨_, rfl⟩
  have hu' : u = true ↔ Right p := by rw [hu]; exact decide_eq_true_iff
  have HU := Lib.hid (fun w => rright p u hu' hp w)
  have HNP := Lib.hid (fun (h : u = true) w => rnode p (hu'.1 h) hp w)
  have HNE := Lib.hid (fun (h : r = true) w => rnode e (hr'.1 h) hs w)
  have HE := fun X => neq_run p e X
  have HF := fun X => eql_run (nodeE p) (nodeE e) X
  generalize hnp : nodeE p = np at *
  generalize hne : nodeE e = ne at *
  obtain ⟨q, hq⟩ : ∃ q, q = decide (np = ne) := ⟨_, rfl⟩
  have hq' : q = true ↔ np = ne := by rw [hq]; exact decide_eq_true_iff
  rw [← hq] at HF
  obtain ⟨t, ht⟩ : ∃ t, t = decide (p = e) := ⟨_, rfl⟩
  have ht' : t = true ↔ p = e := by rw [ht]; exact decide_eq_true_iff
  rw [← ht] at HE
  have hcv : c = (r && (decide (k = 0) || (decide (k = 1) && t) || (decide (k = 2) && (u && q)))) := by
    rw [Bool.eq_iff_iff, hc]
    unfold MatchE
    rw [hnp, hne, eq_comm (a := e)]
    simp only [Bool.and_eq_true, Bool.or_eq_true, decide_eq_true_eq, hr', ht', hq', hu', or_assoc]
  have HC := Lib.hid hcv
  clear hr hr' hq hq' ht ht' hcv hc hp hs hu hu' hnp hne
  have h0 : ((w.alloc (.cells (pCells k p) 40 (0, 0))).alloc (.cells (eCells e) 29 (0, 0))).heap[w.heap.size]? = some (.cells (pCells k p) 40 (0, 0)) := by
    rw [((Below.refl _ _).alloc (Nat.le_refl _) (.cells (eCells e) 29 (0, 0))).block w.heap.size (by simp)]
    exact heap_alloc_new w _
  have h1 := EB.new (w.alloc (.cells (pCells k p) 40 (0, 0))) e
  rw [World.size_alloc] at h1
  have h2 : Below w.heap.size w ((w.alloc (.cells (pCells k p) 40 (0, 0))).alloc (.cells (eCells e) 29 (0, 0))) := ((Below.refl _ _).alloc (Nat.le_refl _) _).alloc (by simp) _
  have hlt : w.heap.size + 1 < ((w.alloc (.cells (pCells k p) 40 (0, 0))).alloc (.cells (eCells e) 29 (0, 0))).heap.size := by simp
  generalize hW : (w.alloc (.cells (pCells k p) 40 (0, 0))).alloc (.cells (eCells e) 29 (0, 0)) = w1 at h0 h1 h2 hlt
  obtain ⟨e0, e1, e2, e3⟩ := e
  obtain ⟨p0, p1, p2, p3⟩ := p
  obtain ⟨n0, n1, n2, n3⟩ := ne
  obtain ⟨m0, m1, m2, m3⟩ := np
  obtain ⟨c0, c1, c2, c3⟩ := h1.cells
  have HX := Lib.hid (And.intro h0 (And.intro h1 h2)); clear h0 h1 h2
  simp only [pV, eV, eCells, pCells] at HR HU HNP HNE hW HE HF c0 c1 c2 c3 ⊢
  go_enter Try.func15, Try.ntmps15
  go_upto_region 1 with fail
  clear hW
  go_wp2_with fail
  refine (HR.out _).mono ?_
  rintro _ w2 ⟨rfl, hb2⟩
  have hP2 := (hb2.block _ (by omega)).trans HX.out.1
  have hE2 := HX.out.2.1.below hb2 hlt
  obtain ⟨a0, a1, a2, a3, a4⟩ := pcells hP2
  obtain ⟨d0, d1, d2, d3⟩ := hE2.cells
  have hbl := HX.out.2.2.trans (hb2.mono HX.out.2.2.size)
  have hlt2 := hE2.lt
  have HBL := Lib.hid (And.intro hbl (And.intro hP2 hE2)); clear hbl hb2 hlt c0 c1 c2 c3 hP2 hE2
  simp only at a0 a1 a2 a3 a4 d0 d1 d2 d3
  cases r with
  | false =>
    go_wp2
    go_ret
    exact ⟨by rw [HC.out]; rfl, HBL.out.1⟩
  | true =>
    by_cases k0 : k = 0
    · subst k0
      have hrd : ∀ n, Below w.heap.size w (w2.drewN n) := fun n => below_drewN' HBL.out.1 n
      have HRD := Lib.hid hrd; clear hrd
      go_wp2_with fail
      go_quiet (fail)
      go_wp2
      go_ret
      exact ⟨by rw [HC.out]; rfl, HRD.out _⟩
    · have g0 : decide (k = 0) = false := decide_eq_false k0
      by_cases k1 : k = 1
      · subst k1
        cases t with
        | false =>
          go_wp2
          go_ret
          exact ⟨by rw [HC.out]; rfl, HBL.out.1⟩
        | true =>
          have hrd : ∀ n, Below w.heap.size w (w2.drewN n) := fun n => below_drewN' HBL.out.1 n
          have HRD := Lib.hid hrd; clear hrd
          go_wp2_with fail
          go_quiet (fail)
          go_wp2
          go_ret
          exact ⟨by rw [HC.out]; rfl, HRD.out _⟩
      · have g1 : decide (k = 1) = false := decide_eq_false k1
        by_cases k2 : k = 2
        · subst k2
          have hkp : ∀ X, Below w2.heap.size w2 X → (X.cell? ⟨w.heap.size, 1, none⟩ = some (.int .i64 p0) ∧ X.cell? ⟨w.heap.size, 2, none⟩ = some (.string p1) ∧ X.cell? ⟨w.heap.size, 3, none⟩ = some (.int .u64 (p2 : Nat)) ∧ X.cell? ⟨w.heap.size, 4, none⟩ = some (.int .u64 (p3 : Nat))) ∧
              (X.cell? ⟨w.heap.size + 1, 0, none⟩ = some (.int .i64 e0) ∧ X.cell? ⟨w.heap.size + 1, 1, none⟩ = some (.string e1) ∧ X.cell? ⟨w.heap.size + 1, 2, none⟩ = some (.int .u64 (e2 : Nat)) ∧ X.cell? ⟨w.heap.size + 1, 3, none⟩ = some (.int .u64 (e3 : Nat))) := fun X hX =>
            ⟨(pcells ((hX.block _ (by omega)).trans HBL.out.2.1)).2, (HBL.out.2.2.below hX hlt2).cells⟩
          have HKP := Lib.hid hkp; clear hkp
          have hd0 : Below w2.heap.size w2 w2.drew := (Below.refl _ _).drew
          have hd1 : Below w2.heap.size w2 w2 := Below.refl _ _
          have hr0 : w2.drew.cell? ⟨w.heap.size, 0, none⟩ = some (.int .i64 2) := a0
          cases u with
          | false =>
            go_wp2_with fail
            first | (go_region_with (go_at_call 12; with_reducible refine (HU.out _).mono ?_; rintro e w' ⟨rfl, hb⟩; have hw := Below.trans (by with_reducible assumption) (hb.mono (Below.size (by with_reducible assumption))); obtain ⟨⟨b1, b2, b3, b4⟩, ⟨f0, f1, f2, f3⟩⟩ := HKP.out _ hw)) | fail
            all_goals
              have HFIN := Lib.hid (HBL.out.1.trans (hw.mono HBL.out.1.size))
              clear hw hb
              go_wp2
              go_ret
              exact ⟨by rw [HC.out]; rfl, HFIN.out⟩
          | true =>
            have HA := Lib.hid (HNP.out rfl)
            have HB := Lib.hid (HNE.out rfl)
            go_wp2_with fail
            go_region_with ((first | (go_at_call 12; with_reducible refine (HU.out _).mono ?_) | (go_at_call 13; first | (with_reducible refine (HA.out _).mono ?_) | (with_reducible refine (HB.out _).mono ?_))); rintro e w' ⟨rfl, hb⟩; have hw := Below.trans (by with_reducible assumption) (hb.mono (Below.size (by with_reducible assumption))); obtain ⟨⟨b1, b2, b3, b4⟩, ⟨f0, f1, f2, f3⟩⟩ := HKP.out _ hw)
            all_goals
              have HFIN := Lib.hid (HBL.out.1.trans (Below.mono hw HBL.out.1.size))
              clear hw hb
              go_wp2
              go_ret
              exact ⟨by rw [HC.out]; simp [go_sem], HFIN.out⟩
        · have g2 : decide (k = 2) = false := decide_eq_false k2
          by_cases hlo : k < 0
          · have q1 : decide (k < 0) = true := decide_eq_true hlo
            go_wp2
            go_ret
            exact ⟨by rw [HC.out, g0, g1, g2]; rfl, HBL.out.1⟩
          · have q1 : decide (k < 0) = false := decide_eq_false hlo
            have q2 : decide (2 < k) = true := decide_eq_true (by omega)
            go_wp2
            go_ret
            exact ⟨by rw [HC.out, g0, g1, g2]; rfl, HBL.out.1⟩
end Eid
end Go.Proofs.Ytmbmhblogjkflaa
