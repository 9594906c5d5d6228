/-
  The walk of EidMatches. Conditions: none.
-/
import Derived.Test.YtmbmhblogjkflaaEii
import Derived.Test.YtmbmhblogjkflaaEik
namespace Go.Proofs.Ytmbmhblogjkflaa
namespace Eid
open Go.ChangeShapes Go.WideShapes Go.ChangeAt Go.RowKit
set_option linter.unusedVariables false
set_option maxRecDepth 100000

theorem two_boxes (w : World) (k : Int) (p e : Nm) {X : World} (hb : Below ((w.alloc (.cells (pCells k p) 40 (0, 0))).alloc (.cells (eCells e) 29 (0, 0))).heap.size ((w.alloc (.cells (pCells k p) 40 (0, 0))).alloc (.cells (eCells e) 29 (0, 0))) X) :
    X.heap[w.heap.size]? = some (.cells (pCells k p) 40 (0, 0)) ∧ EB X (w.heap.size + 1) e ∧ Below w.heap.size w X := by
  have h1 := EB.new (w.alloc (.cells (pCells k p) 40 (0, 0))) e
  rw [World.size_alloc] at h1
  refine ⟨?_, h1.below hb (by simp), (((Below.refl _ _).alloc (Nat.le_refl _) _).alloc (by simp) _).trans (hb.mono (by simp; omega))⟩
  rw [hb.block _ (by simp; omega), ((Below.refl _ _).alloc (Nat.le_refl _) (.cells (eCells e) 29 (0, 0))).block w.heap.size (by simp)]
  exact heap_alloc_new w _

instance (k : Int) (p e : Nm) : Decidable (MatchE k p e) := by unfold MatchE; infer_instance

set_option maxHeartbeats 16000000 in
theorem matches_all (k : Int) (p e : Nm) (w : World) : Calls Try.prog 5 #[pV k p, eV e] w fun r w' => r = .returned (.bool true) ∧ Below w.heap.size w w' := by
  have HA := Lib.hid (fun w => awake_any w)
  have HF1 := Lib.hid (fun w => rfew e w)
  have HF2 := Lib.hid (fun w => rfew p w)
  obtain ⟨c, hc⟩ : ∃ c, c = decide (MatchE k p e) := ⟨_, rfl⟩
  have hc' : c = true ↔ MatchE k p e := by rw [hc]; exact decide_eq_true_iff
  have HM1 := Lib.hid (fun (hp : decide (p.name.size ≤ 100) = true) (he : decide (e.name.size ≤ 100) = true) w => match_any k p e (few_size hp) (few_size he) c hc' w)
  have HM2 := Lib.hid (fun (hp : decide (p.name.size ≤ 100) = true) (he : decide (e.name.size ≤ 100) = true) w => rmatch_any k p e (few_size hp) (few_size he) c hc' w)
  clear hc hc'
  generalize decide (p.name.size ≤ 100) = fp at *
  generalize decide (e.name.size ≤ 100) = fe at *
  obtain ⟨h0, h1, h2⟩ := two_boxes w k p e (Below.refl _ _)
  have hlt := h1.lt
  generalize hW : (w.alloc (.cells (pCells k p) 40 (0, 0))).alloc (.cells (eCells e) 29 (0, 0)) = w1 at h0 h1 h2 hlt
  obtain ⟨e0, e1, e2, e3⟩ := e
  obtain ⟨p0, p1, p2, p3⟩ := p
  have hkp : ∀ X, Below w1.heap.size w1 X → (X.cell? ⟨w.heap.size, 0, none⟩ = some (.int .i64 k) ∧ X.cell? ⟨w.heap.size, 1, none⟩ = some (.int .i64 p0) ∧ X.cell? ⟨w.heap.size, 2, none⟩ = some (.string p1) ∧ X.cell? ⟨w.heap.size, 3, none⟩ = some (.int .u64 (p2 : Nat)) ∧ X.cell? ⟨w.heap.size, 4, none⟩ = some (.int .u64 (p3 : Nat))) ∧
      (X.cell? ⟨w.heap.size + 1, 0, none⟩ = some (.int .i64 e0) ∧ X.cell? ⟨w.heap.size + 1, 1, none⟩ = some (.string e1) ∧ X.cell? ⟨w.heap.size + 1, 2, none⟩ = some (.int .u64 (e2 : Nat)) ∧ X.cell? ⟨w.heap.size + 1, 3, none⟩ = some (.int .u64 (e3 : Nat))) := fun X hX =>
    ⟨pcells ((hX.block _ (by omega)).trans h0), (h1.below hX hlt).cells⟩
  have HKP := Lib.hid hkp
  have HB := Lib.hid h2; clear h0 h1 h2 hkp
  simp only [pV, eV, eCells, pCells] at HF1 HF2 HM1 HM2 hW ⊢
  go_enter Try.func5, Try.ntmps5
  go_upto_region 1 with fail
  clear hW
  go_wp2_with fail
  refine (HA.out _).mono ?_
  rintro _ w2 ⟨rfl, hb2⟩
  obtain ⟨⟨a0, a1, a2, a3, a4⟩, ⟨d0, d1, d2, d3⟩⟩ := HKP.out _ hb2
  go_wp2_with fail
  refine (HF1.out _).mono ?_
  rintro _ w3 ⟨rfl, hb3⟩
  have hb3' := hb2.trans (hb3.mono hb2.size)
  clear a0 a1 a2 a3 a4 d0 d1 d2 d3 hb2 hb3
  obtain ⟨⟨a0, a1, a2, a3, a4⟩, ⟨d0, d1, d2, d3⟩⟩ := HKP.out _ hb3'
  cases fe with
  | false =>
    have HB3 := Lib.hid hb3'; clear hb3'
    go_wp2_with fail
    refine (HA.out _).mono ?_
    rintro _ w4 ⟨rfl, hb4⟩
    have HFIN := Lib.hid (HB.out.trans ((HB3.out.trans (hb4.mono HB3.out.size)).mono HB.out.size))
    clear hb4
    go_wp2
    go_ret
    exact ⟨rfl, HFIN.out⟩
  | true =>
    go_wp2_with fail
    refine (HF2.out _).mono ?_
    rintro _ w4 ⟨rfl, hb4⟩
    have hb4' := hb3'.trans (hb4.mono hb3'.size)
    clear a0 a1 a2 a3 a4 d0 d1 d2 d3 hb3' hb4
    obtain ⟨⟨a0, a1, a2, a3, a4⟩, ⟨d0, d1, d2, d3⟩⟩ := HKP.out _ hb4'
    cases fp with
    | false =>
      have HB4 := Lib.hid hb4'; clear hb4'
      go_wp2_with fail
      refine (HA.out _).mono ?_
      rintro _ w5 ⟨rfl, hb5⟩
      have HFIN := Lib.hid (HB.out.trans ((HB4.out.trans (hb5.mono HB4.out.size)).mono HB.out.size))
      clear hb5
      go_wp2
      go_ret
      exact ⟨rfl, HFIN.out⟩
    | true =>
      have H1 := Lib.hid (HM1.out (by simp) (by simp))
      have H2 := Lib.hid (HM2.out (by simp) (by simp))
      have hd0 : Below w1.heap.size w1 w4.drew := hb4'.drew
      go_upto_region 3 with fail
      go_region_held3 (fun X => (X.cell? ⟨w.heap.size, 0, none⟩ = some (.int .i64 k) ∧ X.cell? ⟨w.heap.size, 1, none⟩ = some (.int .i64 p0) ∧ X.cell? ⟨w.heap.size, 2, none⟩ = some (.string p1) ∧ X.cell? ⟨w.heap.size, 3, none⟩ = some (.int .u64 (p2 : Nat)) ∧ X.cell? ⟨w.heap.size, 4, none⟩ = some (.int .u64 (p3 : Nat))) ∧
        (X.cell? ⟨w.heap.size + 1, 0, none⟩ = some (.int .i64 e0) ∧ X.cell? ⟨w.heap.size + 1, 1, none⟩ = some (.string e1) ∧ X.cell? ⟨w.heap.size + 1, 2, none⟩ = some (.int .u64 (e2 : Nat)) ∧ X.cell? ⟨w.heap.size + 1, 3, none⟩ = some (.int .u64 (e3 : Nat)))) ((refine HKP.out _ ?_; (with_reducible assumption)))
        (((first | (go_at_call 14; with_reducible refine (H1.out _).mono ?_) | (go_at_call 15; with_reducible refine (H2.out _).mono ?_)); rintro e w' ⟨rfl, hb⟩; have hw := Below.trans (by with_reducible assumption) (hb.mono (Below.size (by with_reducible assumption)))))
      all_goals
        have HFIN := Lib.hid (HB.out.trans (Below.mono hw HB.out.size))
        clear hw hb
        go_wp2
        go_ret
        exact ⟨by simp [go_sem], HFIN.out⟩
theorem matches_law (k : Int) (p e : Nm) (w : World) (_ : EFit p) (_ : EFit e) : Calls Try.prog 5 #[pV k p, eV e] w fun r w' => r = .returned (.bool true) ∧ Below w.heap.size w w' :=
  matches_all k p e w
end Eid
end Go.Proofs.Ytmbmhblogjkflaa
