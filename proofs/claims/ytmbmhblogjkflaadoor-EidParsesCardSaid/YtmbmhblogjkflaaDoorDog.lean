/-
  The walk of EidParses. Conditions: the library's variables lie as the program's text lays them.
-/
import Derived.Test.YtmbmhblogjkflaaDoorDof
namespace Go.Proofs.YtmbmhblogjkflaaDoor
namespace Eid
open Go.ChangeShapes Go.WideShapes Go.ChangeAt Go.RowKit
set_option linter.unusedVariables false
set_option linter.unusedSimpArgs false
set_option maxRecDepth 100000

set_option maxHeartbeats 16000000 in
theorem parses_many (s : ByteArray) (hs : 90 < s.size) (w : World) : Calls Tryd.prog 5 #[.string s] w fun r w' => r = .returned (.bool true) ∧ Below w.heap.size w w' := by
  have HA := Lib.hid (fun w => awake_any w)
  have q1 : decide ((s.size : Int) > 90) = true := by simp; omega
  clear hs
  go_enter Tryd.func5, Tryd.ntmps5
  go_wp2_with fail
  refine (HA.out _).mono ?_
  rintro _ w2 ⟨rfl, hb2⟩
  have HB := Lib.hid hb2; clear hb2
  go_wp2_with fail
  refine (HA.out _).mono ?_
  rintro _ w3 ⟨rfl, hb3⟩
  have HB3 := Lib.hid (HB.out.trans (hb3.mono HB.out.size)); clear hb3
  go_wp2
  go_ret
  exact ⟨rfl, HB3.out⟩

set_option maxHeartbeats 16000000 in
theorem parses_few (s : ByteArray) (hs : s.size ≤ 90) (w : World) (hk : Kon w) : Calls Tryd.prog 5 #[.string s] w fun r w' => r = .returned (.bool true) ∧ Below w.heap.size w w' := by
  have HA := Lib.hid (fun w => awake_any w)
  have HP := Lib.hid (fun w hk => parse_any s (by omega) w hk)
  have HR := Lib.hid (fun w => rparse s (by omega) w)
  have q1 : decide ((s.size : Int) > 90) = false := by simp; omega
  have HK := Lib.hid hk
  clear hs hk
  go_enter Tryd.func5, Tryd.ntmps5
  go_wp2_with fail
  refine (HA.out _).mono ?_
  rintro _ w2 ⟨rfl, hb2⟩
  have HB := Lib.hid (And.intro (HK.out.below hb2) hb2); clear hb2
  go_wp2_with fail
  refine (HP.out _ HB.out.1).mono ?_
  rintro _ w3 ⟨⟨e0, e1, e2, e3⟩, ce, rfl, hpe, hb3⟩
  simp only [eV]
  have he := EB.new w3 ⟨e0, e1, e2, e3⟩
  have hbl := (HB.out.2.trans (hb3.mono HB.out.2.size))
  have hbl3 := hbl.alloc hbl.size (.cells (eCells ⟨e0, e1, e2, e3⟩) 24 (0, 0))
  generalize hF : w3.alloc (.cells (eCells ⟨e0, e1, e2, e3⟩) 24 (0, 0)) = w4 at he hbl3
  have HE := Lib.hid (And.intro he hbl3)
  have HPE := Lib.hid hpe
  clear he hbl3 hbl hpe hb3 HP HB
  simp only [eCells] at hF
  go_upto_region 4 with fail
  clear hF
  go_wp2_with fail
  refine (HR.out _).mono ?_
  rintro _ w5 ⟨⟨f0, f1, f2, f3⟩, cf, rfl, hpf, hb5⟩
  simp only [eV]
  obtain ⟨h1, h2⟩ := parse_one HPE.out hpf
  have he := HE.out.1.below hb5 HE.out.1.lt
  have hbl := HE.out.2.trans (hb5.mono HE.out.2.size)
  have he2 := he.alloc (.cells (eCells ⟨f0, f1, f2, f3⟩) 24 (0, 0))
  have hf := EB.new w5 ⟨f0, f1, f2, f3⟩
  have hbl2 := hbl.alloc hbl.size (.cells (eCells ⟨f0, f1, f2, f3⟩) 24 (0, 0))
  generalize hF : w5.alloc (.cells (eCells ⟨f0, f1, f2, f3⟩) 24 (0, 0)) = w6 at he2 hf hbl2
  obtain ⟨c0, c1, c2, c3⟩ := he2.cells
  have HH := Lib.hid (And.intro he2 (And.intro hf hbl2))
  have HQ := Lib.hid (And.intro h1 h2)
  clear he hbl he2 hf hbl2 hb5 HE HPE hpf h1 h2 HR HA c0 c1 c2 c3
  simp only [eCells] at hF
  go_upto_region 5 with fail
  clear hF
  obtain ⟨c0, c1, c2, c3⟩ := HH.out.1.cells
  obtain ⟨d0, d1, d2, d3⟩ := HH.out.2.1.cells
  have HE := fun X => eql_run ⟨e0, e1, e2, e3⟩ ⟨f0, f1, f2, f3⟩ X
  rw [decide_eq_true HQ.out.1] at HE
  have hc : ((ce : Int) == cf) = true := by rw [HQ.out.2]; exact beq_self_eq_true _
  have HBL := Lib.hid HH.out.2.2
  clear HH HQ
  simp only at HE
  go_wp2
  go_ret
  exact ⟨rfl, HBL.out⟩

theorem parses_law (s : ByteArray) (w : World) (hk : Kon w) : Calls Tryd.prog 5 #[.string s] w fun r w' => r = .returned (.bool true) ∧ Below w.heap.size w w' := by
  by_cases h : s.size ≤ 90
  · exact parses_few s h w hk
  · exact parses_many s (by omega) w
end Eid
end Go.Proofs.YtmbmhblogjkflaaDoor
