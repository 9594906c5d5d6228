/-
  For every p and both kinds of root ShaBits returns true: the bits that Root tells are those behind the point of the root. Conditions: none.
-/
import Derived.Test.YtbhnfepdbbdcnaaRj
import Derived.Test.YtbhnfepdbbdcnaaRootsL
namespace Go.Proofs.Ytbhnfepdbbdcnaa
open Go.ChangeShapes Go.WideShapes Go.ChangeAt Go.RowKit Go.ChangeMaps
open Sha
set_option linter.unusedVariables false

theorem bits_2 (p n : Nat) (hn : n = 2 + p % 999) (w : World) :
    Calls Try.prog 3 #[.int .u64 p, .bool false] w fun e w' => e = .returned (.bool true) ∧ Below w.heap.size w w' := by
  have e1 : (2 : Int) + (p : Int) % 999 = (n : Int) := by omega
  have e2 : IntKind.u64.wrap (2 + (p : Int) % 999) = (n : Int) := by rw [IntKind.wrap_u64]; omega
  have HN := Lib.hid (show 2 ≤ n ∧ n ≤ 1000 by omega); clear hn
  go_enter Try.func3, Try.ntmps3
  go_wp2_with fail
  refine (awake_any _).mono ?_
  rintro e w1 ⟨rfl, hb1⟩
  have HB1 := Lib.hid hb1; clear hb1
  go_wp2_with fail
  refine (root_2 n HN.out.1 HN.out.2 _).mono ?_
  rintro e w2 ⟨r, W, rfl, hr, h1, h2, hR, hb2⟩
  have hw := Sha.whole_2 n (by have := HN.out.2; omega)
  obtain rfl := whole_one h1 h2 hw.1 hw.2.1
  have HB2 := Lib.hid (below_link HB1.out hb2); clear hb2 h1 h2
  have HR := Lib.hid (And.intro hr (And.intro hw.2.2 hR)); clear hr hw hR
  go_wp2_with fail
  refine (isRoot2 n r _ _ HN.out.1 HN.out.2 HR.out.1 rfl (by have := HR.out.2.1; omega) HR.out.2.2).mono ?_
  rintro e w3 ⟨rfl, hb3⟩
  have HB3 := Lib.hid (below_link HB2.out hb3); clear hb3
  go_wp2
  go_ret
  exact ⟨rfl, HB3.out⟩

theorem bits_3 (p n : Nat) (hn : n = 2 + p % 999) (w : World) :
    Calls Try.prog 3 #[.int .u64 p, .bool true] w fun e w' => e = .returned (.bool true) ∧ Below w.heap.size w w' := by
  have e1 : (2 : Int) + (p : Int) % 999 = (n : Int) := by omega
  have e2 : IntKind.u64.wrap (2 + (p : Int) % 999) = (n : Int) := by rw [IntKind.wrap_u64]; omega
  have HN := Lib.hid (show 2 ≤ n ∧ n ≤ 1000 by omega); clear hn
  go_enter Try.func3, Try.ntmps3
  go_wp2_with fail
  refine (awake_any _).mono ?_
  rintro e w1 ⟨rfl, hb1⟩
  have HB1 := Lib.hid hb1; clear hb1
  go_wp2_with fail
  refine (root_3 n HN.out.1 HN.out.2 _).mono ?_
  rintro e w2 ⟨r, W, rfl, hr, h1, h2, hR, hb2⟩
  have hw := Sha.whole_3 n (by have := HN.out.2; omega)
  obtain rfl := whole_one h1 h2 hw.1 hw.2.1
  have HB2 := Lib.hid (below_link HB1.out hb2); clear hb2 h1 h2
  have HR := Lib.hid (And.intro hr (And.intro hw.2.2 hR)); clear hr hw hR
  go_wp2_with fail
  refine (isRoot3 n r _ _ HN.out.1 HN.out.2 HR.out.1 rfl (by have := HR.out.2.1; omega) HR.out.2.2).mono ?_
  rintro e w3 ⟨rfl, hb3⟩
  have HB3 := Lib.hid (below_link HB2.out hb3); clear hb3
  go_wp2
  go_ret
  exact ⟨rfl, HB3.out⟩

set_option maxRecDepth 100000 in
theorem bits_lifted (os : Os) (started : os.Started) (H : Type) (enc : TypeId × Value → H) :
    ReturnsInHanded {} Try.checked os 3 .any (Rows.shaBitsSpec.pre6 enc Try.prog Try.f3 Rows.shaBitsRow.domain false) (Rows.shaBitsSpec.post enc Try.prog Try.f3 false true false false) := by
  refine returnsInHanded_of_change (C := Try.checked) own started (by kernel_rfl) Try.func3
    (ChangeSpec.witness6 (enc := enc) (C := Try.checked) false ⟨#[], #[.int .u64 0, .bool false], []⟩ 8 (by kernel_rfl) (by kernel_rfl) (by kernel_rfl) (by kernel_rfl)) ?_
  intro W base args ds gs before hval0 hW hcnd _
  have hval : ∀ (j : Nat) t v, Try.f3.params[j]? = some t → args[j]? = some v → Value.okWide Try.prog W .any base t v := hval0
  have hW' := hW
  obtain ⟨p, q, hA0, hV, rfl, hfz, hnd⟩ := hW
  have hA : DataW.TrodAll enc Try.prog W 0 (fun _ => true) true Try.f3.params.toList args.toList ds p := hA0
  rw [Try.params3] at hA hval
  obtain ⟨v0, vs0, d0, ds0, p0, q0, hargs, rfl, rfl, h0, r0⟩ := trodAll_cons hA
  obtain ⟨v1, vs1, d1, ds1, p1, q1, rfl, rfl, rfl, h1, r1⟩ := trodAll_cons r0
  obtain ⟨rfl, rfl, rfl⟩ := trodAll_nil r1
  obtain rfl : args = #[v0, v1] := by cases args; simp_all
  obtain ⟨rfl, rfl⟩ := trodVars_none hV
  obtain ⟨a0, rfl, rfl, rfl, w0⟩ := open_int Try.underlying22 (hval 0 22 v0 rfl rfl) h0
  obtain ⟨b1, rfl, rfl, rfl⟩ := open_bool Try.underlying4 (hval 1 4 v1 rfl rfl) h1
  obtain ⟨n, rfl, hn⟩ := u64_nat w0
  clear hA0 hval0
  simp only [List.append_nil] at hW'
  have hall : Calls Try.prog 3 #[.int .u64 n, .bool b1] W fun e w' => e = .returned (.bool true) ∧ Below W.heap.size W w' := by
    cases b1
    · exact bits_2 n _ rfl W
    · exact bits_3 n _ rfl W
  refine hall.mono fun e W' ⟨he, hb⟩ => ?_
  subst he
  exact ⟨_, rfl, post_law (pa := []) (pv := []) hW' hb (trodAll_cons_mk (shut_bool Try.underlying4 _) trodAll_mk0) (trodAll_cons_mk (shut_int Try.underlying22 w0) (trodAll_cons_mk (shut_bool Try.underlying4 _) trodAll_mk0)) rfl⟩

/-- For every p and both kinds of root the law returns true. -/
theorem shaBits_holds : Rows.ShaBitsSaid :=
  OpenClaim.holds_of_wide 3 Try.f3 rfl rfl rfl rfl rfl rfl rfl ⟨rfl, rfl, rfl, rfl, rfl⟩ rfl rfl rfl rfl rfl (by kernel_rfl) Try.func3 (by kernel_rfl)
    (of_decide_eq_true (by kernel_rfl)) (by unfold Func.isWrapper; first | (rw [if_pos (by decide +kernel)]; kernel_rfl) | (rw [if_neg (by decide +kernel)]; exact ⟨rfl, rfl⟩))
    (fun os started H enc _ => bits_lifted os started H enc)

#print axioms shaBits_holds
end Go.Proofs.Ytbhnfepdbbdcnaa
