/-
  The walk of EngineSizes: it returns true for every variant. Conditions: none.
-/
import Derived.Test.YtedoggejbhbebaaKg
namespace Go.Proofs.Ytedoggejbhbebaa
namespace Eng
open Go.ChangeShapes Go.WideShapes Go.ChangeAt Go.RowKit Go.Great
open Gf Aes Gcm
set_option linter.unusedVariables false
set_option maxRecDepth 100000

theorem sizes_walk (v : Int) (w : World) : Calls Try.prog 3 #[.int .i64 v] w fun e w' => e = .returned (.bool true) ∧ Below w.heap.size w w' := by
  have HP := Lib.hid (psize v)
  have HR := Lib.hid (rsize v)
  obtain ⟨s, hs⟩ : ∃ s, s = sizeOf v := ⟨_, rfl⟩
  rw [← hs] at HP HR
  clear hs
  have g1 : (s == s) = true := by simp
  go_enter Try.func3, Try.ntmps3
  go_wp2_with fail
  refine (awake_any _).mono ?_
  rintro e w1 ⟨rfl, hb⟩
  have HB := Lib.hid hb; clear hb
  go_wp2_with fail
  refine (HP.out _).mono ?_
  rintro e w2 ⟨rfl, hw⟩
  rw [hw]
  clear hw
  go_wp2_with fail
  refine (HR.out _).mono ?_
  rintro e w2 ⟨rfl, hw⟩
  rw [hw]
  clear hw
  go_wp2_with fail
  refine (real_any _).mono ?_
  rintro e w3 ⟨g, rfl, hr, h1, h2, hb⟩
  have HB2 := Lib.hid (below_link HB.out hb)
  have HR := Lib.hid hr
  clear hr h1 h2 hb
  go_wp2_with fail
  refine (rlen_any g _ HR.out).mono ?_
  rintro e w4 ⟨rfl, hb⟩
  have HB3 := Lib.hid (below_link HB2.out hb); clear hb
  go_wp2
  go_ret
  exact ⟨rfl, HB3.out⟩
end Eng
end Go.Proofs.Ytedoggejbhbebaa
