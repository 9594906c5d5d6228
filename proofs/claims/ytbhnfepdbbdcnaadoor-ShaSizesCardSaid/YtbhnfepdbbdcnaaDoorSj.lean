/-
  The walk of ShaSizes. Conditions: the table of round constants holds the standard's numbers.
-/
import Derived.Test.YtbhnfepdbbdcnaaDoorSi
import Derived.Test.YtbhnfepdbbdcnaaDoorRe
namespace Go.Proofs.YtbhnfepdbbdcnaaDoor
open Go.ChangeShapes Go.WideShapes Go.ChangeAt Go.RowKit Go.Great Go.ChangeMaps
open Sha
set_option linter.unusedVariables false

/-- The text of one letter. -/
def aText : ByteArray := ⟨#[97]⟩

set_option maxHeartbeats 1000000 in
theorem sizes_256 (w : World) (hk : Kon w) :
    Calls Tryd.prog 5 #[.int .i64 256] w fun e w' => e = .returned (.bool true) ∧ Below w.heap.size w w' := by
  have HK := Lib.hid hk; clear hk
  have hz := sumOf_size_256 aText
  have HS := Lib.hid (fun X h => sum_256 aText X (by decide) h)
  generalize sumOf 256 aText = S at *
  have hz2 : (S.size : Int) = 32 := by omega
  go_enter Tryd.func5, Tryd.ntmps5
  go_wp2_with fail
  refine (awake_any _).mono ?_
  rintro e w1 ⟨rfl, hb1⟩
  have HB1 := Lib.hid hb1; clear hb1
  go_wp2_with fail
  refine (block_256 _).mono ?_
  rintro e w2 ⟨rfl, rfl⟩
  go_wp2_with fail
  refine (size_256 _).mono ?_
  rintro e w3 ⟨rfl, rfl⟩
  go_wp2_with fail
  refine (HS.out _ (HK.out.next HB1.out)).mono ?_
  rintro e w4 ⟨rfl, hb4⟩
  have HB4 := Lib.hid (below_link HB1.out hb4); clear hb4
  go_wp2
  go_ret
  exact ⟨rfl, HB4.out⟩

set_option maxHeartbeats 1000000 in
theorem sizes_384 (w : World) (hk : Kon w) :
    Calls Tryd.prog 5 #[.int .i64 384] w fun e w' => e = .returned (.bool true) ∧ Below w.heap.size w w' := by
  have HK := Lib.hid hk; clear hk
  have hz := sumOf_size_384 aText
  have HS := Lib.hid (fun X h => sum_384 aText X (by decide) h)
  generalize sumOf 384 aText = S at *
  have hz2 : (S.size : Int) = 48 := by omega
  go_enter Tryd.func5, Tryd.ntmps5
  go_wp2_with fail
  refine (awake_any _).mono ?_
  rintro e w1 ⟨rfl, hb1⟩
  have HB1 := Lib.hid hb1; clear hb1
  go_wp2_with fail
  refine (block_384 _).mono ?_
  rintro e w2 ⟨rfl, rfl⟩
  go_wp2_with fail
  refine (size_384 _).mono ?_
  rintro e w3 ⟨rfl, rfl⟩
  go_wp2_with fail
  refine (HS.out _ (HK.out.next HB1.out)).mono ?_
  rintro e w4 ⟨rfl, hb4⟩
  have HB4 := Lib.hid (below_link HB1.out hb4); clear hb4
  go_wp2
  go_ret
  exact ⟨rfl, HB4.out⟩

set_option maxHeartbeats 1000000 in
theorem sizes_512 (w : World) (hk : Kon w) :
    Calls Tryd.prog 5 #[.int .i64 512] w fun e w' => e = .returned (.bool true) ∧ Below w.heap.size w w' := by
  have HK := Lib.hid hk; clear hk
  have hz := sumOf_size_512 aText
  have HS := Lib.hid (fun X h => sum_512 aText X (by decide) h)
  generalize sumOf 512 aText = S at *
  have hz2 : (S.size : Int) = 64 := by omega
  go_enter Tryd.func5, Tryd.ntmps5
  go_wp2_with fail
  refine (awake_any _).mono ?_
  rintro e w1 ⟨rfl, hb1⟩
  have HB1 := Lib.hid hb1; clear hb1
  go_wp2_with fail
  refine (block_512 _).mono ?_
  rintro e w2 ⟨rfl, rfl⟩
  go_wp2_with fail
  refine (size_512 _).mono ?_
  rintro e w3 ⟨rfl, rfl⟩
  go_wp2_with fail
  refine (HS.out _ (HK.out.next HB1.out)).mono ?_
  rintro e w4 ⟨rfl, hb4⟩
  have HB4 := Lib.hid (below_link HB1.out hb4); clear hb4
  go_wp2
  go_ret
  exact ⟨rfl, HB4.out⟩

set_option maxHeartbeats 1000000 in
theorem sizes_other (size : Int) (w : World) (h1 : size ≠ 256) (h2 : size ≠ 384) (h3 : size ≠ 512) :
    Calls Tryd.prog 5 #[.int .i64 size] w fun e w' => e = .returned (.bool true) ∧ Below w.heap.size w w' := by
  have g1 : (size == 256) = false := by simpa using h1
  have g2 : (size == 384) = false := by simpa using h2
  have g3 : (size == 512) = false := by simpa using h3
  go_enter Tryd.func5, Tryd.ntmps5
  go_wp2_with fail
  refine (awake_any _).mono ?_
  rintro e w1 ⟨rfl, hb1⟩
  have HB1 := Lib.hid hb1; clear hb1
  go_wp2_with fail
  refine (block_other size _ h1 h2 h3).mono ?_
  rintro e w2 ⟨rfl, rfl⟩
  go_wp2_with fail
  refine (size_other size _ h1 h2 h3).mono ?_
  rintro e w3 ⟨rfl, rfl⟩
  go_wp2_with fail
  refine (sum_other size aText _ h1 h2 h3).mono ?_
  rintro e w4 ⟨rfl, rfl⟩
  go_wp2
  go_ret
  exact ⟨rfl, HB1.out⟩

theorem sizes_all (size : Int) (w : World) (hk : Kon w) :
    Calls Tryd.prog 5 #[.int .i64 size] w fun e w' => e = .returned (.bool true) ∧ Below w.heap.size w w' := by
  by_cases h1 : size = 256
  · subst h1; exact sizes_256 w hk
  by_cases h2 : size = 384
  · subst h2; exact sizes_384 w hk
  by_cases h3 : size = 512
  · subst h3; exact sizes_512 w hk
  exact sizes_other size w h1 h2 h3

end Go.Proofs.YtbhnfepdbbdcnaaDoor
