/-
  Contracts of cbor.Bytes, cbor.Text . Conditions: the string has at most 70000 bytes.
-/
import Derived.Test.YtpmepnejjjlodaaK
import Derived.Test.YtpmepnejjjlodaaJ
namespace Go.Proofs.Ytpmepnejjjlodaa
open Go.ChangeShapes Go.WideShapes Go.ChangeAt Go.RowKit
open Plain
set_option linter.unusedVariables false

/-- A string with its head. -/
def withHead (m : Nat) (s : ByteArray) : ByteArray := ⟨(headOf m s.size ++ s.data.toList).toArray⟩

theorem withHead_eq (m : Nat) (s : ByteArray) : (⟨(headOf m s.size).toArray⟩ : ByteArray) ++ s = withHead m s := by
  have := bytes_append (headOf m s.size) s.data.toList
  exact this

theorem headOf_len (m n : Nat) : (headOf m n).length ≤ 9 := by
  unfold headOf
  repeat' split
  all_goals simp [be_length]

theorem withHead_list (m : Nat) (s : ByteArray) : (withHead m s).data.toList = headOf m s.size ++ s.data.toList := rfl

theorem withHead_size (m : Nat) (s : ByteArray) : (withHead m s).size = (headOf m s.size).length + s.size := by
  rw [← size_list (withHead m s), withHead_list, List.length_append, size_list]

theorem typeOf_two : typeOf 2 = 2 := rfl
theorem typeOf_three : typeOf 3 = 3 := rfl

set_option maxHeartbeats 400000 in
theorem bytes_any (s : ByteArray) (w : World) (hs : s.size ≤ 70000) : Calls Try.prog 37 #[.string s] w fun e w' => e = .returned (.string (withHead 2 s)) ∧ Below w.heap.size w w' := by
  have hl := headOf_len 2 s.size
  have hsz : (⟨(headOf 2 s.size).toArray⟩ : ByteArray).size ≤ 9 := by
    show (headOf 2 s.size).toArray.size ≤ 9
    simpa using hl
  have HL := Lib.hid hl; clear hl
  have hsi : (s.size : Int) ≤ 70000 := by omega
  have HS := Lib.hid hs; clear hs
  go_enter Try.func37, Try.ntmps37
  go_wp2_with fail
  refine (head_any 2 s.size _ (by have := HS.out; omega)).mono ?_
  rw [typeOf_two]
  generalize hg : (⟨(headOf 2 s.size).toArray⟩ : ByteArray) = g at *
  have HG := Lib.hid hg; clear hg
  rintro e w1 ⟨rfl, hb⟩
  have hgi : (g.size : Int) ≤ 9 := by omega
  have hsum : g.size + s.size ≤ 9223372036854775807 := by have := HS.out; omega
  go_wp2
  go_ret
  rw [← withHead_eq, HG.out]
  exact ⟨rfl, hb⟩

set_option maxHeartbeats 400000 in
theorem text_any (s : ByteArray) (w : World) (hs : s.size ≤ 70000) : Calls Try.prog 38 #[.string s] w fun e w' => e = .returned (.string (withHead 3 s)) ∧ Below w.heap.size w w' := by
  have hl := headOf_len 3 s.size
  have hsz : (⟨(headOf 3 s.size).toArray⟩ : ByteArray).size ≤ 9 := by
    show (headOf 3 s.size).toArray.size ≤ 9
    simpa using hl
  have HL := Lib.hid hl; clear hl
  have hsi : (s.size : Int) ≤ 70000 := by omega
  have HS := Lib.hid hs; clear hs
  go_enter Try.func38, Try.ntmps38
  go_wp2_with fail
  refine (head_any 3 s.size _ (by have := HS.out; omega)).mono ?_
  rw [typeOf_three]
  generalize hg : (⟨(headOf 3 s.size).toArray⟩ : ByteArray) = g at *
  have HG := Lib.hid hg; clear hg
  rintro e w1 ⟨rfl, hb⟩
  have hgi : (g.size : Int) ≤ 9 := by omega
  have hsum : g.size + s.size ≤ 9223372036854775807 := by have := HS.out; omega
  go_wp2
  go_ret
  rw [← withHead_eq, HG.out]
  exact ⟨rfl, hb⟩

end Go.Proofs.Ytpmepnejjjlodaa
