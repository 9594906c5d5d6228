/-
  A string with its head. Conditions: none.
-/
import Derived.Test.YtmbmhblogjkflaaDoorB
namespace Go.Proofs.YtmbmhblogjkflaaDoor
open Go.ChangeShapes Go.WideShapes Go.ChangeAt Go.RowKit
open Plain
set_option linter.unusedVariables false

theorem size_list (s : ByteArray) : s.data.toList.length = s.size := by simp

/-- A string with its head. -/
def withHead (m : Nat) (s : ByteArray) : ByteArray := ⟨(headOf m s.size ++ s.data.toList).toArray⟩

theorem withHead_eq (m : Nat) (s : ByteArray) : (⟨(headOf m s.size).toArray⟩ : ByteArray) ++ s = withHead m s := by
  have := bytes_append (headOf m s.size) s.data.toList
  exact this

theorem headOf_len (m n : Nat) : (headOf m n).length ≤ 9 := by
  unfold headOf
  repeat' split
  all_goals simp [be_length]

theorem withHead_list (m : Nat) (s : ByteArray) : (withHead m s).data.toList = headOf m s.size ++ s.data.toList := rfl

theorem withHead_size (m : Nat) (s : ByteArray) : (withHead m s).size = (headOf m s.size).length + s.size := by
  rw [← size_list (withHead m s), withHead_list, List.length_append, size_list]

end Go.Proofs.YtmbmhblogjkflaaDoor
