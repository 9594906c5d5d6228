/-
  The contract of the reference reader's fail. Conditions: none.
-/
import Derived.Test.YtkaeklcmhoidjaaM
namespace Go.Proofs.Ytkaeklcmhoidjaa
open Go.ChangeShapes Go.WideShapes Go.ChangeAt Go.RowKit
open Plain
set_option linter.unusedVariables false

/-- The reference's reader. -/
def refV (s : ByteArray) (p bad e : Int) : Value := .agg #[.string s, .int .i64 p, .int .i64 bad, .int .i64 e]

/-- What a call told. -/
def toldV (m n : Int) (o : Bool) (t : ByteArray) (k : Int) : Value := .agg #[.int .i64 m, .int .u64 n, .bool o, .string t, .int .i64 k]

set_option maxHeartbeats 400000 in
theorem refFail_any (s : ByteArray) (p bad e0 d : Int) (w : World) :
    Calls Try.prog 28 #[refV s p bad e0, .int .i64 d] w fun e w' => e = .returned (.tuple #[refV s p p d, toldV 0 0 false ⟨#[]⟩ 0]) ∧ Below w.heap.size w w' := by
  unfold refV toldV
  go_enter Try.func28, Try.ntmps28
  go_wp2
  refine bodyPost_ret (v := .tuple #[.agg #[.string s, .int .i64 p, .int .i64 p, .int .i64 d], .agg #[.int .i64 0, .int .u64 0, .bool false, .string ⟨#[]⟩, .int .i64 0]]) (by simp [results, Try.results28, go_sem]) rfl ⟨rfl, (((Below.refl _ _).alloc (Nat.le_refl _) _).alloc (by simp) _).alloc (by simp; omega) _⟩

end Go.Proofs.Ytkaeklcmhoidjaa
