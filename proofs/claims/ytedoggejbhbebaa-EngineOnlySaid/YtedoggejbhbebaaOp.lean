/-
  The type of a call in this program: its shape, and an argument of it opened. Conditions: none.
-/
import Derived.Test.YtedoggejbhbebaaEo
import Derived.Test.YtedoggejbhbebaaEr
namespace Go.Proofs.Ytedoggejbhbebaa
namespace Eng
open Go.ChangeShapes Go.WideShapes Go.ChangeAt Go.RowKit Go.ChangeMaps Go.Joins Go.Deep
set_option linter.unusedVariables false
set_option maxRecDepth 100000
theorem shape_op : ∃ f0 f1 f2 f3 f4 f5 f6 f7, Shape Try.prog 29 f0 f1 f2 f3 f4 f5 f6 f7 :=
  ⟨_, _, _, _, _, _, _, _, ⟨Try.underlying29, by kernel_rfl, by kernel_rfl, Try.underlying5, Try.underlying3, Try.underlying9, Try.underlying9, Try.underlying9, Try.underlying9, Try.underlying9, Try.underlying5⟩⟩
theorem open_op {H : Type} {enc : TypeId × Value → H} {w : World} {base b0 : Nat} {spare : Nat → Bool} {held : Bool} {r : Reach} {v : Value} {d : DataW H} {p : List MemPlace} (hv : Value.okWide Try.prog w r b0 29 v) (h : DataW.Trod enc Try.prog w base spare held 29 v d p) :
    ∃ c : Call, v = .agg #[.int .u8 c.kind, .int .i64 c.variant, .string c.key, .string c.nonce, .string c.beside, .string c.text, .string c.tag, .int .u8 c.back] ∧ c.Ok := by
  obtain ⟨f0, f1, f2, f3, f4, f5, f6, f7, S⟩ := shape_op
  obtain ⟨c, rfl, _, _, hc⟩ := open_call S hv h
  exact ⟨c, rfl, hc⟩
end Eng
end Go.Proofs.Ytedoggejbhbebaa
