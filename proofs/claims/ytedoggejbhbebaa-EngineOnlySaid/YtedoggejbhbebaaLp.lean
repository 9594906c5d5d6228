/-
  The walk of EngineOnly, its two arguments as the law opens them. Conditions: none.
-/
import Derived.Test.YtedoggejbhbebaaLo
import Derived.Test.YtedoggejbhbebaaOp
namespace Go.Proofs.Ytedoggejbhbebaa
namespace Eng
set_option linter.unusedVariables false
theorem only_all (o p : Call) (w : World) (ho : o.Ok) (hp : p.Ok) : Calls Try.prog 5 #[.agg #[.int .u8 o.kind, .int .i64 o.variant, .string o.key, .string o.nonce, .string o.beside, .string o.text, .string o.tag, .int .u8 o.back], .agg #[.int .u8 p.kind, .int .i64 p.variant, .string p.key, .string p.nonce, .string p.beside, .string p.text, .string p.tag, .int .u8 p.back]] w fun e w' => e = .returned (.bool true) ∧ Go.RowKit.Below w.heap.size w w' :=
  only_walk o p w
end Eng
end Go.Proofs.Ytedoggejbhbebaa
