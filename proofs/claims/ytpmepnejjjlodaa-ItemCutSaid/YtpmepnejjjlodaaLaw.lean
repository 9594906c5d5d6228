/-
  What the statements share: an item that came in, and the end of a law. Conditions: none.
-/
import Derived.Test.YtpmepnejjjlodaaOpen
import Derived.Test.YtpmepnejjjlodaaRows
namespace Go.Proofs.Ytpmepnejjjlodaa
open Go.ChangeShapes Go.WideShapes Go.ChangeAt Go.RowKit Go.ChangeMaps
open Plain
set_option linter.unusedVariables false

theorem own : ownKnob Try.checked.prog.godebug = none := by kernel_rfl

theorem post_law {H : Type} {enc : TypeId × Value → H} {P : Program} {f : Func} {s : ChangeSpec} {W W' : World} {args : Array Value} {v : Value} {ds gs : List (DataW H)} {before pa pv : List MemPlace}
    (hW : DataW.Whole enc P f.params.toList s.vars false W args.toList ds gs before) (hb : Below W.heap.size W W')
    (hr : DataW.TrodAll enc P W' W.heap.size (fun _ => false) false f.resultTypes.toList (v.resultList f.resultTypes.size) (s.fn H (ds ++ gs)).results [])
    (ha : DataW.TrodAll enc P W' 0 (fun b => decide (b < W.heap.size)) true f.params.toList args.toList (s.fn H (ds ++ gs)).args pa)
    (hv : DataW.TrodVars enc P W' (fun b => decide (b < W.heap.size)) s.vars (s.fn H (ds ++ gs)).vars pv) :
    s.post enc P f false true false false W args v W' :=
  ⟨ds, gs, before, [], pa, pv, hW, hr, ha, hv, hb.frame _, fun h => nomatch h⟩

set_option maxRecDepth 1000000 in
theorem Try.laidOut : laidOutB Try.prog = true := by kernel_rfl

set_option maxRecDepth 100000 in
theorem open_arg {H : Type} {enc : TypeId × Value → H} {W : World} {base : Nat} {v : Value} {d : DataW H} {p : List MemPlace} (hv : Value.okWide Try.prog W .any base 25 v)
    (h : DataW.Trod enc Try.prog W 0 (fun _ => true) true 25 v d p) (hw : ∀ n ∈ d.weights Try.prog 25, n ≤ reachBytes) : ∃ it, Lies W W.heap.size it v := by
  obtain ⟨cs, rfl, hsz⟩ := okWide_struct Try.underlying25 hv
  obtain ⟨fuel, hf⟩ := h
  obtain ⟨it, A, cap, hc, hl⟩ := open_item fuel _ _ hf hw
  refine ⟨it, ?_⟩
  have hcs : cs.toList = cellsIt it (.slice A it.l.length cap) := by simpa [Value.cells] using hc
  have : cs = #[.int .i64 it.kind, .int .u64 it.n, .string it.s, .slice A it.l.length cap, .bool it.opn] := by
    rw [← Array.toList_inj, hcs]
    rfl
  rw [this]
  exact hl

end Go.Proofs.Ytpmepnejjjlodaa
