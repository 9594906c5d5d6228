/-
  Arguments that are two integers in an array: opened and shut. Conditions: none.
-/
import Derived.Test.YtfahmbkeibeceaaDoorKon
import Derived.OpenShut
import Derived.ChangeMaps5
namespace Go.Proofs.YtfahmbkeibeceaaDoor
open Go.ChangeShapes Go.WideShapes Go.ChangeAt Go.RowKit Go.ChangeMaps
set_option linter.unusedVariables false

theorem okWide_array {P : Program} {w : World} {r : Reach} {base n : Nat} {t e : TypeId} {v : Value} (ht : P.underlying t = some (.array n e)) (h : Value.okWide P w r base t v) : ∃ cs, v = .agg cs ∧ cs.size = P.cellsOf t := by
  simp only [Value.okWide, ht] at h
  obtain ⟨cs, h1, h2, _⟩ := h
  exact ⟨cs, h1, h2⟩

theorem open_two {H : Type} {enc : TypeId × Value → H} {P : Program} {w : World} {r : Reach} {b0 base : Nat} {spare : Nat → Bool} {held : Bool} {t e : TypeId} {k : IntKind} {v : Value} {d : DataW H} {p : List MemPlace}
    (ht : P.underlying t = some (.array 2 e)) (he : P.underlying e = some (.int k)) (hce : P.cellsOf e = 1) (hct : P.cellsOf t = 2)
    (hv : Value.okWide P w r b0 t v) (h : DataW.Trod enc P w base spare held t v d p) :
    ∃ a b : Int, v = .agg #[.int k a, .int k b] ∧ d = .agg [.lit (.int k a), .lit (.int k b)] ∧ p = [] ∧ (Lit.int k a).wf = true ∧ (Lit.int k b).wf = true := by
  obtain ⟨cs, rfl, hsz⟩ := okWide_array ht hv
  rw [hct] at hsz
  obtain ⟨c0, c1, rfl⟩ : ∃ c0 c1, cs = #[c0, c1] := by
    obtain ⟨l⟩ := cs
    match l, hsz with
    | [a, b], _ => exact ⟨a, b, rfl⟩
  obtain ⟨fuel, hf⟩ := h
  obtain ⟨xs, m, rfl, hx, -, hn, hel⟩ := DataW.trod_array ht hf
  rw [hce] at hel
  match xs, hn with
  | [x0, x1], _ =>
    have h0 : DataW.trod enc P w base spare held m e [c0] = some x0 := hel 0 (by decide)
    have h1 : DataW.trod enc P w base spare held m e [c1] = some x1 := hel 1 (by decide)
    obtain ⟨a, e0, rfl, w0⟩ := DataW.trod_int he h0
    obtain ⟨b, e1, rfl, w1⟩ := DataW.trod_int he h1
    obtain rfl : c0 = .int k a := by simpa using e0
    obtain rfl : c1 = .int k b := by simpa using e1
    simp only [Prod.mk.injEq] at hx
    exact ⟨a, b, rfl, hx.1, hx.2, w0, w1⟩

theorem shut_two {H : Type} {enc : TypeId × Value → H} {P : Program} {w : World} {base : Nat} {spare : Nat → Bool} {held : Bool} {t e : TypeId} {k : IntKind} {a b : Int}
    (ht : P.underlying t = some (.array 2 e)) (he : P.underlying e = some (.int k)) (hce : P.cellsOf e = 1) (hct : P.cellsOf t = 2) (wa : (Lit.int k a).wf = true) (wb : (Lit.int k b).wf = true) :
    DataW.Trod enc P w base spare held t (.agg #[.int k a, .int k b]) (.agg [.lit (.int k a), .lit (.int k b)]) [] := by
  obtain ⟨n0, t0⟩ := shut_int (enc := enc) (w := w) (base := base) (spare := spare) (held := held) he wa
  obtain ⟨n1, t1⟩ := shut_int (enc := enc) (w := w) (base := base) (spare := spare) (held := held) he wb
  have t0' : DataW.trod enc P w base spare held (max n0 n1) e [.int k a] = some (.lit (.int k a), []) := DataW.trod_le (Nat.le_max_left n0 n1) t0
  have t1' : DataW.trod enc P w base spare held (max n0 n1) e [.int k b] = some (.lit (.int k b), []) := DataW.trod_le (Nat.le_max_right n0 n1) t1
  refine ⟨max n0 n1 + 1, ?_⟩
  show DataW.trod enc P w base spare held (max n0 n1 + 1) t [.int k a, .int k b] = _
  unfold DataW.trod
  rw [ht]
  simp [hct, hce, show List.range 2 = [0, 1] from rfl, t0', t1']

end Go.Proofs.YtfahmbkeibeceaaDoor
