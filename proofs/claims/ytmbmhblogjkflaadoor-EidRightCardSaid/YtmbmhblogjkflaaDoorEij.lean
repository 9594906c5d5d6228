/-
  Contract of dromondref10.Few; arguments that are names or patterns: opened and shut. Conditions: none.
-/
import Derived.Test.YtmbmhblogjkflaaDoorEif
import Derived.Lib.SmallJoins
import Derived.ChangeMaps5
namespace Go.Proofs.YtmbmhblogjkflaaDoor
namespace Eid
open Go.ChangeShapes Go.WideShapes Go.ChangeAt Go.RowKit Go.ChangeMaps Go.Joins Go.Deep
set_option linter.unusedVariables false
set_option maxRecDepth 100000

theorem rfew (e : Nm) (w : World) : Calls Tryd.prog 7 #[eV e] w fun r w' => r = .returned (.bool (decide (e.name.size ≤ 100))) ∧ Below w.heap.size w w' := by
  obtain ⟨s, nm, nd, sv⟩ := e
  simp only [eV]
  by_cases h : nm.size ≤ 100
  · have q : decide ((nm.size : Int) ≤ 100) = true := by simp; omega
    have hb : decide (nm.size ≤ 100) = true := decide_eq_true h
    have HB := Lib.hid hb; clear hb h
    go_enter Tryd.func7, Tryd.ntmps7
    go_wp2
    go_ret
    exact ⟨by rw [HB.out]; rfl, (Below.refl _ _).alloc (Nat.le_refl _) _⟩
  · have q : decide ((nm.size : Int) ≤ 100) = false := by simp; omega
    have hb : decide (nm.size ≤ 100) = false := decide_eq_false h
    have HB := Lib.hid hb; clear hb h
    go_enter Tryd.func7, Tryd.ntmps7
    go_wp2
    go_ret
    exact ⟨by rw [HB.out]; rfl, (Below.refl _ _).alloc (Nat.le_refl _) _⟩

/-- What a name's parts are. -/
structure EFit (e : Nm) : Prop where
  k : (Lit.int .i64 e.scheme).wf = true
  n : (Lit.int .u64 (e.node : Nat)).wf = true
  s : (Lit.int .u64 (e.service : Nat)).wf = true
  l : e.name.size ≤ maxLen
def litE {H : Type} (e : Nm) : DataW H := .agg [.lit (.int .i64 e.scheme), .lit (.string e.name.data.toList), .lit (.int .u64 (e.node : Nat)), .lit (.int .u64 (e.service : Nat))]
theorem u64_nat {a : Int} (h : (Lit.int .u64 a).wf = true) : ∃ n : Nat, a = n ∧ n ≤ 18446744073709551615 := by
  have hx : 0 ≤ a ∧ a ≤ 18446744073709551615 := by simpa [Lit.wf, IntKind.min, IntKind.max, IntKind.signed, IntKind.bits] using h
  exact ⟨a.toNat, by omega, by omega⟩
theorem EFit.service {e : Nm} (h : EFit e) : e.service ≤ 18446744073709551615 := by
  obtain ⟨n, h1, h2⟩ := u64_nat h.s
  omega
theorem EFit.node {e : Nm} (h : EFit e) : e.node ≤ 18446744073709551615 := by
  obtain ⟨n, h1, h2⟩ := u64_nat h.n
  omega

theorem open_eid {H : Type} {enc : TypeId × Value → H} {P : Program} {w : World} {r : Reach} {b0 base : Nat} {spare : Nat → Bool} {held : Bool} {t : TypeId} {f0 f1 f2 f3 : Field} {v : Value} {d : DataW H} {p : List MemPlace}
    (hs : P.underlying t = some (.struct #[f0, f1, f2, f3])) (hone : oneCellFields P #[f0, f1, f2, f3] = true) (hC : P.cellsOf t = 4)
    (h0 : P.underlying f0.type = some (.int .i64)) (h1 : P.underlying f1.type = some .string) (h2 : P.underlying f2.type = some (.int .u64)) (h3 : P.underlying f3.type = some (.int .u64))
    (hv : Value.okWide P w r b0 t v) (h : DataW.Trod enc P w base spare held t v d p) :
    ∃ e : Nm, v = eV e ∧ d = litE e ∧ p = [] ∧ EFit e := by
  obtain ⟨v0, v1, v2, v3, y0, y1, y2, y3, n, rfl, rfl, rfl, k0, k1, k2, k3⟩ := open_agg4 hs hone hC hv h
  obtain ⟨a, ea, xa, sa⟩ := DataW.trod_int h0 k0
  obtain ⟨b, eb, xb, sb⟩ := DataW.trod_string h1 k1
  obtain ⟨c, ec, xc, sc⟩ := DataW.trod_int h2 k2
  obtain ⟨e, ee, xe, se⟩ := DataW.trod_int h3 k3
  obtain rfl : v0 = .int .i64 a := by simpa using ea
  obtain rfl : v1 = .string b := by simpa using eb
  obtain rfl : v2 = .int .u64 c := by simpa using ec
  obtain rfl : v3 = .int .u64 e := by simpa using ee
  obtain ⟨c, rfl, hc⟩ := u64_nat sc
  obtain ⟨e, rfl, he⟩ := u64_nat se
  subst xa xb xc xe
  exact ⟨⟨a, b, c, e⟩, rfl, rfl, rfl, ⟨sa, sc, se, sb⟩⟩

theorem shut_eid {H : Type} {enc : TypeId × Value → H} {P : Program} {w : World} {base : Nat} {spare : Nat → Bool} {held : Bool} {t : TypeId} {f0 f1 f2 f3 : Field} {e : Nm}
    (hs : P.underlying t = some (.struct #[f0, f1, f2, f3])) (hone : oneCellFields P #[f0, f1, f2, f3] = true) (hC : P.cellsOf t = 4)
    (h0 : P.underlying f0.type = some (.int .i64)) (h1 : P.underlying f1.type = some .string) (h2 : P.underlying f2.type = some (.int .u64)) (h3 : P.underlying f3.type = some (.int .u64))
    (hf : EFit e) : DataW.Trod enc P w base spare held t (eV e) (litE e) [] :=
  shut_agg4 hs hone hC (field_of_Trod (shut_int h0 hf.k) rfl) (field_of_Trod (shut_string h1 hf.l) rfl) (field_of_Trod (shut_int h2 hf.n) rfl) (field_of_Trod (shut_int h3 hf.s) rfl)
end Eid
end Go.Proofs.YtmbmhblogjkflaaDoor
