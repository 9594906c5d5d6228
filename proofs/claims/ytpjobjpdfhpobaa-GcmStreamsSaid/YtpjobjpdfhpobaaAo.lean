/-
  Arguments that are a struct of four texts: opened and shut. Conditions: none.
-/
import Derived.Test.YtpjobjpdfhpobaaAn
import Derived.Lib.SmallJoins
namespace Go.Proofs.Ytpjobjpdfhpobaa
namespace Gcm
open Go.ChangeShapes Go.WideShapes Go.ChangeAt Go.RowKit Go.ChangeMaps Go.Joins Go.Deep
set_option linter.unusedVariables false

/-- Four texts as data. -/
def litF {H : Type} (a b c d : ByteArray) : DataW H := .agg [.lit (.string a.data.toList), .lit (.string b.data.toList), .lit (.string c.data.toList), .lit (.string d.data.toList)]

theorem open_four {H : Type} {enc : TypeId × Value → H} {P : Program} {w : World} {r : Reach} {b0 base : Nat} {spare : Nat → Bool} {held : Bool} {t : TypeId} {f0 f1 f2 f3 : Field} {v : Value} {d : DataW H} {p : List MemPlace}
    (hs : P.underlying t = some (.struct #[f0, f1, f2, f3])) (hone : oneCellFields P #[f0, f1, f2, f3] = true) (hC : P.cellsOf t = 4)
    (h0 : P.underlying f0.type = some .string) (h1 : P.underlying f1.type = some .string) (h2 : P.underlying f2.type = some .string) (h3 : P.underlying f3.type = some .string)
    (hv : Value.okWide P w r b0 t v) (h : DataW.Trod enc P w base spare held t v d p) :
    ∃ a b c e : ByteArray, v = .agg #[.string a, .string b, .string c, .string e] ∧ d = litF a b c e ∧ p = [] ∧ a.size ≤ maxLen ∧ b.size ≤ maxLen ∧ c.size ≤ maxLen ∧ e.size ≤ maxLen := by
  obtain ⟨v0, v1, v2, v3, y0, y1, y2, y3, n, rfl, rfl, rfl, k0, k1, k2, k3⟩ := open_agg4 hs hone hC hv h
  obtain ⟨a, ea, xa, sa⟩ := DataW.trod_string h0 k0
  obtain ⟨b, eb, xb, sb⟩ := DataW.trod_string h1 k1
  obtain ⟨c, ec, xc, sc⟩ := DataW.trod_string h2 k2
  obtain ⟨e, ee, xe, se⟩ := DataW.trod_string h3 k3
  obtain rfl : v0 = .string a := by simpa using ea
  obtain rfl : v1 = .string b := by simpa using eb
  obtain rfl : v2 = .string c := by simpa using ec
  obtain rfl : v3 = .string e := by simpa using ee
  subst xa xb xc xe
  exact ⟨a, b, c, e, rfl, rfl, rfl, sa, sb, sc, se⟩

theorem shut_four {H : Type} {enc : TypeId × Value → H} {P : Program} {w : World} {base : Nat} {spare : Nat → Bool} {held : Bool} {t : TypeId} {f0 f1 f2 f3 : Field} {a b c e : ByteArray}
    (hs : P.underlying t = some (.struct #[f0, f1, f2, f3])) (hone : oneCellFields P #[f0, f1, f2, f3] = true) (hC : P.cellsOf t = 4)
    (h0 : P.underlying f0.type = some .string) (h1 : P.underlying f1.type = some .string) (h2 : P.underlying f2.type = some .string) (h3 : P.underlying f3.type = some .string)
    (sa : a.size ≤ maxLen) (sb : b.size ≤ maxLen) (sc : c.size ≤ maxLen) (se : e.size ≤ maxLen) :
    DataW.Trod enc P w base spare held t (.agg #[.string a, .string b, .string c, .string e]) (litF a b c e) [] :=
  shut_agg4 hs hone hC (field_of_Trod (shut_string h0 sa) rfl) (field_of_Trod (shut_string h1 sb) rfl) (field_of_Trod (shut_string h2 sc) rfl) (field_of_Trod (shut_string h3 se) rfl)

end Gcm
end Go.Proofs.Ytpjobjpdfhpobaa
