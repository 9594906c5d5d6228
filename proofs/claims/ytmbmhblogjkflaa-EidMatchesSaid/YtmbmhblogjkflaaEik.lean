/-
  Arguments that are patterns: opened and shut. Conditions: none.
-/
import Derived.Test.YtmbmhblogjkflaaEij
import Derived.Test.YtmbmhblogjkflaaEih
namespace Go.Proofs.Ytmbmhblogjkflaa
namespace Eid
open Go.ChangeShapes Go.WideShapes Go.ChangeAt Go.RowKit Go.ChangeMaps Go.Joins Go.Deep
set_option linter.unusedVariables false
set_option maxRecDepth 100000

theorem array5 {α : Type} {cs : Array α} (h : cs.size = 5) : ∃ c0 c1 c2 c3 c4, cs = #[c0, c1, c2, c3, c4] := by
  obtain ⟨l⟩ := cs
  match l, h with
  | [c0, c1, c2, c3, c4], _ => exact ⟨c0, c1, c2, c3, c4, rfl⟩

def litP {H : Type} (k : Int) (p : Nm) : DataW H := .agg [.lit (.int .i64 k), litE p]

theorem open_pat {H : Type} {enc : TypeId × Value → H} {w : World} {r : Reach} {b0 base : Nat} {spare : Nat → Bool} {held : Bool} {v : Value} {d : DataW H} {p : List MemPlace}
    (hv : Value.okWide Try.prog w r b0 40 v) (h : DataW.Trod enc Try.prog w base spare held 40 v d p) :
    ∃ (k : Int) (e : Nm), v = pV k e ∧ d = litP k e ∧ p = [] ∧ (Lit.int .i64 k).wf = true ∧ EFit e := by
  have hs := Try.underlying40
  obtain ⟨cs, rfl, hsz⟩ := okWide_struct hs hv
  obtain ⟨c0, c1, c2, c3, c4, rfl⟩ := array5 (hsz.trans (by kernel_rfl : Try.prog.cellsOf 40 = 5))
  obtain ⟨fuel, hf⟩ := h
  obtain ⟨y0, y1, n, hx, _, h0, h1⟩ := trod_struct2 hs hf
  have e4 : Try.prog.cellsOf 29 = 4 := by kernel_rfl
  have e1 : Try.prog.cellsOf 3 = 1 := by kernel_rfl
  have es : Try.prog.cellsOf 9 = 1 := by kernel_rfl
  have eu : Try.prog.cellsOf 22 = 1 := by kernel_rfl
  simp only [e4, e1, Value.cells, List.drop_zero, List.take_succ_cons, List.take_zero, List.drop_succ_cons] at h0 h1
  obtain ⟨a, ea, xa, sa⟩ := DataW.trod_int Try.underlying3 h0
  obtain ⟨z0, z1, z2, z3, m, hz, _, k0, k1, k2, k3⟩ := trod_struct4 Try.underlying29 h1
  simp only [e1, es, eu, List.drop_zero, List.take_succ_cons, List.take_zero, List.drop_succ_cons] at k0 k1 k2 k3
  obtain ⟨a0, ea0, xa0, sa0⟩ := DataW.trod_int Try.underlying3 k0
  obtain ⟨b, eb, xb, sb⟩ := DataW.trod_string Try.underlying9 k1
  obtain ⟨c, ec, xc, sc⟩ := DataW.trod_int Try.underlying22 k2
  obtain ⟨e, ee, xe, se⟩ := DataW.trod_int Try.underlying22 k3
  obtain rfl : c0 = .int .i64 a := by simpa using ea
  obtain rfl : c1 = .int .i64 a0 := by simpa using ea0
  obtain rfl : c2 = .string b := by simpa using eb
  obtain rfl : c3 = .int .u64 c := by simpa using ec
  obtain rfl : c4 = .int .u64 e := by simpa using ee
  obtain ⟨c, rfl, hc⟩ := u64_nat sc
  obtain ⟨e, rfl, he⟩ := u64_nat se
  subst xa xa0 xb xc xe hz
  simp only [Prod.mk.injEq] at hx
  exact ⟨a, ⟨a0, b, c, e⟩, rfl, hx.1, hx.2, sa, ⟨sa0, sc, se, sb⟩⟩

theorem shut_pat {H : Type} {enc : TypeId × Value → H} {w : World} {base : Nat} {spare : Nat → Bool} {held : Bool} {k : Int} {e : Nm} (hk : (Lit.int .i64 k).wf = true) (hf : EFit e) :
    DataW.Trod enc Try.prog w base spare held 40 (pV k e) (litP k e) [] := by
  have e5 : Try.prog.cellsOf 40 = 5 := by kernel_rfl
  have e4 : Try.prog.cellsOf 29 = 4 := by kernel_rfl
  have e1 : Try.prog.cellsOf 3 = 1 := by kernel_rfl
  have es : Try.prog.cellsOf 9 = 1 := by kernel_rfl
  have eu : Try.prog.cellsOf 22 = 1 := by kernel_rfl
  obtain ⟨n, hn⟩ := shut_eid (enc := enc) (w := w) (base := base) (spare := spare) (held := held) Try.underlying29 (by kernel_rfl) e4 Try.underlying3 Try.underlying9 Try.underlying22 Try.underlying22 hf
  obtain ⟨m, hm⟩ := shut_int (enc := enc) (w := w) (base := base) (spare := spare) (held := held) Try.underlying3 hk
  have ts := trod_struct2_mk (enc := enc) (w := w) (base := base) (spare := spare) (held := held) (n := max m n) (cs := [.int .i64 k, .int .i64 e.scheme, .string e.name, .int .u64 (e.node : Nat), .int .u64 (e.service : Nat)]) (y0 := (.lit (.int .i64 k), [])) (y1 := (litE e, [])) Try.underlying40 (by simp [e5])
    (by simpa [e1, Value.cells] using DataW.trod_le (Nat.le_max_left m n) hm) (by simpa [e4, Value.cells, eV] using DataW.trod_le (Nat.le_max_right m n) hn)
  exact ⟨_, by simpa [Value.cells, pV, litP] using ts⟩

/-- EidMatches: whatever the pattern and the name. -/
theorem few_size {e : Nm} (h : decide (e.name.size ≤ 100) = true) : e.name.size ≤ 1099511627776 := by
  have := of_decide_eq_true h; omega
end Eid
end Go.Proofs.Ytmbmhblogjkflaa
