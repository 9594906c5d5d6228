/-
  Items as plain data (It), how one lies in memory (Lies), and what stays of it. Conditions: none.
-/
import Derived.Test.YtmbmhblogjkflaaDoorB
namespace Go.Proofs.YtmbmhblogjkflaaDoor
open Go.ChangeShapes Go.WideShapes Go.ChangeAt Go.RowKit
open Plain
set_option linter.unusedVariables false

/-- An item. -/
inductive It where
  | mk (kind : Int) (n : Nat) (s : ByteArray) (l : List It) (opn : Bool)

namespace It
def kind : It → Int | .mk k _ _ _ _ => k
def n : It → Nat | .mk _ n _ _ _ => n
def s : It → ByteArray | .mk _ _ s _ _ => s
def l : It → List It | .mk _ _ _ l _ => l
def opn : It → Bool | .mk _ _ _ _ o => o

theorem ind {P : It → Prop} (h : ∀ k n s l o, (∀ x ∈ l, P x) → P (.mk k n s l o)) : ∀ x, P x := by
  intro x
  refine It.rec (motive_1 := P) (motive_2 := fun l => ∀ x ∈ l, P x) ?_ ?_ ?_ x
  · intro k n s l o ih
    exact h k n s l o ih
  · intro x hx
    cases hx
  · intro x r hx hr y hy
    rcases List.mem_cons.1 hy with rfl | h'
    · exact hx
    · exact hr y h'
end It

/-- An item's value; sl: its slice. -/
def itV (x : It) (sl : Value) : Value := .agg #[.int .i64 x.kind, .int .u64 x.n, .string x.s, sl, .bool x.opn]

/-- The cells of an item at a place. -/
structure At5 (w : World) (b off : Nat) (x : It) (sl : Value) : Prop where
  c0 : w.cell? ⟨b, off, none⟩ = some (.int .i64 x.kind)
  c1 : w.cell? ⟨b, off + 1, none⟩ = some (.int .u64 x.n)
  c2 : w.cell? ⟨b, off + 2, none⟩ = some (.string x.s)
  c3 : w.cell? ⟨b, off + 3, none⟩ = some sl
  c4 : w.cell? ⟨b, off + 4, none⟩ = some (.bool x.opn)

structure Fits (x : It) : Prop where
  k1 : -9223372036854775808 ≤ x.kind
  k2 : x.kind ≤ 9223372036854775807
  n : x.n ≤ 18446744073709551615
  s : x.s.size ≤ 140737488355328
  l : x.l.length ≤ 140737488355328

/-- An item lies in memory, in blocks below B. -/
inductive Lies (w : World) (B : Nat) : It → Value → Prop where
  | mk (x : It) (A : Option Addr) (cap : Nat) (sl : Nat → Value) (hf : Fits x)
      (he : ∀ i y, x.l[i]? = some y → ∃ b off, A = some ⟨b, off, none⟩ ∧ b < B ∧ At5 w b (off + i * 5) y (sl i))
      (hr : ∀ i y, x.l[i]? = some y → Lies w B y (itV y (sl i))) : Lies w B x (itV x (.slice A x.l.length cap))

theorem At5.below {w w' : World} {B b off : Nat} {x : It} {sl : Value} (h : At5 w b off x sl) (hb : Below B w w') (hB : b < B) : At5 w' b off x sl :=
  ⟨(hb.cell (p := ⟨b, off, none⟩) hB).trans h.c0, (hb.cell (p := ⟨b, off + 1, none⟩) hB).trans h.c1, (hb.cell (p := ⟨b, off + 2, none⟩) hB).trans h.c2, (hb.cell (p := ⟨b, off + 3, none⟩) hB).trans h.c3, (hb.cell (p := ⟨b, off + 4, none⟩) hB).trans h.c4⟩

theorem Lies.keep {w w' : World} {B : Nat} {x : It} {v : Value} (h : Lies w B x v) (hb : Below B w w') : Lies w' B x v := by
  induction h with
  | mk x A cap sl hf he hr ih =>
    refine .mk x A cap sl hf ?_ ih
    intro i y hy
    obtain ⟨b, off, hA, hB, h5⟩ := he i y hy
    exact ⟨b, off, hA, hB, h5.below hb hB⟩

theorem Lies.mono {w : World} {B B' : Nat} {x : It} {v : Value} (h : Lies w B x v) (hB : B ≤ B') : Lies w B' x v := by
  induction h with
  | mk x A cap sl hf he hr ih =>
    refine .mk x A cap sl hf ?_ ih
    intro i y hy
    obtain ⟨b, off, hA, hb, h5⟩ := he i y hy
    exact ⟨b, off, hA, by omega, h5⟩

theorem Lies.fits {w : World} {B : Nat} {x : It} {v : Value} (h : Lies w B x v) : Fits x := by
  cases h with
  | mk x A cap sl hf he hr => exact hf

/-- What a walk wants of an item in memory. -/
theorem Lies.out {w : World} {B : Nat} {x : It} {v : Value} (h : Lies w B x v) : ∃ A cap, v = itV x (.slice A x.l.length cap) ∧ Fits x ∧
    ∀ i y, x.l[i]? = some y → ∃ b off sl, A = some ⟨b, off, none⟩ ∧ b < B ∧ At5 w b (off + i * 5) y sl ∧ Lies w B y (itV y sl) := by
  cases h with
  | mk x A cap sl hf he hr =>
    refine ⟨A, cap, rfl, hf, fun i y hy => ?_⟩
    obtain ⟨b, off, hA, hb, h5⟩ := he i y hy
    exact ⟨b, off, sl i, hA, hb, h5, hr i y hy⟩

theorem Lies.slice {w : World} {B : Nat} {y : It} {sl : Value} (h : Lies w B y (itV y sl)) : ∃ A cap, sl = .slice A y.l.length cap := by
  obtain ⟨A, cap, hv, _⟩ := h.out
  simp only [itV, Value.agg.injEq, Array.mk.injEq, List.cons.injEq, true_and, and_true] at hv
  exact ⟨A, cap, hv⟩

theorem Lies.fits_all {w : World} {B : Nat} : ∀ {x : It} {v : Value}, Lies w B x v → ∀ y ∈ x.l, Fits y := by
  intro x v h y hy
  obtain ⟨A, cap, _, _, he⟩ := h.out
  obtain ⟨i, hi, rfl⟩ := List.getElem_of_mem hy
  obtain ⟨b, off, sl, _, _, _, hh⟩ := he i _ (List.getElem?_eq_getElem hi)
  exact hh.fits

end Go.Proofs.YtmbmhblogjkflaaDoor
