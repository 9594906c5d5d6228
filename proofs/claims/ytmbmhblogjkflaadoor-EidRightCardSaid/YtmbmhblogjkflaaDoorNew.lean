/-
  Items that a call has made: in which blocks they lie, and what stays of them. Conditions: none.
-/
import Derived.Test.YtmbmhblogjkflaaDoorPure
namespace Go.Proofs.YtmbmhblogjkflaaDoor
open Go.ChangeShapes Go.WideShapes Go.ChangeAt Go.RowKit
open Plain
set_option linter.unusedVariables false

/-- An item lies in blocks of which Q holds. -/
inductive LiesIn (w : World) (Q : Nat → Prop) : It → Value → Prop where
  | mk (x : It) (A : Option Addr) (cap : Nat) (sl : Nat → Value) (hf : Fits x)
      (he : ∀ i y, x.l[i]? = some y → ∃ b off, A = some ⟨b, off, none⟩ ∧ Q b ∧ At5 w b (off + i * 5) y (sl i))
      (hr : ∀ i y, x.l[i]? = some y → LiesIn w Q y (itV y (sl i))) : LiesIn w Q x (itV x (.slice A x.l.length cap))

theorem At5.same {w w' : World} {b off : Nat} {x : It} {sl : Value} (h : At5 w b off x sl) (hb : w'.heap[b]? = w.heap[b]?) : At5 w' b off x sl := by
  have e : ∀ o, w'.cell? ⟨b, o, none⟩ = w.cell? ⟨b, o, none⟩ := fun o => World.cell?_of_block (w := w) (a := ⟨b, o, none⟩) hb
  exact ⟨(e _).trans h.c0, (e _).trans h.c1, (e _).trans h.c2, (e _).trans h.c3, (e _).trans h.c4⟩

theorem LiesIn.keep {w w' : World} {Q Q' : Nat → Prop} {x : It} {v : Value} (h : LiesIn w Q x v) (hb : ∀ k, Q k → w'.heap[k]? = w.heap[k]? ∧ Q' k) : LiesIn w' Q' x v := by
  induction h with
  | mk x A cap sl hf he hr ih =>
    refine .mk x A cap sl hf ?_ ih
    intro i y hy
    obtain ⟨b, off, hA, hQ, h5⟩ := he i y hy
    exact ⟨b, off, hA, (hb b hQ).2, h5.same (hb b hQ).1⟩

theorem LiesIn.lies {w : World} {Q : Nat → Prop} {B : Nat} {x : It} {v : Value} (h : LiesIn w Q x v) (hB : ∀ k, Q k → k < B) : Lies w B x v := by
  induction h with
  | mk x A cap sl hf he hr ih =>
    refine .mk x A cap sl hf ?_ ih
    intro i y hy
    obtain ⟨b, off, hA, hQ, h5⟩ := he i y hy
    exact ⟨b, off, hA, hB b hQ, h5⟩

/-- New between two worlds. -/
def News (w w' : World) (k : Nat) : Prop := w.heap.size ≤ k ∧ k < w'.heap.size

theorem liesIn_leaf (w : World) (Q : Nat → Prop) (k : Int) (n : Nat) (s : ByteArray) (o : Bool) (hk : -9223372036854775808 ≤ k ∧ k ≤ 9223372036854775807) (hn : n ≤ 18446744073709551615) (hs : s.size ≤ 140737488355328) :
    LiesIn w Q (.mk k n s [] o) (itV (.mk k n s [] o) (.slice none 0 0)) :=
  .mk (.mk k n s [] o) none 0 (fun _ => .slice none 0 0) ⟨hk.1, hk.2, hn, hs, by simp [It.l]⟩ (fun i y h => by simp [It.l] at h) (fun i y h => by simp [It.l] at h)

end Go.Proofs.YtmbmhblogjkflaaDoor
