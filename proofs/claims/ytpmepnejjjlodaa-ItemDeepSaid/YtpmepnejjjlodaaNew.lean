/-
  Items that a call has made: in which blocks they lie, and what stays of them. Conditions: none.
-/
import Derived.Test.YtpmepnejjjlodaaAwake
import Derived.Test.YtpmepnejjjlodaaPure
import Derived.Test.YtpmepnejjjlodaaK
import Derived.Deep.AppendLies
namespace Go.Proofs.Ytpmepnejjjlodaa
open Go.ChangeShapes Go.WideShapes Go.ChangeAt Go.RowKit
open Plain
set_option linter.unusedVariables false

/-- An item lies in blocks of which Q holds. -/
inductive LiesIn (w : World) (Q : Nat → Prop) : It → Value → Prop where
  | mk (x : It) (A : Option Addr) (cap : Nat) (sl : Nat → Value) (hf : Fits x)
      (he : ∀ i y, x.l[i]? = some y → ∃ b off, A = some ⟨b, off, none⟩ ∧ Q b ∧ At5 w b (off + i * 5) y (sl i))
      (hr : ∀ i y, x.l[i]? = some y → LiesIn w Q y (itV y (sl i))) : LiesIn w Q x (itV x (.slice A x.l.length cap))

theorem At5.same {w w' : World} {b off : Nat} {x : It} {sl : Value} (h : At5 w b off x sl) (hb : w'.heap[b]? = w.heap[b]?) : At5 w' b off x sl := by
  have e : ∀ o, w'.cell? ⟨b, o, none⟩ = w.cell? ⟨b, o, none⟩ := fun o => World.cell?_of_block (w := w) (a := ⟨b, o, none⟩) hb
  exact ⟨(e _).trans h.c0, (e _).trans h.c1, (e _).trans h.c2, (e _).trans h.c3, (e _).trans h.c4⟩

theorem LiesIn.keep {w w' : World} {Q Q' : Nat → Prop} {x : It} {v : Value} (h : LiesIn w Q x v) (hb : ∀ k, Q k → w'.heap[k]? = w.heap[k]? ∧ Q' k) : LiesIn w' Q' x v := by
  induction h with
  | mk x A cap sl hf he hr ih =>
    refine .mk x A cap sl hf ?_ ih
    intro i y hy
    obtain ⟨b, off, hA, hQ, h5⟩ := he i y hy
    exact ⟨b, off, hA, (hb b hQ).2, h5.same (hb b hQ).1⟩

theorem LiesIn.lies {w : World} {Q : Nat → Prop} {B : Nat} {x : It} {v : Value} (h : LiesIn w Q x v) (hB : ∀ k, Q k → k < B) : Lies w B x v := by
  induction h with
  | mk x A cap sl hf he hr ih =>
    refine .mk x A cap sl hf ?_ ih
    intro i y hy
    obtain ⟨b, off, hA, hQ, h5⟩ := he i y hy
    exact ⟨b, off, hA, hB b hQ, h5⟩

/-- New between two worlds. -/
def News (w w' : World) (k : Nat) : Prop := w.heap.size ≤ k ∧ k < w'.heap.size

theorem liesIn_leaf (w : World) (Q : Nat → Prop) (k : Int) (n : Nat) (s : ByteArray) (o : Bool) (hk : -9223372036854775808 ≤ k ∧ k ≤ 9223372036854775807) (hn : n ≤ 18446744073709551615) (hs : s.size ≤ 140737488355328) :
    LiesIn w Q (.mk k n s [] o) (itV (.mk k n s [] o) (.slice none 0 0)) :=
  .mk (.mk k n s [] o) none 0 (fun _ => .slice none 0 0) ⟨hk.1, hk.2, hn, hs, by simp [It.l]⟩ (fun i y h => by simp [It.l] at h) (fun i y h => by simp [It.l] at h)

theorem Only.block_ne {b : Nat} {w w' : World} (h : Only b w w') {k : Nat} (hk : k < w.heap.size) (hne : k ≠ b) : w'.heap[k]? = w.heap[k]? := h.block k hk hne

theorem Only.grown {b : Nat} {w w' : World} (h : Only b w w') : w.grownBy w' (some b) := ⟨h.os, h.tape, h.output, h.size, fun k hk hne => h.block k hk (fun e => hne (by rw [e]))⟩

/-- The cells of a list of items. -/
def rowCells : List (It × Value) → List Value
  | [] => []
  | p :: r => .int .i64 p.1.kind :: .int .u64 p.1.n :: .string p.1.s :: p.2 :: .bool p.1.opn :: rowCells r

theorem rowCells_append (a b : List (It × Value)) : rowCells (a ++ b) = rowCells a ++ rowCells b := by
  induction a with
  | nil => rfl
  | cons p r ih => simp [rowCells, ih]

theorem rowCells_len (l : List (It × Value)) : (rowCells l).length = l.length * 5 := by
  induction l with
  | nil => rfl
  | cons p r ih => simp [rowCells, ih]; omega

theorem rowCells_at : ∀ (l : List (It × Value)) (i : Nat) (p : It × Value), l[i]? = some p →
    (rowCells l)[i * 5]? = some (.int .i64 p.1.kind) ∧ (rowCells l)[i * 5 + 1]? = some (.int .u64 p.1.n) ∧ (rowCells l)[i * 5 + 2]? = some (.string p.1.s) ∧ (rowCells l)[i * 5 + 3]? = some p.2 ∧ (rowCells l)[i * 5 + 4]? = some (.bool p.1.opn)
  | [], i, p, h => by simp at h
  | q :: r, 0, p, h => by
    simp at h
    subst h
    simp [rowCells]
  | q :: r, i + 1, p, h => by
    have := rowCells_at r i p (by simpa using h)
    have e : ∀ j, (rowCells (q :: r))[(i + 1) * 5 + j]? = (rowCells r)[i * 5 + j]? := by
      intro j
      rw [show (i + 1) * 5 + j = (i * 5 + j) + 5 by omega]
      simp [rowCells]
    exact ⟨(e 0).trans this.1, (e 1).trans this.2.1, (e 2).trans this.2.2.1, (e 3).trans this.2.2.2.1, (e 4).trans this.2.2.2.2⟩

/-- A list of items that a call is making: its row, and its items, in other new blocks. -/
structure Making (w : World) (l : List (It × Value)) (v : Value) (wr : World) : Prop where
  row : wr.ownsRow w.heap.size 25 5 v l.length (rowCells l)
  each : ∀ p ∈ l, LiesIn wr (fun k => News w wr k ∧ v.ownBlock ≠ some k) p.1 (itV p.1 p.2)

theorem Making.nil (w wr : World) : Making w [] (.slice none 0 0) wr := ⟨World.ownsRow_nil _ _ _ _, fun p hp => by cases hp⟩

/-- Behind a call that changes the reader alone. -/
theorem Making.only {w : World} {l : List (It × Value)} {v : Value} {wr w' : World} {b : Nat} (h : Making w l v wr) (ho : Only b wr w') (hb : b < w.heap.size) : Making w l v w' := by
  refine ⟨h.row.kept ho.grown ?_, fun p hp => (h.each p hp).keep ?_⟩
  · rcases hv : v.ownBlock with _ | k
    · exact .inl rfl
    · right
      have := (h.row.lt k hv).1
      intro e
      simp at e
      omega
  · rintro k ⟨⟨h1, h2⟩, h3⟩
    exact ⟨ho.block k h2 (by omega), ⟨h1, Nat.lt_of_lt_of_le h2 ho.size⟩, h3⟩

/-- The list that is made. -/
theorem Making.lies {w : World} {l : List (It × Value)} {v : Value} {wr : World} (h : Making w l v wr) (o : Bool) (hlen : l.length ≤ 1000) :
    LiesIn wr (News w wr) (.mk 4 0 ⟨#[]⟩ (l.map (·.1)) o) (.agg #[.int .i64 4, .int .u64 0, .string ⟨#[]⟩, v, .bool o]) := by
  have hfit : Fits (.mk 4 0 ⟨#[]⟩ (l.map (·.1)) o) := ⟨by simp only [It.kind]; decide, by simp only [It.kind]; decide, by simp only [It.n]; decide, by simp only [It.s]; decide, by simp only [It.l, List.length_map]; omega⟩
  have hr : ∀ (i : Nat) (y : It), (l.map (fun p : It × Value => p.1))[i]? = some y → LiesIn wr (News w wr) y (itV y (((l[i]?).map (fun p : It × Value => p.2)).getD (.bool false))) := by
    intro i y hi
    simp only [List.getElem?_map, Option.map_eq_some_iff] at hi
    obtain ⟨q, hq, rfl⟩ := hi
    have := (h.each q (List.mem_of_getElem? hq)).keep (w' := wr) (Q' := News w wr) (fun k hk => ⟨rfl, hk.1⟩)
    simpa [hq] using this
  rcases h.row.2 with ⟨rfl, h0⟩ | ⟨g, cap, cur, rfl, hbg, hg, hnc, hcm, hcs, htake⟩
  · obtain rfl : l = [] := List.eq_nil_of_length_eq_zero h0
    exact .mk (.mk 4 0 ⟨#[]⟩ [] o) none 0 (fun _ => .slice none 0 0) hfit (fun i y h => by simp [It.l] at h) (fun i y h => by simp [It.l] at h)
  · have hll : (l.map (·.1)).length = l.length := by simp
    have hglt : g < wr.heap.size := lt_of_some hg
    have key := LiesIn.mk (w := wr) (Q := News w wr) (.mk 4 0 ⟨#[]⟩ (l.map (fun p : It × Value => p.1)) o) (some ⟨g, 0, none⟩) cap (fun i => ((l[i]?).map (fun p : It × Value => p.2)).getD (.bool false)) hfit ?_ hr
    · simp only [itV, It.kind, It.n, It.s, It.l, It.opn, hll] at key
      exact key
    · intro i y hi
      simp only [It.l, List.getElem?_map, Option.map_eq_some_iff] at hi
      obtain ⟨q, hq, rfl⟩ := hi
      refine ⟨g, 0, rfl, ⟨hbg, hglt⟩, ?_⟩
      obtain ⟨e0, e1, e2, e3, e4⟩ := rowCells_at l i q hq
      have hc : ∀ (j : Nat) (u : Value), (rowCells l)[j]? = some u → wr.cell? ⟨g, 0 + j, none⟩ = some u := by
        intro j u hu
        rw [Nat.zero_add, cell_of_row wr g j _ _ _ hg]
        rw [← htake, List.getElem?_take] at hu
        split at hu
        · simpa using hu
        · cases hu
      simp only [hq, Option.map_some, Option.getD_some]
      exact ⟨hc _ _ e0, hc _ _ e1, hc _ _ e2, hc _ _ e3, hc _ _ e4⟩

end Go.Proofs.Ytpmepnejjjlodaa
