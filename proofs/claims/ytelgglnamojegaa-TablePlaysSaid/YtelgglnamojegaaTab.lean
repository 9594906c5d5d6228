/-
  Tables in memory: what a table's two blocks hold, and what stays of them. Conditions: none.
-/
import Derived.Test.YtelgglnamojegaaRows
import Derived.WalkKit
import Derived.ProofKit
import Derived.OpenShut
import Derived.WalkSpells
import Derived.WalkLawsBesides
import Derived.Outline
import Derived.Lib.Hide
namespace Go.Proofs.Ytelgglnamojegaa
open Go.ChangeShapes Go.WideShapes Go.ChangeAt Go.RowKit
set_option linter.unusedVariables false

/-- Of the blocks that there were only those of S may have changed. -/
structure Chg (S : Nat → Prop) (w w' : World) : Prop where
  os : w'.os = w.os
  tape : w'.tape = w.tape
  output : w'.output = w.output
  size : w.heap.size ≤ w'.heap.size
  block : ∀ k, k < w.heap.size → ¬ S k → w'.heap[k]? = w.heap[k]?

section
variable {S S' : Nat → Prop} {w w' w'' : World}
theorem Chg.refl (S : Nat → Prop) (w : World) : Chg S w w := ⟨rfl, rfl, rfl, Nat.le_refl _, fun _ _ _ => rfl⟩
theorem Chg.trans (h : Chg S w w') (k : Chg S' w' w'') (hs : ∀ i, i < w.heap.size → S' i → S i) : Chg S w w'' :=
  ⟨k.os.trans h.os, k.tape.trans h.tape, k.output.trans h.output, Nat.le_trans h.size k.size, fun i hi hn => (k.block i (Nat.lt_of_lt_of_le hi h.size) (fun e => hn (hs i hi e))).trans (h.block i hi hn)⟩
theorem Chg.of_below (h : Below w.heap.size w w') : Chg S w w' := ⟨h.os, h.tape, h.output, h.size, fun i hi _ => h.block i hi⟩
theorem Chg.below {B : Nat} (h : Chg S w w') (hB : B ≤ w.heap.size) (hs : ∀ i, S i → B ≤ i) : Below B w w' :=
  ⟨h.os, h.tape, h.output, h.size, fun i hi => h.block i (by omega) (fun e => by have := hs i e; omega)⟩
theorem Chg.drew (h : Chg S w w') : Chg S w w'.drew := ⟨h.os, h.tape, h.output, h.size, h.block⟩
theorem Chg.alloc (h : Chg S w w') (o : Obj) : Chg S w (w'.alloc o) := h.trans (Chg.of_below (S := S) ((Below.refl _ _).alloc (Nat.le_refl _) o)) (fun _ _ e => e)
theorem Chg.set (h : Chg S w w') {b : Nat} (hb : b < w.heap.size → S b) (i : Nat) (u : Value) : Chg S w (w'.setCell ⟨b, i, none⟩ u) :=
  h.trans (S' := fun k => k = b) ⟨rfl, rfl, rfl, by simp [World.setCell], fun k hk hne => Below.heap_setCell _ _ _ _ hne⟩ (fun k hk e => by subst e; exact hb hk)
theorem Chg.mono (h : Chg S w w') (hs : ∀ i, i < w.heap.size → S i → S' i) : Chg S' w w' := ⟨h.os, h.tape, h.output, h.size, fun i hi hn => h.block i hi (fun e => hn (hs i hi e))⟩
end

theorem lt_of_block {w : World} {g : Nat} {o : Obj} (h : w.heap[g]? = some o) : g < w.heap.size := by
  rcases Nat.lt_or_ge g w.heap.size with h' | h'
  · exact h'
  · simp [Array.getElem?_eq_none h'] at h

theorem lt_of_cell {w : World} {a : Addr} {v : Value} (h : w.cell? a = some v) : a.block < w.heap.size := by
  rcases Nat.lt_or_ge a.block w.heap.size with h1 | h1
  · exact h1
  · simp [World.cell?, Array.getElem?_eq_none h1] at h

theorem text_inj {s t : ByteArray} (h : s.toList = t.toList) : s = t := by
  rw [ByteArray.toList_eq, ByteArray.toList_eq] at h
  exact ByteArray.ext (Array.toList_inj.1 h)

theorem box_cell (w : World) (v : Value) (t : TypeId) (cs : Array Value) (t' : TypeId) : ((w.alloc (.cells #[v] t)).alloc (.cells cs t')).cell? ⟨w.heap.size, 0, none⟩ = some v := by
  have h : ((w.alloc (.cells #[v] t)).alloc (.cells cs t')).heap[w.heap.size]? = some (.cells #[v] t (0, 0)) := by
    rw [Below.heap_alloc _ _ _ (by simp)]
    exact heap_alloc_new w _
  exact cell_of_row _ _ 0 _ _ _ h

theorem free_of_block {w : World} {g : Nat} {cs : Array Value} {t : TypeId} (h : w.heap[g]? = some (.cells cs t (0, 0))) (i : Nat) : w.frozen? ⟨g, i, none⟩ = false := by
  simp [World.frozen?, h]

/-- A block behind a store into it. -/
theorem set_block {w : World} {g i : Nat} {u : Value} {cs : Array Value} {t : TypeId} (h : w.heap[g]? = some (.cells cs t (0, 0))) : (w.setCell ⟨g, i, none⟩ u).heap[g]? = some (.cells (cs.setIfInBounds i u) t (0, 0)) := by
  simp [World.setCell, Array.getElem?_modify, h]

/-- An array with some places overwritten. -/
def overs (cs : Array Value) : Nat → List Value → Array Value
  | _, [] => cs
  | o, u :: r => overs (cs.setIfInBounds o u) (o + 1) r

theorem overs_size (us : List Value) : ∀ (cs : Array Value) (o : Nat), (overs cs o us).size = cs.size := by
  induction us with
  | nil => intro cs o; rfl
  | cons u r ih => intro cs o; simp [overs, ih]

theorem overs_list (us : List Value) : ∀ (cs : Array Value) (o : Nat), o + us.length ≤ cs.size → (overs cs o us).toList = cs.toList.take o ++ us ++ cs.toList.drop (o + us.length) := by
  induction us with
  | nil => intro cs o h; simp [overs]
  | cons u r ih =>
    intro cs o h
    simp only [List.length_cons] at h
    rw [overs, ih _ _ (by simp; omega)]
    simp only [Array.toList_setIfInBounds, List.length_cons]
    rw [List.take_set, List.drop_set_of_lt (by omega), List.take_succ_eq_append_getElem (by simp; omega), List.set_append_right _ _ (by simp; omega)]
    have e : o - (List.take o cs.toList).length = 0 := by simp; omega
    rw [e]
    simp [show o + 1 + r.length = o + (r.length + 1) by omega]

theorem setCells_block {g : Nat} {t : TypeId} (us : List Value) : ∀ (w : World) (o : Nat) (cs : Array Value), w.heap[g]? = some (.cells cs t (0, 0)) → (w.setCells g o us).heap[g]? = some (.cells (overs cs o us) t (0, 0)) := by
  induction us with
  | nil => intro w o cs h; exact h
  | cons u r ih => intro w o cs h; exact ih _ _ _ (set_block h)

theorem setCells_chg {g : Nat} (us : List Value) : ∀ (w : World) (o : Nat), Chg (fun k => k = g) w (w.setCells g o us) := by
  induction us with
  | nil => intro w o; exact Chg.refl _ _
  | cons u r ih => intro w o; exact ((Chg.refl (fun k => k = g) w).set (b := g) (fun _ => rfl) o u).trans (ih _ _) (fun _ _ e => e)

/-- The cells of entries. -/
def flat {α β : Type} (ek : α → Value) (ev : β → Value) : List (α × β) → List Value
  | [] => []
  | e :: r => ek e.1 :: ev e.2 :: flat ek ev r

section
variable {α β : Type} {ek : α → Value} {ev : β → Value}
theorem flat_length (es : List (α × β)) : (flat ek ev es).length = es.length * 2 := by
  induction es with
  | nil => rfl
  | cons e r ih => simp only [flat, List.length_cons, ih]; omega
theorem flat_append (es fs : List (α × β)) : flat ek ev (es ++ fs) = flat ek ev es ++ flat ek ev fs := by
  induction es with
  | nil => rfl
  | cons e r ih => simp [flat, ih]
theorem flat_key (es : List (α × β)) : ∀ (i : Nat) (e : α × β), es[i]? = some e → (flat ek ev es)[i * 2]? = some (ek e.1) := by
  induction es with
  | nil => intro i e h; simp at h
  | cons x r ih =>
    intro i e h
    match i, h with
    | 0, h => simp at h; subst h; rfl
    | i + 1, h => rw [show (i + 1) * 2 = i * 2 + 1 + 1 by omega]; simp only [flat, List.getElem?_cons_succ]; exact ih i e (by simpa using h)
theorem flat_val (es : List (α × β)) : ∀ (i : Nat) (e : α × β), es[i]? = some e → (flat ek ev es)[i * 2 + 1]? = some (ev e.2) := by
  induction es with
  | nil => intro i e h; simp at h
  | cons x r ih =>
    intro i e h
    match i, h with
    | 0, h => simp at h; subst h; rfl
    | i + 1, h => rw [show (i + 1) * 2 + 1 = i * 2 + 1 + 1 + 1 by omega]; simp only [flat, List.getElem?_cons_succ]; exact ih i e (by simpa using h)
theorem flat_take (es : List (α × β)) : ∀ i, flat ek ev (es.take i) = (flat ek ev es).take (i * 2) := by
  induction es with
  | nil => intro i; simp [flat]
  | cons x r ih =>
    intro i
    match i with
    | 0 => simp [flat]
    | i + 1 => rw [show (i + 1) * 2 = i * 2 + 1 + 1 by omega]; simp [flat, ih]
theorem flat_drop (es : List (α × β)) : ∀ i, flat ek ev (es.drop i) = (flat ek ev es).drop (i * 2) := by
  induction es with
  | nil => intro i; simp [flat]
  | cons x r ih =>
    intro i
    match i with
    | 0 => simp [flat]
    | i + 1 => rw [show (i + 1) * 2 = i * 2 + 1 + 1 by omega]; simp [flat, ih]
theorem flat_set (es : List (α × β)) : ∀ (i : Nat) (e : α × β) (y : β), es[i]? = some e → flat ek ev (es.set i (e.1, y)) = (flat ek ev es).set (i * 2 + 1) (ev y) := by
  induction es with
  | nil => intro i e y h; simp at h
  | cons x r ih =>
    intro i e y h
    match i, h with
    | 0, h => simp at h; subst h; rfl
    | i + 1, h => rw [show (i + 1) * 2 + 1 = i * 2 + 1 + 1 + 1 by omega]; simp only [flat, List.set_cons_succ]; rw [ih i e y (by simpa using h)]
end

/-- Block b is a table of the capacity most with the entries es, whose slice is v. T, E: the types of tables and entries. -/
structure Tab {α β : Type} (T E : TypeId) (ek : α → Value) (ev : β → Value) (w : World) (b : Nat) (v : Value) (most : Nat) (es : List (α × β)) : Prop where
  tab : w.heap[b]? = some (.cells #[.int .i64 most, v] T (0, 0))
  row : w.ownsRow 0 E 2 v es.length (flat ek ev es)
  ne : v.ownBlock ≠ some b
  few : es.length ≤ most
  cap : most ≤ 9223372036854775807

/-- The blocks of a table. -/
def Own2 (b : Nat) (v : Value) (k : Nat) : Prop := k = b ∨ v.ownBlock = some k

section
variable {α β : Type} {T E : TypeId} {ek : α → Value} {ev : β → Value} {w w' : World} {b : Nat} {v : Value} {most : Nat} {es : List (α × β)}

theorem Tab.lt (h : Tab T E ek ev w b v most es) : b < w.heap.size := lt_of_block h.tab
theorem Tab.own_lt (h : Tab T E ek ev w b v most es) : ∀ k, Own2 b v k → k < w.heap.size := by
  rintro k (rfl | hk)
  · exact h.lt
  · exact (h.row.lt k hk).2
theorem Tab.cell0 (h : Tab T E ek ev w b v most es) : w.cell? ⟨b, 0, none⟩ = some (.int .i64 most) := cell_of_row w b 0 _ _ _ h.tab
theorem Tab.cell1 (h : Tab T E ek ev w b v most es) : w.cell? ⟨b, 1, none⟩ = some v := cell_of_row w b 1 _ _ _ h.tab
theorem Tab.frozen (h : Tab T E ek ev w b v most es) (i : Nat) : w.frozen? ⟨b, i, none⟩ = false := free_of_block h.tab i

theorem Tab.keep (h : Tab T E ek ev w b v most es) (hk : ∀ k, Own2 b v k → w'.heap[k]? = w.heap[k]?) : Tab T E ek ev w' b v most es := by
  refine ⟨(hk b (.inl rfl)).trans h.tab, ⟨h.row.1, ?_⟩, h.ne, h.few, h.cap⟩
  rcases h.row.2 with h0 | ⟨g, cap, cur, hv, hb, hg, r⟩
  · exact .inl h0
  · exact .inr ⟨g, cap, cur, hv, hb, (hk g (.inr (by rw [hv]; rfl))).trans hg, r⟩
theorem Tab.below (h : Tab T E ek ev w b v most es) (hb : Below w.heap.size w w') : Tab T E ek ev w' b v most es := h.keep fun k hk => hb.block k (h.own_lt k hk)
theorem Tab.chg {S : Nat → Prop} (h : Tab T E ek ev w b v most es) (hc : Chg S w w') (hs : ∀ k, Own2 b v k → ¬ S k) : Tab T E ek ev w' b v most es := h.keep fun k hk => hc.block k (h.own_lt k hk) (hs k hk)

/-- A slice of entries: none, or a row at a block's head. -/
theorem Tab.form (h : Tab T E ek ev w b v most es) : (v = .slice none 0 0 ∧ es = []) ∨ ∃ g cap cur, v = .slice (some ⟨g, 0, none⟩) es.length cap ∧ g ≠ b ∧ w.heap[g]? = some (.cells cur E (0, 0)) ∧ es.length ≤ cap ∧ cap ≤ 9223372036854775807 ∧ cur.size = cap * 2 ∧ cur.toList.take (es.length * 2) = flat ek ev es := by
  rcases h.row.2 with ⟨h1, h2⟩ | ⟨g, cap, cur, hv, hb, hg, h1, h2, h3, h4⟩
  · exact .inl ⟨h1, List.eq_nil_of_length_eq_zero h2⟩
  · refine .inr ⟨g, cap, cur, hv, ?_, hg, h1, ?_, h3, h4⟩
    · intro e; subst e; exact h.ne (by rw [hv]; rfl)
    · unfold maxLen at h2; omega

theorem row_cell {cur : Array Value} {n : Nat} {xs : List Value} (h : cur.toList.take n = xs) {j : Nat} {u : Value} (hu : xs[j]? = some u) : cur[j]? = some u := by
  rw [← h, List.getElem?_take] at hu
  split at hu
  · simpa using hu
  · cases hu

theorem key_cell {g : Nat} {cur : Array Value} {n : Nat} (hg : w.heap[g]? = some (.cells cur E (0, 0))) (ht : cur.toList.take n = flat ek ev es) {i : Nat} {e : α × β} (he : es[i]? = some e) : w.cell? ⟨g, i * 2, none⟩ = some (ek e.1) :=
  (cell_of_row w g _ _ _ _ hg).trans (row_cell ht (flat_key es i e he))
theorem val_cell {g : Nat} {cur : Array Value} {n : Nat} (hg : w.heap[g]? = some (.cells cur E (0, 0))) (ht : cur.toList.take n = flat ek ev es) {i : Nat} {e : α × β} (he : es[i]? = some e) : w.cell? ⟨g, i * 2 + 1, none⟩ = some (ev e.2) :=
  (cell_of_row w g _ _ _ _ hg).trans (row_cell ht (flat_val es i e he))

/-- A value is replaced. -/
theorem Tab.set {g cap : Nat} {A : Option Addr} (h : Tab T E ek ev w b (.slice (some ⟨g, 0, none⟩) es.length cap) most es) {i : Nat} {e : α × β} (he : es[i]? = some e) (y : β) :
    Tab T E ek ev (w.setCell ⟨g, i * 2 + 1, none⟩ (ev y)) b (.slice (some ⟨g, 0, none⟩) es.length cap) most (es.set i (e.1, y)) := by
  have hne : g ≠ b := by intro e; subst e; exact h.ne rfl
  refine ⟨?_, ⟨?_, ?_⟩, h.ne, by simpa using h.few, h.cap⟩
  · rw [Below.heap_setCell _ _ _ _ (fun e => hne e.symm)]; exact h.tab
  · simp [flat_length]
  · rcases h.row.2 with ⟨h1, _⟩ | ⟨g', cap', cur, hv, hb, hg, h1, h2, h3, h4⟩
    · cases h1
    · cases hv
      refine .inr ⟨g, cap, cur.setIfInBounds (i * 2 + 1) (ev y), by simp, hb, set_block hg, by simpa using h1, h2, by simpa using h3, ?_⟩
      rw [flat_set es i e y he, ← h4]
      simp [List.take_set]

/-- The table's slice is exchanged. -/
theorem Tab.slice {v' : Value} {es' : List (α × β)} (h : w.heap[b]? = some (.cells #[.int .i64 most, v] T (0, 0))) (hr : w.ownsRow 0 E 2 v' es'.length (flat ek ev es')) (hn : v'.ownBlock ≠ some b) (hf : es'.length ≤ most) (hc : most ≤ 9223372036854775807) :
    Tab T E ek ev (w.setCell ⟨b, 1, none⟩ v') b v' most es' := by
  refine ⟨?_, ⟨hr.1, ?_⟩, hn, hf, hc⟩
  · rw [set_block h]; rfl
  · rcases hr.2 with h0 | ⟨g, cap, cur, hv, hb, hg, r⟩
    · exact .inl h0
    · refine .inr ⟨g, cap, cur, hv, hb, ?_, r⟩
      rw [Below.heap_setCell _ _ _ _ (by intro e; subst e; exact hn (by rw [hv]; rfl))]
      exact hg
end

/-- The entry of k is the i-th. -/
def Hit {α β : Type} (es : List (α × β)) (k : α) (i : Nat) : Prop := (∃ y, es[i]? = some (k, y)) ∧ ∀ j e, j < i → es[j]? = some e → e.1 ≠ k
/-- There is none of k. -/
def Miss {α β : Type} (es : List (α × β)) (k : α) : Prop := ∀ (j : Nat) (e : α × β), es[j]? = some e → e.1 ≠ k

theorem hit_or_miss {α β : Type} [DecidableEq α] (es : List (α × β)) (k : α) : Miss es k ∨ ∃ i, Hit es k i := by
  induction es with
  | nil => left; intro j e h; simp at h
  | cons x r ih =>
    by_cases hx : x.1 = k
    · right
      exact ⟨0, ⟨x.2, by simp [← hx]⟩, fun j e hj => absurd hj (Nat.not_lt_zero _)⟩
    · rcases ih with hm | ⟨i, ⟨y, hy⟩, hb⟩
      · left
        intro j e he
        match j, he with
        | 0, he => simp at he; subst he; exact hx
        | j + 1, he => exact hm j e (by simpa using he)
      · right
        refine ⟨i + 1, ⟨y, by simpa using hy⟩, fun j e hj he => ?_⟩
        match j, he with
        | 0, he => simp at he; subst he; exact hx
        | j + 1, he => exact hb j e (by omega) (by simpa using he)

theorem Hit.lt {α β : Type} {es : List (α × β)} {k : α} {i : Nat} (h : Hit es k i) : i < es.length := by
  obtain ⟨⟨y, hy⟩, _⟩ := h
  exact (List.getElem?_eq_some_iff.1 hy).1

end Go.Proofs.Ytelgglnamojegaa
