/-
  Joined: Kc. Conditions: as each part says.
-/
import Derived.Test.YtedoggejbhbebaaJ7
import Derived.Deep.QuietTactic
import Derived.BigQuiet
import Derived.Deep.AppendLies
import Derived.Deep.RegionLaw

/-
  An ideal engine's table in memory; contract of (*idealCore).add. Conditions: fewer than a thousand entries.
-/
namespace Go.Proofs.Ytedoggejbhbebaa
namespace Eng
open Go.ChangeShapes Go.WideShapes Go.ChangeAt Go.RowKit Go.Great
open Gf Aes Gcm
set_option linter.unusedVariables false
set_option maxRecDepth 100000

/-- Of the blocks that there were only those of S may have changed. -/
structure Chg (S : Nat → Prop) (w w' : World) : Prop where
  os : w'.os = w.os
  tape : w'.tape = w.tape
  output : w'.output = w.output
  size : w.heap.size ≤ w'.heap.size
  block : ∀ k, k < w.heap.size → ¬ S k → w'.heap[k]? = w.heap[k]?

section
variable {S S' : Nat → Prop} {w w' w'' : World}
theorem Chg.refl (S : Nat → Prop) (w : World) : Chg S w w := ⟨rfl, rfl, rfl, Nat.le_refl _, fun _ _ _ => rfl⟩
theorem Chg.trans (h : Chg S w w') (k : Chg S' w' w'') (hs : ∀ i, i < w.heap.size → S' i → S i) : Chg S w w'' :=
  ⟨k.os.trans h.os, k.tape.trans h.tape, k.output.trans h.output, Nat.le_trans h.size k.size, fun i hi hn => (k.block i (Nat.lt_of_lt_of_le hi h.size) (fun e => hn (hs i hi e))).trans (h.block i hi hn)⟩
theorem Chg.of_below (h : Below w.heap.size w w') : Chg S w w' := ⟨h.os, h.tape, h.output, h.size, fun i hi _ => h.block i hi⟩
theorem Chg.below {B : Nat} (h : Chg S w w') (hB : B ≤ w.heap.size) (hs : ∀ i, S i → B ≤ i) : Below B w w' :=
  ⟨h.os, h.tape, h.output, h.size, fun i hi => h.block i (by omega) (fun e => by have := hs i e; omega)⟩
theorem Chg.drew (h : Chg S w w') : Chg S w w'.drew := ⟨h.os, h.tape, h.output, h.size, h.block⟩
theorem Chg.set (h : Chg S w w') {b : Nat} (hb : b < w.heap.size → S b) (i : Nat) (u : Value) : Chg S w (w'.setCell ⟨b, i, none⟩ u) :=
  h.trans (S' := fun k => k = b) ⟨rfl, rfl, rfl, by simp [World.setCell], fun k hk hne => Below.heap_setCell _ _ _ _ hne⟩ (fun k hk e => by subst e; exact hb hk)
theorem Chg.mono (h : Chg S w w') (hs : ∀ i, i < w.heap.size → S i → S' i) : Chg S' w w' := ⟨h.os, h.tape, h.output, h.size, fun i hi hn => h.block i hi (fun e => hn (hs i hi e))⟩
end

theorem lt_of_block {w : World} {g : Nat} {o : Obj} (h : w.heap[g]? = some o) : g < w.heap.size := by
  rcases Nat.lt_or_ge g w.heap.size with h' | h'
  · exact h'
  · simp [Array.getElem?_eq_none h'] at h
theorem free_of_block {w : World} {g : Nat} {cs : Array Value} {t : TypeId} (h : w.heap[g]? = some (.cells cs t (0, 0))) (i : Nat) : w.frozen? ⟨g, i, none⟩ = false := by
  simp [World.frozen?, h]
theorem set_block {w : World} {g i : Nat} {u : Value} {cs : Array Value} {t : TypeId} (h : w.heap[g]? = some (.cells cs t (0, 0))) : (w.setCell ⟨g, i, none⟩ u).heap[g]? = some (.cells (cs.setIfInBounds i u) t (0, 0)) := by
  simp [World.setCell, Array.getElem?_modify, h]
theorem below_drewN2 {n : Nat} {w w' : World} (h : Below n w w') (m : Nat) : Below n w (w'.drewN m) := ⟨h.os, h.tape, h.output, h.size, h.block⟩

/-- An entry, as plain data. -/
structure Ent where
  variant : Int
  key : ByteArray
  nonce : ByteArray
  beside : ByteArray
  text : ByteArray
def Ent.cells (e : Ent) : List Value := [.int .i64 e.variant, .string e.key, .string e.nonce, .string e.beside, .string e.text]
/-- The cells of entries. -/
def flatE : List Ent → List Value
  | [] => []
  | e :: r => e.cells ++ flatE r
theorem flatE_length (L : List Ent) : (flatE L).length = L.length * 5 := by
  induction L with
  | nil => rfl
  | cons e r ih => simp only [flatE, List.length_append, List.length_cons, ih, Ent.cells, List.length_nil]; omega
theorem flatE_append (L M : List Ent) : flatE (L ++ M) = flatE L ++ flatE M := by
  induction L with
  | nil => rfl
  | cons e r ih => simp [flatE, ih]
theorem flatE_get (L : List Ent) : ∀ (i : Nat) (e : Ent), L[i]? = some e → ∀ j, j < 5 → (flatE L)[i * 5 + j]? = e.cells[j]? := by
  induction L with
  | nil => intro i e h; simp at h
  | cons x r ih =>
    intro i e h j hj
    match i, h with
    | 0, h =>
      simp at h; subst h
      rw [Nat.zero_mul, Nat.zero_add, flatE, List.getElem?_append_left (by simpa [Ent.cells] using hj)]
    | i + 1, h =>
      rw [flatE, List.getElem?_append_right (by simp [Ent.cells]; omega), ← ih i e (by simpa using h) j hj]
      congr 1
      simp [Ent.cells]; omega

/-- Block c is an ideal core with the entries L, whose slice is v. -/
structure Cor (w : World) (c : Nat) (v : Value) (L : List Ent) : Prop where
  tab : w.heap[c]? = some (.cells #[v] 56 (0, 0))
  row : w.ownsRow 0 157 5 v L.length (flatE L)
  ne : v.ownBlock ≠ some c
/-- The blocks of a core. -/
def Own2 (c : Nat) (v : Value) (k : Nat) : Prop := k = c ∨ v.ownBlock = some k

section
variable {w w' : World} {c : Nat} {v : Value} {L : List Ent}
theorem Cor.lt (h : Cor w c v L) : c < w.heap.size := lt_of_block h.tab
theorem Cor.own_lt (h : Cor w c v L) : ∀ k, Own2 c v k → k < w.heap.size := by
  rintro k (rfl | hk)
  · exact h.lt
  · exact (h.row.lt k hk).2
theorem Cor.cell (h : Cor w c v L) : w.cell? ⟨c, 0, none⟩ = some v := cell_of_row w c 0 _ _ _ h.tab
theorem Cor.frozen (h : Cor w c v L) (i : Nat) : w.frozen? ⟨c, i, none⟩ = false := free_of_block h.tab i
theorem Cor.keep (h : Cor w c v L) (hk : ∀ k, Own2 c v k → w'.heap[k]? = w.heap[k]?) : Cor w' c v L := by
  refine ⟨(hk c (.inl rfl)).trans h.tab, ⟨h.row.1, ?_⟩, h.ne⟩
  rcases h.row.2 with h0 | ⟨g, cap, cur, hv, hb, hg, r⟩
  · exact .inl h0
  · exact .inr ⟨g, cap, cur, hv, hb, (hk g (.inr (by rw [hv]; rfl))).trans hg, r⟩
theorem Cor.below (h : Cor w c v L) (hb : Below w.heap.size w w') : Cor w' c v L := h.keep fun k hk => hb.block k (h.own_lt k hk)
theorem Cor.chg {S : Nat → Prop} (h : Cor w c v L) (hc : Chg S w w') (hs : ∀ k, Own2 c v k → ¬ S k) : Cor w' c v L := h.keep fun k hk => hc.block k (h.own_lt k hk) (hs k hk)
/-- A slice of entries: none, or a row at a block's head. -/
theorem Cor.form (h : Cor w c v L) : (v = .slice none 0 0 ∧ L = []) ∨ ∃ g cap cur, v = .slice (some ⟨g, 0, none⟩) L.length cap ∧ g ≠ c ∧ w.heap[g]? = some (.cells cur 157 (0, 0)) ∧ L.length ≤ cap ∧ cap ≤ 9223372036854775807 ∧ cur.size = cap * 5 ∧ cur.toList.take (L.length * 5) = flatE L := by
  rcases h.row.2 with ⟨h1, h2⟩ | ⟨g, cap, cur, hv, hb, hg, h1, h2, h3, h4⟩
  · exact .inl ⟨h1, List.eq_nil_of_length_eq_zero h2⟩
  · refine .inr ⟨g, cap, cur, hv, ?_, hg, h1, ?_, h3, h4⟩
    · intro e; subst e; exact h.ne (by rw [hv]; rfl)
    · unfold maxLen at h2; omega
theorem Cor.slice (h : Cor w c v L) : ∃ A cap, v = .slice A L.length cap := by
  rcases h.form with ⟨rfl, rfl⟩ | ⟨g, cap, cur, rfl, _⟩
  · exact ⟨_, _, rfl⟩
  · exact ⟨_, _, rfl⟩
theorem row_cellE {cur : Array Value} {n : Nat} {xs : List Value} (h : cur.toList.take n = xs) {j : Nat} {u : Value} (hu : xs[j]? = some u) : cur[j]? = some u := by
  rw [← h, List.getElem?_take] at hu
  split at hu
  · simpa using hu
  · cases hu
theorem ent_cell {g : Nat} {cur : Array Value} {n : Nat} (hg : w.heap[g]? = some (.cells cur 157 (0, 0))) (ht : cur.toList.take n = flatE L) {i : Nat} {e : Ent} (he : L[i]? = some e) {j : Nat} (hj : j < 5) {u : Value} (hu : e.cells[j]? = some u) : w.cell? ⟨g, i * 5 + j, none⟩ = some u :=
  (cell_of_row w g _ _ _ _ hg).trans (row_cellE ht ((flatE_get L i e he j hj).trans hu))

/-- What a call leaves: the core, with these entries; only its own blocks have changed. -/
def After (w : World) (c : Nat) (v : Value) (L : List Ent) (w' : World) : Prop :=
  ∃ v', Cor w' c v' L ∧ (∀ k, v'.ownBlock = some k → v.ownBlock = some k ∨ w.heap.size ≤ k) ∧ Chg (Own2 c v) w w'
theorem After.same (h : Cor w c v L) (hb : Below w.heap.size w w') : After w c v L w' :=
  ⟨v, h.below hb, fun k hk => .inl hk, Chg.of_below hb⟩
theorem After.next {w1 w2 : World} (h : After w c v L w1) (hb : Below w1.heap.size w1 w2) : After w c v L w2 := by
  obtain ⟨v1, t1, o1, c1⟩ := h
  exact ⟨v1, t1.below hb, o1, c1.trans (Chg.of_below (S := Own2 c v) hb) (fun _ _ e => e)⟩
theorem After.andThen {w1 w2 : World} {M : List Ent} (h : After w c v L w1) (k : ∀ v1, Cor w1 c v1 L → After w1 c v1 M w2) : After w c v M w2 := by
  obtain ⟨v1, t1, o1, c1⟩ := h
  obtain ⟨v2, t2, o2, c2⟩ := k v1 t1
  refine ⟨v2, t2, fun i hi => ?_, c1.trans c2 ?_⟩
  · rcases o2 i hi with h' | h'
    · exact o1 i h'
    · right; have := c1.size; omega
  · rintro i hi (rfl | h')
    · exact .inl rfl
    · rcases o1 i h' with h'' | h''
      · exact .inr h''
      · omega
theorem After.pre {w1 w2 : World} (hb : Below w.heap.size w w1) (h : After w1 c v L w2) : After w c v L w2 := by
  obtain ⟨v2, t2, o2, c2⟩ := h
  refine ⟨v2, t2, fun i hi => ?_, (Chg.of_below (S := Own2 c v) hb).trans c2 (fun _ _ e => e)⟩
  rcases o2 i hi with h' | h'
  · exact .inl h'
  · right; have := hb.size; omega

/-- An entry is appended. -/
theorem push_after {X w2 : World} {e : Ent} {g cap n : Nat} (h : Cor w c v L) (hn : L.length = n) (hX : Below w.heap.size w X)
    (hown : w2.ownsRow 0 157 5 (.slice (some ⟨g, 0, none⟩) (n + 1) cap) (n + 1) (flatE L ++ e.cells)) (hgrow : X.grownBy w2 v.ownBlock) (hat : v.ownBlock = some g ∨ w.heap.size ≤ g) :
    w2.heap[c]? = some (.cells #[v] 56 (0, 0)) ∧ (w2.setCell ⟨c, 0, none⟩ (.slice (some ⟨g, 0, none⟩) (n + 1) cap)).cell? ⟨c, 0, none⟩ = some (.slice (some ⟨g, 0, none⟩) (n + 1) cap) ∧ After w c v (L ++ [e]) (w2.setCell ⟨c, 0, none⟩ (.slice (some ⟨g, 0, none⟩) (n + 1) cap)) := by
  have hlt := h.lt
  have hXs := hX.size
  have h2 : w2.heap[c]? = some (.cells #[v] 56 (0, 0)) := by
    rw [hgrow.block c (by omega) (fun e => h.ne e.symm), hX.block c hlt]
    exact h.tab
  have hgb : g ≠ c := by
    rintro rfl
    rcases hat with h' | h'
    · exact h.ne h'
    · omega
  have hlen : (L ++ [e]).length = n + 1 := by simp [hn]
  have hfl : flatE (L ++ [e]) = flatE L ++ e.cells := by rw [flatE_append]; simp [flatE]
  have h3 : (w2.setCell ⟨c, 0, none⟩ (.slice (some ⟨g, 0, none⟩) (n + 1) cap)).heap[c]? = some (.cells #[.slice (some ⟨g, 0, none⟩) (n + 1) cap] 56 (0, 0)) := by
    rw [set_block h2]; rfl
  refine ⟨h2, cell_of_row _ _ 0 _ _ _ h3, _, ⟨h3, ?_, fun e => by simp [Value.ownBlock] at e; exact hgb e⟩, ?_, ?_⟩
  · rw [hlen, hfl]
    refine ⟨hown.1, ?_⟩
    rcases hown.2 with h0 | ⟨g', cap', cur, hv, hb', hg, r⟩
    · exact .inl h0
    · refine .inr ⟨g', cap', cur, hv, hb', ?_, r⟩
      rw [Below.heap_setCell _ _ _ _ (by cases hv; exact hgb)]
      exact hg
  · intro i hi
    have : g = i := by simpa [Value.ownBlock] using hi
    subst this
    exact hat
  · have hc : Chg (Own2 c v) w w2 := by
      refine ⟨hgrow.os.trans hX.os, hgrow.tape.trans hX.tape, hgrow.output.trans hX.output, Nat.le_trans hXs hgrow.size, fun i hi hne => ?_⟩
      rw [hgrow.block i (by omega) (fun e => hne (.inr e.symm))]
      exact hX.block i hi
    exact hc.set (fun _ => .inl rfl) _ _
end

theorem infoEntry : (Try.prog.info? 157).map (fun i => (i.zero, i.size, i.bytes)) = some (some (.agg #[.int .i64 0, .string ⟨#[]⟩, .string ⟨#[]⟩, .string ⟨#[]⟩, .string ⟨#[]⟩]), 5, 72) := by kernel_rfl

set_option maxHeartbeats 2000000 in
theorem add_any (c : Nat) (v : Value) (L : List Ent) (x : Ent) (w : World) (h : Cor w c v L) (hfew : L.length ≤ 1000) :
    Calls Try.prog 118 #[.pointer (some ⟨c, 0, none⟩), .agg #[.int .i64 x.variant, .string x.key, .string x.nonce, .string x.beside, .string x.text]] w fun e w' => e = .returned (.int .u64 (L.length + 1 : Nat)) ∧ After w c v (L ++ [x]) w' := by
  obtain ⟨i0, hi0, hz0, hz1, hz2⟩ := info_parts infoEntry
  obtain ⟨A, cap, hv⟩ := h.slice
  have HT := Lib.hid h; clear h
  subst hv
  generalize hN : L.length = n at *
  have HN := Lib.hid hN; clear hN
  have c0 := HT.out.cell
  have f0 := HT.out.frozen 0
  obtain ⟨B, hB⟩ : ∃ B, B = Obj.cells #[.int .i64 x.variant, .string x.key, .string x.nonce, .string x.beside, .string x.text] 157 := ⟨_, rfl⟩
  have hrow : ∀ X : World, X.heap = ((w.alloc B).alloc B).heap → X.ownsRow 0 157 5 (.slice A n cap) n (flatE L) := by
    intro X hX
    have h := (HT.out.below (((Below.refl _ _).alloc (Nat.le_refl _) B).alloc (by simp) B)).row
    rw [HN.out] at h
    refine ⟨h.1, ?_⟩
    rcases h.2 with h0 | ⟨g, cp, cur, hv, hb, hg, r⟩
    · exact .inl h0
    · exact .inr ⟨g, cp, cur, hv, hb, by rw [hX]; exact hg, r⟩
  have hnews : ∀ X : World, X.heap = ((w.alloc B).alloc B).heap → ∀ j u, x.cells[j]? = some u → X.cell? ((⟨w.heap.size + 1, 0, none⟩ : Addr).add j) = some u := by
    intro X hX
    refine World.news_of_block (B := w.heap.size + 1) (cs := #[.int .i64 x.variant, .string x.key, .string x.nonce, .string x.beside, .string x.text]) (t := 157) (fr := (0, 0)) ?_
    rw [hX]
    have := heap_alloc_new (w.alloc B) B
    rw [show (w.alloc B).heap.size = w.heap.size + 1 by simp] at this
    rw [this, hB]
  have hsz : ∀ X : World, X.heap = ((w.alloc B).alloc B).heap → X.heap.size = w.heap.size + 2 := by
    intro X hX
    rw [hX]; simp
  have hone : ∀ u ∈ x.cells, u.oneCell' = true := by
    intro u hu
    simp [Ent.cells] at hu
    rcases hu with rfl | rfl | rfl | rfl | rfl <;> rfl
  have HROW := Lib.hid hrow
  have HNEWS := Lib.hid hnews
  have HSZ := Lib.hid hsz
  have HONE := Lib.hid hone
  have h63 : n + 1 ≤ maxLen := by unfold maxLen; omega
  have h72 : (n + 1) * 72 ≤ 140737488355328 := by omega
  have H63 := Lib.hid (And.intro h63 h72)
  have q1 : IntKind.u64.wrap ((n : Int) + 1) = (n : Int) + 1 := by rw [IntKind.wrap_u64]; omega
  clear hrow hnews hsz hone h63 h72
  have c1 := (HT.out.below ((Below.refl _ _).alloc (Nat.le_refl _) B)).cell
  have c2 := (HT.out.below (((Below.refl _ _).alloc (Nat.le_refl _) B).alloc (by simp) B)).cell
  subst hB
  go_enter Try.func118, Try.ntmps118
  go_wp2
  go_region_law ((refine step_append_lies _ (by rfl) _ _ 54 (by rfl) 0 157 i0 _ 5 72 Try.underlying54 hi0 hz0 hz1 hz2 rfl (by decide) _ _ (flatE L) (by rfl) (HROW.out _ (by rfl)) ⟨w.heap.size + 1, 0, none⟩ 1 1 x.cells (by rfl) (by rfl) (HNEWS.out _ (by rfl)) HONE.out (by decide) H63.out.1 H63.out.2 (Nat.zero_le _) (w.heap.size + 2) (HSZ.out _ (by rfl)) ?_; intro g cap2 w2 hown hgrow hat hgl; obtain ⟨h2, h3, haft⟩ := push_after HT.out HN.out (((Below.refl _ _).alloc (Nat.le_refl _) _).alloc (by simp) _).drew hown hgrow (hat.imp id (fun e => by omega)); have c3 := cell_of_row _ c 0 _ _ _ h2; have f3 := free_of_block h2 0; have HA := Lib.hid haft; clear haft h2 hown hgrow hat hgl))
  all_goals go_wp2
  all_goals go_ret
  all_goals exact ⟨congrArg (fun z => Ending.returned (Value.int .u64 z)) (by omega), HA.out⟩
end Eng
end Go.Proofs.Ytedoggejbhbebaa
