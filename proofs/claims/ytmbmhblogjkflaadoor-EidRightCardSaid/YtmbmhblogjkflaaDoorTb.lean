/-
  The copier in memory; contracts of placeOf, push and pop, whatever the stack holds. Conditions: the stack has at most two million lists.
-/
import Derived.Test.YtmbmhblogjkflaaDoorTa
namespace Go.Proofs.YtmbmhblogjkflaaDoor
namespace Tree
open Go.ChangeShapes Go.WideShapes Go.ChangeAt Go.RowKit Go.MapKept
set_option linter.unusedVariables false
set_option maxRecDepth 100000

theorem below_of_drewN {n : Nat} {w w' : World} (h : Below n w w') (m : Nat) : Below n w (w'.drewN m) := ⟨h.os, h.tape, h.output, h.size, h.block⟩

theorem lt_of_obj {w : World} {g : Nat} {o : Obj} (h : w.heap[g]? = some o) : g < w.heap.size := by
  rcases Nat.lt_or_ge g w.heap.size with h' | h'
  · exact h'
  · simp [Array.getElem?_eq_none h'] at h

theorem free_at {w : World} {g : Nat} {cs : Array Value} {t : TypeId} (h : w.heap[g]? = some (.cells cs t (0, 0))) (i : Nat) : w.frozen? ⟨g, i, none⟩ = false := by
  simp [World.frozen?, h]

theorem set_at {w : World} {g i : Nat} {u : Value} {cs : Array Value} {t : TypeId} (h : w.heap[g]? = some (.cells cs t (0, 0))) : (w.setCell ⟨g, i, none⟩ u).heap[g]? = some (.cells (cs.setIfInBounds i u) t (0, 0)) := by
  simp [World.setCell, Array.getElem?_modify, h]

theorem row_keep {X X' : World} {B : Nat} {e : TypeId} {sz : Nat} {st : Value} {n : Nat} {xs : List Value} (h : X.ownsRow B e sz st n xs) (hk : ∀ k, st.ownBlock = some k → X'.heap[k]? = X.heap[k]?) : X'.ownsRow B e sz st n xs := by
  refine ⟨h.1, ?_⟩
  rcases h.2 with h0 | ⟨g, cap, cur, hv, hb, hg, r⟩
  · exact .inl h0
  · exact .inr ⟨g, cap, cur, hv, hb, (hk g (by rw [hv]; rfl)).trans hg, r⟩

theorem row_lt {X : World} {B : Nat} {e : TypeId} {sz : Nat} {st : Value} {n : Nat} {xs : List Value} (h : X.ownsRow B e sz st n xs) : ∀ k, st.ownBlock = some k → B ≤ k ∧ k < X.heap.size := by
  intro k hk
  rcases h.2 with ⟨h0, _⟩ | ⟨g, cap, cur, hv, hb, hg, r⟩
  · rw [h0] at hk; cases hk
  · rw [hv] at hk
    have : g = k := by simpa [Value.ownBlock] using hk
    subst this
    exact ⟨hb, lt_of_obj hg⟩

/-- The copier: its map at M, itself behind it, its stack. -/
structure Cp (W : World) (M : Nat) (es : Array MapEntry) (cl : Nat) (st : Value) (xs : List Value) (tot : Nat) (X : World) : Prop where
  below : Below M W X
  map : X.heap[M]? = some (.map es cl)
  cop : X.heap[M + 1]? = some (.cells #[.map (some M), st, .int .u64 tot] 65 (0, 0))
  row : X.ownsRow (M + 2) 27 1 st xs.length xs

section
variable {W X X' : World} {M : Nat} {es : Array MapEntry} {cl : Nat} {st : Value} {xs : List Value} {tot : Nat}
theorem Cp.size (h : Cp W M es cl st xs tot X) : M + 2 ≤ X.heap.size := by have := lt_of_obj h.cop; omega
theorem Cp.next (h : Cp W M es cl st xs tot X) (hb : Below X.heap.size X X') : Cp W M es cl st xs tot X' :=
  ⟨h.below.trans (hb.mono (by have := h.size; omega)), (hb.block _ (by have := h.size; omega)).trans h.map, (hb.block _ (by have := h.size; omega)).trans h.cop, row_keep h.row fun k hk => hb.block k (row_lt h.row k hk).2⟩
theorem Cp.drew (h : Cp W M es cl st xs tot X) : Cp W M es cl st xs tot X.drew := h.next (Below.refl _ _).drew
theorem Cp.c0 (h : Cp W M es cl st xs tot X) : X.cell? ⟨M + 1, 0, none⟩ = some (.map (some M)) := cell_of_row X _ 0 _ _ _ h.cop
theorem Cp.c1 (h : Cp W M es cl st xs tot X) : X.cell? ⟨M + 1, 1, none⟩ = some st := cell_of_row X _ 1 _ _ _ h.cop
theorem Cp.c2 (h : Cp W M es cl st xs tot X) : X.cell? ⟨M + 1, 2, none⟩ = some (.int .u64 tot) := cell_of_row X _ 2 _ _ _ h.cop
theorem Cp.free (h : Cp W M es cl st xs tot X) (i : Nat) : X.frozen? ⟨M + 1, i, none⟩ = false := free_at h.cop i
/-- The stack is exchanged. -/
theorem Cp.stack (h : Cp W M es cl st xs tot X) {st' : Value} {xs' : List Value} (hr : X.ownsRow (M + 2) 27 1 st' xs'.length xs') : Cp W M es cl st' xs' tot (X.setCell ⟨M + 1, 1, none⟩ st') := by
  refine ⟨h.below.setCell (p := ⟨M + 1, 1, none⟩) (by simp) _, ?_, ?_, row_keep hr fun k hk => Below.heap_setCell _ _ _ _ (by have := (row_lt hr k hk).1; dsimp only; omega)⟩
  · rw [Below.heap_setCell _ _ _ _ (by dsimp only; omega)]; exact h.map
  · rw [set_at h.cop]; rfl
/-- The total is exchanged. -/
theorem Cp.total (h : Cp W M es cl st xs tot X) (t : Nat) : Cp W M es cl st xs t (X.setCell ⟨M + 1, 2, none⟩ (.int .u64 t)) := by
  refine ⟨h.below.setCell (p := ⟨M + 1, 2, none⟩) (by simp) _, ?_, ?_, row_keep h.row fun k hk => Below.heap_setCell _ _ _ _ (by have := (row_lt h.row k hk).1; dsimp only; omega)⟩
  · rw [Below.heap_setCell _ _ _ _ (by dsimp only; omega)]; exact h.map
  · rw [set_at h.cop]; rfl
/-- Another block is changed, which is none of the copier's. -/
theorem Cp.other (h : Cp W M es cl st xs tot X) {k i : Nat} (u : Value) (hk : M + 2 ≤ k) (hst : st.ownBlock ≠ some k) : Cp W M es cl st xs tot (X.setCell ⟨k, i, none⟩ u) := by
  refine ⟨h.below.setCell (p := ⟨k, i, none⟩) (by dsimp only; omega) _, ?_, ?_, row_keep h.row fun j hj => Below.heap_setCell _ _ _ _ (by rintro rfl; exact hst hj)⟩
  · rw [Below.heap_setCell _ _ _ _ (by dsimp only; omega)]; exact h.map
  · rw [Below.heap_setCell _ _ _ _ (by dsimp only; omega)]; exact h.cop
end

set_option maxHeartbeats 1000000 in
/-- placeOf at a list that is not empty. -/
theorem place_any (g n c : Nat) (w : World) (hn : 0 < n) : Calls Tryd.prog 60 #[.slice (some ⟨g, 0, none⟩) n c] w fun e w' => e = .returned (keyP g n) ∧ Below w.heap.size w w' := by
  have h0 : (0 : Int) < (n : Int) := by omega
  go_enter Tryd.func60, Tryd.ntmps60
  go_wp2
  refine bodyPost_ret (v := keyP g n) (by simp [results, Tryd.results60, go_sem, keyP]) rfl ⟨rfl, (Below.refl _ _).alloc (Nat.le_refl _) _⟩

theorem infoStackT : (Tryd.prog.info? 27).map (fun i => (i.zero, i.size, i.bytes)) = some (some (.slice none 0 0), 1, 24) := by kernel_rfl

/-- What push leaves. -/
def Pushed (W : World) (M : Nat) (es : Array MapEntry) (cl : Nat) (st : Value) (xs : List Value) (tot : Nat) (X : World) (v : Value) (w' : World) : Prop :=
  ∃ g cap, Cp W M es cl (.slice (some ⟨g, 0, none⟩) (xs.length + 1) cap) (xs ++ [v]) tot w' ∧ (st.ownBlock = some g ∨ X.heap.size ≤ g) ∧ ∀ i, i < X.heap.size → i ≠ M + 1 → st.ownBlock ≠ some i → w'.heap[i]? = X.heap[i]?

theorem pushed_of {W X w2 : World} {M : Nat} {es : Array MapEntry} {cl : Nat} {st : Value} {xs : List Value} {tot g cap : Nat} {v : Value} {o : Obj} (h : Cp W M es cl st xs tot X)
    (hown : w2.ownsRow (M + 2) 27 1 (.slice (some ⟨g, 0, none⟩) (xs.length + 1) cap) (xs.length + 1) (xs ++ [v])) (hgrow : (X.alloc o).grownBy w2 st.ownBlock) (hat : st.ownBlock = some g ∨ g = X.heap.size + 1) :
    Cp W M es cl st xs tot X ∧ w2.heap[M + 1]? = some (.cells #[.map (some M), st, .int .u64 tot] 65 (0, 0)) ∧ Pushed W M es cl st xs tot X v (w2.setCell ⟨M + 1, 1, none⟩ (.slice (some ⟨g, 0, none⟩) (xs.length + 1) cap)) := by
  have hsz := h.size
  have hne : ∀ k, st.ownBlock = some k → M + 2 ≤ k := fun k hk => (row_lt h.row k hk).1
  have hold : ∀ i, i < X.heap.size → st.ownBlock ≠ some i → w2.heap[i]? = X.heap[i]? := fun i hi hn => by
    rw [hgrow.block i (by simp; omega) (fun e => hn e.symm)]
    exact Below.heap_alloc _ _ _ hi
  have h2 : w2.heap[M + 1]? = some (.cells #[.map (some M), st, .int .u64 tot] 65 (0, 0)) := (hold _ (by omega) (fun e => by have := hne _ e; omega)).trans h.cop
  have hM : w2.heap[M]? = some (.map es cl) := (hold _ (by omega) (fun e => by have := hne _ e; omega)).trans h.map
  have hb : Below M W w2 := h.below.trans (((Below.refl _ _).alloc (by omega) o).grown hgrow (by simp; omega) (fun k hk => by have := hne _ hk; omega))
  refine ⟨h, h2, g, cap, ?_, ?_, ?_⟩
  · refine ⟨hb.setCell (p := ⟨M + 1, 1, none⟩) (by simp) _, ?_, ?_, row_keep (by simpa using hown) fun k hk => Below.heap_setCell _ _ _ _ (by have := (row_lt hown k hk).1; dsimp only; omega)⟩
    · rw [Below.heap_setCell _ _ _ _ (by dsimp only; omega)]; exact hM
    · rw [set_at h2]; rfl
  · rcases hat with h' | h'
    · exact .inl h'
    · right; omega
  · intro i hi hne' hst
    rw [Below.heap_setCell _ _ _ _ (by dsimp only; omega)]
    exact hold i hi hst

set_option maxHeartbeats 2000000 in
set_option maxRecDepth 100000 in
/-- push. -/
theorem push_any (W : World) (M : Nat) (es : Array MapEntry) (cl : Nat) (st : Value) (xs : List Value) (tot : Nat) (X : World) (h : Cp W M es cl st xs tot X) (hlen : xs.length ≤ 2000000) (A : Option Addr) (n c : Nat) :
    Calls Tryd.prog 59 #[.pointer (some ⟨M + 1, 0, none⟩), .slice A n c] X fun e w' => e = .returned (.tuple #[]) ∧ Pushed W M es cl st xs tot X (.slice A n c) w' := by
  obtain ⟨i0, hi0, hz0, hz1, hz2⟩ := info_parts infoStackT
  have c1 := h.c1
  have f1 := h.free 1
  have hsz := h.size
  have HC := Lib.hid h; clear h
  have hrow := HC.out.row
  obtain ⟨A0, cap0, hst⟩ : ∃ A0 cap0, st = .slice A0 xs.length cap0 := by
    rcases hrow.2 with ⟨h1, h2⟩ | ⟨g, cap, cur, h1, _⟩
    · exact ⟨none, 0, by rw [h1, h2]⟩
    · exact ⟨_, _, h1⟩
  have HR := Lib.hid hrow; clear hrow
  subst hst
  generalize hN : xs.length = N at *
  have HN := Lib.hid hN; clear hN
  go_enter Tryd.func59, Tryd.ntmps59
  go_wp2_with (at_builtin; refine wpList_append_lies _ rfl _ _ 63 rfl (M + 2) 27 i0 _ 1 24 Tryd.underlying63 hi0 hz0 hz1 hz2 rfl (by decide) (.slice A0 N cap0) N xs rfl ?o1 ⟨X.heap.size, 0, none⟩ 1 1 [.slice A n c] rfl rfl ?o2 ?o3 (by omega) ?o4 ?o5 ?o6 (X.heap.size + 1) ?o7 ?_)
  case o1 => exact HR.out.alloc _
  case o2 => exact World.news_of_block (heap_alloc_new X _)
  case o3 => intro u hu; simp at hu; rcases hu with rfl; rfl
  case o4 => unfold maxLen; omega
  case o5 => omega
  case o6 => simp; omega
  case o7 => simp
  intro g cap2 w2 hown hgrow hat hgl
  obtain ⟨_, htab, haft⟩ := pushed_of (st := .slice A0 N cap0) (xs := xs) (X := X) (es := es) (cl := cl) (W := W) (tot := tot) (v := .slice A n c) (g := g) (cap := cap2) HC.out (by rw [HN.out]; exact hown) hgrow hat
  rw [HN.out] at haft
  have c1' : w2.cell? ⟨M + 1, 1, none⟩ = some (.slice A0 N cap0) := cell_of_row _ _ 1 _ _ _ htab
  have f1' := free_at htab 1
  have hbl := lt_of_obj htab
  have HA := Lib.hid haft; clear haft htab hown hgrow hat
  go_wp2
  go_end0
  exact ⟨rfl, HA.out⟩

set_option maxHeartbeats 2000000 in
/-- pop. -/
theorem pop_any (W : World) (M : Nat) (es : Array MapEntry) (cl : Nat) (g cap : Nat) (xs : List Value) (v : Value) (tot : Nat) (X : World) (h : Cp W M es cl (.slice (some ⟨g, 0, none⟩) (xs.length + 1) cap) (xs ++ [v]) tot X) :
    Calls Tryd.prog 50 #[.pointer (some ⟨M + 1, 0, none⟩)] X fun e w' => e = .returned v ∧ Cp W M es cl (.slice (some ⟨g, 0, none⟩) xs.length cap) xs tot w' ∧ ∀ i, i ≠ M + 1 → w'.heap[i]? = X.heap[i]? := by
  have c1 := h.c1
  have f1 := h.free 1
  obtain ⟨cur, hM, hg, hcap, hmax, hcs, htake⟩ : ∃ cur, M + 2 ≤ g ∧ X.heap[g]? = some (.cells cur 27 (0, 0)) ∧ xs.length + 1 ≤ cap ∧ cap ≤ maxLen ∧ cur.size = cap * 1 ∧ cur.toList.take ((xs.length + 1) * 1) = xs ++ [v] := by
    rcases h.row.2 with ⟨h1, h2⟩ | ⟨g', cap', cur, h1, h2, h3, h4, h5, h6, h7⟩
    · cases h1
    · simp only [Value.slice.injEq, Option.some.injEq, Addr.mk.injEq, and_true] at h1
      obtain ⟨rfl, -, rfl⟩ := h1
      simp only [List.length_append, List.length_cons, List.length_nil, Nat.zero_add] at h4 h7
      exact ⟨cur, h2, h3, h4, h5, h6, h7⟩
  have hv : cur[xs.length]? = some v := by
    have := congrArg (·[xs.length]?) htake
    simpa using this
  have cv : X.cell? ⟨g, xs.length, none⟩ = some v := (cell_of_row X g xs.length _ _ _ hg).trans hv
  have hend : Cp W M es cl (.slice (some ⟨g, 0, none⟩) xs.length cap) xs tot (X.setCell ⟨M + 1, 1, none⟩ (.slice (some ⟨g, 0, none⟩) xs.length cap)) :=
    h.stack (xs' := xs) ⟨by simp, .inr ⟨g, cap, cur, rfl, hM, hg, by omega, hmax, hcs, by
      have := congrArg (List.take xs.length) htake
      rw [List.take_take, Nat.mul_one, Nat.min_eq_left (by omega)] at this
      simpa using this⟩⟩
  have HE := Lib.hid hend; clear hend
  have HH := Lib.hid h; clear h
  clear hg htake hv hcs
  unfold maxLen at hmax
  obtain ⟨n, hn⟩ : ∃ n, n = xs.length := ⟨_, rfl⟩
  rw [← hn] at HE HH c1 cv hcap ⊢
  clear hn
  have hcI : (n : Int) + 1 ≤ (cap : Int) := by omega
  have q1 : (n : Int) + 1 - 1 = (n : Int) := by omega
  have q2 : IntKind.i64.wrap ((n : Int) + 1 - 1) = (n : Int) := by rw [IntKind.wrap_i64]; omega
  have q3 : (0 : Int) ≤ (n : Int) := by omega
  have q4 : (n : Int) < (n : Int) + 1 := by omega
  have q5 : (n : Int) ≤ (cap : Int) := by omega
  go_enter Tryd.func50, Tryd.ntmps50
  go_wp2
  go_ret
  exact ⟨rfl, HE.out, fun i hi => Below.heap_setCell _ _ _ _ (by dsimp only; omega)⟩

end Tree
end Go.Proofs.YtmbmhblogjkflaaDoor
