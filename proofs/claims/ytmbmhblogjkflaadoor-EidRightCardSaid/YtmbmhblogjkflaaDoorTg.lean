/-
  Contracts of slices.Clone at a list, and of the copier's copyOf. Conditions: the tree lies in memory; its lists are counted.
-/
import Derived.Test.YtmbmhblogjkflaaDoorTf
namespace Go.Proofs.YtmbmhblogjkflaaDoor
namespace Tree
open Go.ChangeShapes Go.WideShapes Go.ChangeAt Go.RowKit Go.MapKept
open Nd
set_option linter.unusedVariables false
set_option maxRecDepth 100000

theorem addr_add (g j : Nat) : ((⟨g, 0, none⟩ : Addr).add j) = ⟨g, j, none⟩ := by
  simp [Addr.add]
  exact fun h => h.symm

/-- A list's cells. -/
def src (w : World) (g n : Nat) : List Value := (List.range (n * 5)).map fun i => (w.cell? ⟨g, i, none⟩).getD undef
theorem src_length (w : World) (g n : Nat) : (src w g n).length = n * 5 := by simp [src]
theorem src_get (w : World) (g n : Nat) {j : Nat} {u : Value} (h : (src w g n)[j]? = some u) : j < n * 5 ∧ u = (w.cell? ⟨g, j, none⟩).getD undef := by
  unfold src at h
  rw [List.getElem?_map] at h
  rcases Nat.lt_or_ge j (n * 5) with hj | hj
  · rw [List.getElem?_range hj] at h
    exact ⟨hj, by simpa using h.symm⟩
  · rw [List.getElem?_eq_none (by simpa using hj)] at h; cases h
theorem Lst.cell {w : World} {x : Nd} (h : Lst w x) {j : Nat} (hj : j < x.n * 5) : ∃ u, w.cell? ⟨x.g, j, none⟩ = some u ∧ u.oneCell' = true := by
  have hlt : j / 5 < x.els.length := by show j / 5 < x.n; omega
  obtain ⟨k, n, s, v, o, hc, hv⟩ := h.els (j / 5) _ (List.getElem?_eq_getElem hlt)
  have hm : j % 5 = 0 ∨ j % 5 = 1 ∨ j % 5 = 2 ∨ j % 5 = 3 ∨ j % 5 = 4 := by omega
  rcases hm with hm | hm | hm | hm | hm
  · exact ⟨_, by have := hc.c0; rwa [show j / 5 * 5 = j by omega] at this, rfl⟩
  · exact ⟨_, by have := hc.c1; rwa [show j / 5 * 5 + 1 = j by omega] at this, rfl⟩
  · exact ⟨_, by have := hc.c2; rwa [show j / 5 * 5 + 2 = j by omega] at this, rfl⟩
  · refine ⟨_, by have := hc.c3; rwa [show j / 5 * 5 + 3 = j by omega] at this, ?_⟩
    generalize x.els[j / 5] = y at hv
    cases y with
    | no => obtain ⟨A, cap, rfl⟩ := hv; rfl
    | «at» q l => obtain ⟨cap, rfl, _⟩ := hv; rfl
  · exact ⟨_, by have := hc.c4; rwa [show j / 5 * 5 + 4 = j by omega] at this, rfl⟩

set_option maxHeartbeats 2000000 in
/-- slices.Clone. -/
theorem clone_any {w : World} {x : Nd} (hL : Lst w x) (cap : Nat) :
    Calls Tryd.prog 63 #[.slice (some ⟨x.g, 0, none⟩) x.n cap] w fun e w' => ∃ v, e = .returned v ∧ w'.ownsRow w.heap.size 29 5 v x.n (src w x.g x.n) ∧ Below w.heap.size w w' := by
  obtain ⟨i0, hi, hz0, hz1, hz2⟩ := info_parts infoItemT
  have hlt := hL.row.lt
  have hfew := hL.few
  have hcell : ∀ j u, (src w x.g x.n)[j]? = some u → w.cell? ((⟨x.g, 0, none⟩ : Addr).add j) = some u ∧ u.oneCell' = true := by
    intro j u hj
    obtain ⟨h1, h2⟩ := src_get _ _ _ hj
    obtain ⟨u', h3, h4⟩ := hL.cell h1
    rw [h3] at h2
    obtain rfl : u = u' := h2
    rw [addr_add]
    exact ⟨h3, h4⟩
  have hone : ∀ u ∈ src w x.g x.n, u.oneCell' = true := fun u hu => by
    obtain ⟨j, hj⟩ := List.getElem?_of_mem hu
    exact (hcell j u hj).2
  have hsl := src_length w x.g x.n
  obtain ⟨us, hus⟩ : ∃ l, l = src w x.g x.n := ⟨_, rfl⟩
  obtain ⟨g, hgx⟩ : ∃ l, l = x.g := ⟨_, rfl⟩
  obtain ⟨n, hnx⟩ : ∃ l, l = x.n := ⟨_, rfl⟩
  rw [← hus] at hsl hcell hone ⊢
  rw [← hgx] at hlt hcell ⊢
  rw [← hnx] at hsl hfew ⊢
  clear hus hgx hnx hL
  have q23 : ∀ (w : World) (a : Option Addr) (n c n' c' : Nat), (binOp .eql 27 (.slice a n c) (.slice none n' c')).run Tryd.prog w = .ok (.bool a.isNone) w := fun w a n c n' c' => Lib.run_eql_slice_nil w _ _ a n c n' c' Tryd.underlying27
  go_enter Tryd.func63, Tryd.ntmps63
  go_wp2_with (at_builtin; refine wpList_append_own_wide _ rfl _ _ 27 rfl w.heap.size 29 i0 _ 5 64 Tryd.underlying27 hi hz0 hz1 hz2 rfl (by decide) _ 0 [] rfl (World.ownsRow_lit (base := w.heap.size) (e := 29) (size := 5) w #[] 0 (Nat.le_refl _) (by unfold maxLen; omega) rfl) ⟨g, 0, none⟩ n cap us rfl ?c0 ?c1 ?c2 ?c3 ?c4 ?c5 ?_)
  case c0 => exact hsl
  case c1 =>
    intro j u hj
    have h := (hcell j u hj).1
    rw [addr_add] at h ⊢
    rw [World.cell?_of_block (w := w) (a := ⟨g, j, none⟩) (Below.heap_alloc w _ g hlt)]
    exact h
  case c2 => exact hone
  case c3 => unfold maxLen; omega
  case c4 => omega
  case c5 => simp
  intro v' w1 hown' hgrow _
  have hb1 : Below w.heap.size w w1 := ((Below.refl _ _).alloc (Nat.le_refl _) _).grown hgrow (by simp) (fun g hg => by simp [Value.ownBlock] at hg; omega)
  have HO := Lib.hid hown'; clear hown'
  clear hgrow
  go_wp2
  go_ret
  exact ⟨_, rfl, by simpa using HO.out, hb1⟩

/-- The row of a copy. -/
theorem own_any {w : World} {B n : Nat} {v : Value} {us : List Value} (h : w.ownsRow B 29 5 v n us) (hn : 0 < n) :
    ∃ h cap cur, v = .slice (some ⟨h, 0, none⟩) n cap ∧ B ≤ h ∧ w.heap[h]? = some (.cells cur 29 (0, 0)) ∧ ∀ (i : Nat) (u : Value), us[i]? = some u → cur[i]? = some u := by
  rcases h.2 with ⟨_, hz⟩ | ⟨g', cap, cur, hv, h1, hg, hcap, hcm, hsz, htake⟩
  · omega
  · refine ⟨g', cap, cur, hv, h1, hg, ?_⟩
    intro i u hi
    rw [← htake, List.getElem?_take] at hi
    split at hi
    · simpa using hi
    · cases hi

set_option maxHeartbeats 1000000 in
/-- copyOf at an empty list. -/
theorem copyOf_none (M : Nat) (A : Option Addr) (cap : Nat) (X : World) : Calls Tryd.prog 49 #[.pointer (some ⟨M + 1, 0, none⟩), .slice A 0 cap] X fun e w' => e = .returned (.slice none 0 0) ∧ w' = X := by
  go_enter Tryd.func49, Tryd.ntmps49
  go_wp2
  go_ret
  exact ⟨rfl, rfl⟩

/-- The copier and blocks beside it. -/
def Pq (W : World) (M : Nat) (K : Nat → Nat) (ent : List Nd) (P : List Nat) (xs : List Value) (tot : Nat) (X : World) : Prop :=
  ∃ st, Cp W M (entL K ent 0).toArray ent.length st xs tot X ∧ ∀ k ∈ P, M + 2 ≤ k ∧ k < X.heap.size ∧ st.ownBlock ≠ some k

section
variable {W X Y : World} {M : Nat} {K : Nat → Nat} {ent : List Nd} {P : List Nat} {xs : List Value} {tot : Nat}
theorem Pq.next (h : Pq W M K ent P xs tot X) (hb : Below X.heap.size X Y) : Pq W M K ent P xs tot Y := by
  obtain ⟨st, c, hp⟩ := h
  exact ⟨st, c.next hb, fun k hk => ⟨(hp k hk).1, Nat.lt_of_lt_of_le (hp k hk).2.1 hb.size, (hp k hk).2.2⟩⟩
theorem Pq.drew (h : Pq W M K ent P xs tot X) : Pq W M K ent P xs tot X.drew := h.next (Below.refl _ _).drew
theorem Pq.alloc (h : Pq W M K ent P xs tot X) (o : Obj) : Pq W M K ent P xs tot (X.alloc o) := h.next ((Below.refl _ _).alloc (Nat.le_refl _) o)
theorem Pq.c0 (h : Pq W M K ent P xs tot X) : X.cell? ⟨M + 1, 0, none⟩ = some (.map (some M)) := by obtain ⟨st, c, -⟩ := h; exact c.c0
theorem Pq.c2 (h : Pq W M K ent P xs tot X) : X.cell? ⟨M + 1, 2, none⟩ = some (.int .u64 tot) := by obtain ⟨st, c, -⟩ := h; exact c.c2
theorem Pq.below (h : Pq W M K ent P xs tot X) : Below M W X := by obtain ⟨st, c, -⟩ := h; exact c.below
theorem Pq.map (h : Pq W M K ent P xs tot X) : X.heap[M]? = some (mapO K ent) := by obtain ⟨st, c, -⟩ := h; exact c.map
theorem Pq.size (h : Pq W M K ent P xs tot X) : M + 2 ≤ X.heap.size := by obtain ⟨st, c, -⟩ := h; exact c.size
/-- A new block comes beside. -/
theorem Pq.add (h : Pq W M K ent P xs tot X) (hb : Below X.heap.size X Y) {k : Nat} (hk : X.heap.size ≤ k) (hk2 : k < Y.heap.size) : Pq W M K ent (k :: P) xs tot Y := by
  have hsz := h.size
  obtain ⟨st, c, hp⟩ := h.next hb
  obtain ⟨st', c', hp'⟩ := h
  refine ⟨st', c'.next hb, fun q hq => ?_⟩
  rcases List.mem_cons.1 hq with rfl | hq
  · exact ⟨by omega, hk2, fun e => by have := (row_lt c'.row q e).2; omega⟩
  · exact ⟨(hp' q hq).1, Nat.lt_of_lt_of_le (hp' q hq).2.1 hb.size, (hp' q hq).2.2⟩
theorem Pq.push (h : Pq W M K ent P xs tot X) (hl : xs.length ≤ 2000000) (A : Option Addr) (n c : Nat) :
    Calls Tryd.prog 59 #[.pointer (some ⟨M + 1, 0, none⟩), .slice A n c] X fun e w' => e = .returned (.tuple #[]) ∧ Pq W M K ent P (xs ++ [.slice A n c]) tot w' ∧ ∀ k ∈ P, w'.heap[k]? = X.heap[k]? := by
  obtain ⟨st, c0, hp⟩ := h
  refine (push_any W M _ _ st xs tot X c0 hl A n c).mono ?_
  rintro e w' ⟨rfl, q, cap, c1, hat, hkeep⟩
  have hk : ∀ k ∈ P, w'.heap[k]? = X.heap[k]? := fun k hk => hkeep k (hp k hk).2.1 (by have := (hp k hk).1; omega) (hp k hk).2.2
  refine ⟨rfl, ⟨_, by simpa using c1, fun k hk' => ⟨(hp k hk').1, ?_, ?_⟩⟩, hk⟩
  · have h1 := hk k hk'
    rw [Array.getElem?_eq_getElem (hp k hk').2.1] at h1
    exact lt_of_obj h1
  · intro e
    have e' : q = k := by simpa [Value.ownBlock] using e
    rcases hat with h1 | h1
    · exact (hp k hk').2.2 (by rw [h1, e'])
    · have := (hp k hk').2.1; omega
theorem Pq.pop {v : Value} (h : Pq W M K ent P (xs ++ [v]) tot X) :
    Calls Tryd.prog 50 #[.pointer (some ⟨M + 1, 0, none⟩)] X fun e w' => e = .returned v ∧ Pq W M K ent P xs tot w' ∧ ∀ k ∈ P, w'.heap[k]? = X.heap[k]? := by
  obtain ⟨st, c0, hp⟩ := h
  obtain ⟨q, cap, hst⟩ : ∃ q cap, st = .slice (some ⟨q, 0, none⟩) (xs.length + 1) cap := by
    rcases c0.row.2 with ⟨_, h2⟩ | ⟨q, cap, cur, h1, _⟩
    · simp at h2
    · exact ⟨q, cap, by rw [h1]; simp⟩
  subst hst
  refine (pop_any W M _ _ q cap xs v tot X c0).mono ?_
  rintro e w' ⟨rfl, c1, hkeep⟩
  have hk : ∀ k ∈ P, w'.heap[k]? = X.heap[k]? := fun k hk => hkeep k (by have := (hp k hk).1; omega)
  refine ⟨rfl, ⟨_, c1, fun k hk' => ⟨(hp k hk').1, ?_, fun e => (hp k hk').2.2 e⟩⟩, hk⟩
  have h1 := hk k hk'
  rw [Array.getElem?_eq_getElem (hp k hk').2.1] at h1
  exact lt_of_obj h1
theorem Pq.stack_some {v : Value} (h : Pq W M K ent P (xs ++ [v]) tot X) : ∃ q cap, X.cell? ⟨M + 1, 1, none⟩ = some (.slice (some ⟨q, 0, none⟩) (xs.length + 1) cap) := by
  obtain ⟨st, c0, hs⟩ := h
  rcases c0.row.2 with ⟨_, h2⟩ | ⟨q, cap, cur, h1, _⟩
  · simp at h2
  · exact ⟨q, cap, by rw [c0.c1, h1]; simp⟩
theorem Pq.stack_none (h : Pq W M K ent P [] tot X) : ∃ A cap, X.cell? ⟨M + 1, 1, none⟩ = some (.slice A 0 cap) := by
  obtain ⟨st, c0, hs⟩ := h
  rcases c0.row.2 with ⟨h1, h2⟩ | ⟨q, cap, cur, h1, _⟩
  · exact ⟨none, 0, by rw [c0.c1, h1]⟩
  · exact ⟨_, cap, by rw [c0.c1, h1]; rfl⟩
/-- A cell beside is changed. -/
theorem Pq.set (h : Pq W M K ent P xs tot X) {k : Nat} (hk : k ∈ P) (i : Nat) (u : Value) : Pq W M K ent P xs tot (X.setCell ⟨k, i, none⟩ u) := by
  obtain ⟨st, c0, hp⟩ := h
  exact ⟨st, c0.other u (hp k hk).1 (hp k hk).2.2, fun q hq => ⟨(hp q hq).1, by simpa using (hp q hq).2.1, (hp q hq).2.2⟩⟩
theorem Pq.look (h : Pq W M K ent P xs tot X) (hM : M = W.heap.size) {root : Nd} (hF : Forest W root) (hsub : ∀ y ∈ ent, y ∈ root.all) {y : Nd} (hy : y ∈ ent) :
    (Instr.lookup 62 (.map (some M)) (keyP y.g y.n) false).run Tryd.prog X = .ok (.pointer (some ⟨K y.g, 0, none⟩)) X := by
  have hr : ∀ z ∈ ent, Row z.g X := fun z hz => (hF.lst z (hsub z hz)).row.keep (h.below.block z.g (by have := (hF.lst z (hsub z hz)).row.lt; omega))
  exact Tree.look_in K ent y M X h.map (hr y hy) hr (fun z hz e => by rw [nodup_inj hF.nodup (hsub z hz) (hsub y hy) e]) (List.mem_map_of_mem hy)
end
end Tree
end Go.Proofs.YtmbmhblogjkflaaDoor
