/-
  Trees of lists as plain data, and the order in which a stack counts them. Conditions: the lists' places are unlike each other.
-/
import Derived.Deep.AppendLies
namespace Go.Proofs.YtmbmhblogjkflaaDoor
namespace Tree

/-- An element's list: none, or one at a place, with the lists of its own elements. -/
inductive Nd where
  | no
  | at (g : Nat) (els : List Nd)

namespace Nd
def isAt : Nd → Bool
  | .no => false
  | .at _ _ => true
def g : Nd → Nat
  | .no => 0
  | .at g _ => g
def els : Nd → List Nd
  | .no => []
  | .at _ l => l
/-- The lists in it that are not empty. -/
def subs (x : Nd) : List Nd := x.els.filter isAt
theorem ind {P : Nd → Prop} (h0 : P .no) (h : ∀ g l, (∀ x ∈ l, P x) → P (.at g l)) : ∀ x, P x := by
  intro x
  refine Nd.rec (motive_1 := P) (motive_2 := fun l => ∀ x ∈ l, P x) h0 ?_ ?_ ?_ x
  · intro g l ih; exact h g l ih
  · intro x hx; cases hx
  · intro x r hx hr y hy
    rcases List.mem_cons.1 hy with rfl | h'
    · exact hx
    · exact hr y h'
mutual
/-- All lists in it, itself among them. -/
def all : Nd → List Nd
  | .no => []
  | .at g l => .at g l :: allOf l
def allOf : List Nd → List Nd
  | [] => []
  | x :: r => all x ++ allOf r
/-- How many items it has, on all levels. -/
def cnt : Nd → Nat
  | .no => 0
  | .at _ l => l.length + cntOf l
def cntOf : List Nd → Nat
  | [] => 0
  | x :: r => cnt x + cntOf r
end
theorem mem_allOf {l : List Nd} {y : Nd} : y ∈ allOf l ↔ ∃ x ∈ l, y ∈ all x := by
  induction l with
  | nil => simp [allOf]
  | cons x r ih => simp [allOf, ih]
theorem all_at {x y : Nd} (h : y ∈ all x) : y.isAt = true := by
  revert y
  refine ind (P := fun x => ∀ {y}, y ∈ all x → y.isAt = true) ?_ ?_ x
  · intro y h; simp [all] at h
  · intro g l ih y h
    simp only [all, List.mem_cons, mem_allOf] at h
    rcases h with rfl | ⟨x, hx, hy⟩
    · rfl
    · exact ih x hx hy
theorem self_mem {x : Nd} (h : x.isAt = true) : x ∈ all x := by
  cases x with
  | no => cases h
  | «at» g l => simp [all]
theorem cntOf_subs (l : List Nd) : cntOf (l.filter isAt) = cntOf l := by
  induction l with
  | nil => rfl
  | cons x r ih =>
    cases x with
    | no => rw [List.filter_cons_of_neg (by simp [isAt])]; simp [cntOf, cnt, ih]
    | «at» g l => rw [List.filter_cons_of_pos (by rfl)]; simp [cntOf, ih]
theorem allOf_subs (l : List Nd) : allOf (l.filter isAt) = allOf l := by
  induction l with
  | nil => rfl
  | cons x r ih =>
    cases x with
    | no => rw [List.filter_cons_of_neg (by simp [isAt])]; simp [allOf, all, ih]
    | «at» g l => rw [List.filter_cons_of_pos (by rfl)]; simp [allOf, ih]
theorem allOf_append (l m : List Nd) : allOf (l ++ m) = allOf l ++ allOf m := by
  induction l with
  | nil => rfl
  | cons x r ih => simp [allOf, ih]
/-- Their places. -/
def gs (x : Nd) : List Nat := (all x).map g
def gsOf (l : List Nd) : List Nat := (allOf l).map g
theorem gs_at (q : Nat) (l : List Nd) : gs (.at q l) = q :: gsOf l := rfl
theorem gsOf_cons (x : Nd) (r : List Nd) : gsOf (x :: r) = gs x ++ gsOf r := by simp [gsOf, gs, allOf]
theorem gsOf_append (l m : List Nd) : gsOf (l ++ m) = gsOf l ++ gsOf m := by simp [gsOf, allOf_append]
theorem gsOf_subs (l : List Nd) : gsOf (l.filter isAt) = gsOf l := by simp [gsOf, allOf_subs]
theorem g_mem {x : Nd} (h : x.isAt = true) : x.g ∈ gs x := List.mem_map_of_mem (self_mem h)
end Nd
open Nd

/-- What the count has: the stack (its top first), what is entered, what is done. -/
structure Sg where
  stack : List Nd
  ent : List Nd
  done : List Nat
/-- One round. -/
def Sg.step (s : Sg) : Sg :=
  match s.stack with
  | [] => s
  | x :: r => if x.g ∈ s.ent.map g then ⟨r, s.ent, x.g :: s.done⟩ else ⟨x.subs.reverse ++ x :: r, s.ent ++ [x], s.done⟩
/-- A round that can be made, with no more than B on the stack. -/
def Sg.Good (B : Nat) (s : Sg) : Prop := ∃ x r, s.stack = x :: r ∧ x.isAt = true ∧ r.length + 1 + x.els.length ≤ B ∧ (x.g ∈ s.ent.map g → x ∈ s.ent ∧ x.g ∉ s.done ∧ ∀ y ∈ x.subs, y ∈ s.ent ∧ y.g ∈ s.done) ∧ (x.g ∉ s.ent.map g → x.g ∉ s.done ∧ ∀ y ∈ x.subs, y.g ∉ (s.ent ++ [x]).map g)
inductive Runs (B : Nat) : Sg → Sg → Nat → Prop where
  | nil (s : Sg) : Runs B s s 0
  | step (s t : Sg) (n : Nat) : s.Good B → Runs B s.step t n → Runs B s t (n + 1)
theorem Runs.trans {B : Nat} {s t u : Sg} {n m : Nat} (h : Runs B s t n) (k : Runs B t u m) : Runs B s u (n + m) := by
  induction h with
  | nil s => rw [Nat.zero_add]; exact k
  | step s t n hg _ ih => rw [show n + 1 + m = (n + m) + 1 by omega]; exact .step _ _ _ hg (ih k)

/-- How much room lists take on the stack. -/
def room : List Nd → Nat
  | [] => 0
  | x :: r => cnt x + 1 + room r
theorem room_append (l m : List Nd) : room (l ++ m) = room l + room m := by
  induction l with
  | nil => simp [room]
  | cons a r ih => simp [room, ih]; omega
theorem room_reverse (l : List Nd) : room l.reverse = room l := by
  induction l with
  | nil => rfl
  | cons a r ih => rw [List.reverse_cons, room_append, ih]; simp [room]; omega
theorem room_filter (l : List Nd) : room (l.filter isAt) ≤ cntOf l + l.length := by
  induction l with
  | nil => simp [room]
  | cons a r ih =>
    cases a with
    | no => rw [List.filter_cons_of_neg (by simp [isAt])]; simp [cntOf, cnt]; omega
    | «at» g l => rw [List.filter_cons_of_pos (by rfl)]; simp [room, cntOf]; omega
theorem room_len (l : List Nd) : l.length ≤ room l := by
  induction l with
  | nil => simp
  | cons a r ih => simp [room]; omega
/-- One list, counted whole. -/
def One (x : Nd) : Prop := x.isAt = true → ∀ (B : Nat) (r ent : List Nd) (done : List Nat), r.length + cnt x + 1 ≤ B → (∀ q ∈ gs x, q ∉ ent.map g) → (∀ q ∈ gs x, q ∉ done) → (gs x).Nodup →
  ∃ n ent' done', Runs B ⟨x :: r, ent, done⟩ ⟨r, ent ++ ent', done'⟩ n ∧ (∀ y, y ∈ ent' ↔ y ∈ all x) ∧ ∀ q, q ∈ done' ↔ q ∈ done ∨ q ∈ gs x
theorem list_runs (l : List Nd) (hl : ∀ x ∈ l, x.isAt = true) (h1 : ∀ x ∈ l, One x) : ∀ (B : Nat) (r ent : List Nd) (done : List Nat), r.length + room l ≤ B → (∀ q ∈ gsOf l, q ∉ ent.map g) → (∀ q ∈ gsOf l, q ∉ done) → (gsOf l).Nodup →
    ∃ n ent' done', Runs B ⟨l ++ r, ent, done⟩ ⟨r, ent ++ ent', done'⟩ n ∧ (∀ y, y ∈ ent' ↔ y ∈ allOf l) ∧ ∀ q, q ∈ done' ↔ q ∈ done ∨ q ∈ gsOf l := by
  induction l with
  | nil =>
    intro B r ent done _ _ _ _
    refine ⟨0, [], done, ?_, by simp [allOf], by simp [gsOf, allOf]⟩
    rw [List.append_nil]; exact .nil _
  | cons x l ih =>
    intro B r ent done hB he hd hn
    rw [gsOf_cons] at he hd hn
    simp only [room] at hB
    have hlr := room_len l
    obtain ⟨hn1, hn2, hn3⟩ := List.nodup_append.1 hn
    obtain ⟨n1, e1, d1, r1, p1, p2⟩ := h1 x List.mem_cons_self (hl x List.mem_cons_self) B (l ++ r) ent done (by rw [List.length_append]; omega) (fun q hq => he q (List.mem_append_left _ hq)) (fun q hq => hd q (List.mem_append_left _ hq)) hn1
    obtain ⟨n2, e2, d2, r2, p3, p4⟩ := ih (fun y hy => hl y (List.mem_cons_of_mem _ hy)) (fun y hy => h1 y (List.mem_cons_of_mem _ hy)) B r (ent ++ e1) d1 (by omega) (by
      intro q hq hm
      rw [List.map_append, List.mem_append] at hm
      rcases hm with hm | hm
      · exact he q (List.mem_append_right _ hq) hm
      · obtain ⟨y, hy, rfl⟩ := List.mem_map.1 hm
        exact hn3 y.g (List.mem_map_of_mem ((p1 y).1 hy)) y.g hq rfl) (by
      intro q hq hm
      rcases (p2 q).1 hm with hm | hm
      · exact hd q (List.mem_append_right _ hq) hm
      · exact hn3 q hm q hq rfl) hn2
    refine ⟨n1 + n2, e1 ++ e2, d2, ?_, ?_, ?_⟩
    · rw [← List.append_assoc]; exact r1.trans r2
    · intro y; simp only [allOf, List.mem_append, p1, p3]
    · intro q; rw [p4, p2, gsOf_cons, List.mem_append, or_assoc]
theorem one_all (x : Nd) : One x := by
  refine ind (P := One) ?_ ?_ x
  · intro h; cases h
  · intro q l ih _ B r ent done hB he hd hn
    have hrm : room ((Nd.at q l).subs.reverse) ≤ cntOf l + l.length := by rw [room_reverse]; exact room_filter l
    simp only [cnt] at hB
    rw [gs_at] at he hd hn
    obtain ⟨hn1, hn2⟩ := List.nodup_cons.1 hn
    have hq : q ∉ ent.map g := he q List.mem_cons_self
    have hsub : ∀ y ∈ (Nd.at q l).subs, y ∈ l ∧ y.isAt = true := fun y hy => List.mem_filter.1 hy
    have hrev : gsOf ((Nd.at q l).subs.reverse) = gsOf ((Nd.at q l).subs.reverse) := rfl
    have hmem : ∀ z, z ∈ allOf ((Nd.at q l).subs.reverse) ↔ z ∈ allOf l := by
      intro z
      rw [mem_allOf, ← allOf_subs, mem_allOf]
      simp [Nd.subs, Nd.els]
    have hgm : ∀ z, z ∈ gsOf ((Nd.at q l).subs.reverse) ↔ z ∈ gsOf l := by
      intro z
      simp only [gsOf, List.mem_map, hmem]
    have hnd : (gsOf ((Nd.at q l).subs.reverse)).Nodup := by
      have hp : (allOf ((Nd.at q l).subs.reverse)).Perm (allOf (Nd.at q l).subs) := by
        generalize (Nd.at q l).subs = m
        induction m with
        | nil => exact .refl _
        | cons a m ih =>
          rw [List.reverse_cons, allOf_append]
          simp only [allOf, List.append_nil]
          exact (List.perm_append_comm).trans (ih.append_left _)
      have hp2 : (gsOf ((Nd.at q l).subs.reverse)).Perm (gsOf l) := by
        rw [← gsOf_subs l]
        exact hp.map g
      exact hp2.nodup_iff.2 hn2
    obtain ⟨n, e, d, hr, p1, p2⟩ := list_runs ((Nd.at q l).subs.reverse) (fun y hy => (hsub y (List.mem_reverse.1 hy)).2) (fun y hy => ih y (hsub y (List.mem_reverse.1 hy)).1) B (.at q l :: r) (ent ++ [.at q l]) done (by simp only [List.length_cons]; omega) (by
      intro z hz hm
      rw [hgm] at hz
      rw [List.map_append, List.mem_append] at hm
      rcases hm with hm | hm
      · exact he z (List.mem_cons_of_mem _ hz) hm
      · simp only [List.map_cons, List.map_nil, List.mem_singleton] at hm
        exact hn1 (by rw [hm] at hz; exact hz)) (by
      intro z hz
      rw [hgm] at hz
      exact hd z (List.mem_cons_of_mem _ hz)) hnd
    refine ⟨1 + n + 1, .at q l :: e, q :: d, ?_, ?_, ?_⟩
    · have s1 : Runs B ⟨.at q l :: r, ent, done⟩ ⟨(Nd.at q l).subs.reverse ++ .at q l :: r, ent ++ [.at q l], done⟩ 1 := by
        refine .step _ _ _ ⟨.at q l, r, rfl, rfl, by simp only [els]; omega, fun h => absurd h hq, fun _ => ⟨hd q List.mem_cons_self, fun y hy hm => ?_⟩⟩ ?_
        · have hyg : y.g ∈ gsOf l := by
            rw [← hgm]
            exact List.mem_map_of_mem (mem_allOf.2 ⟨y, List.mem_reverse.2 hy, self_mem (hsub y hy).2⟩)
          rw [List.map_append, List.mem_append] at hm
          rcases hm with hm | hm
          · exact he _ (List.mem_cons_of_mem _ hyg) hm
          · simp only [List.map_cons, List.map_nil, List.mem_singleton] at hm
            exact hn1 (by rw [hm] at hyg; exact hyg)
        · have : Sg.step ⟨.at q l :: r, ent, done⟩ = ⟨(Nd.at q l).subs.reverse ++ .at q l :: r, ent ++ [.at q l], done⟩ := by
            exact if_neg (show ¬ (Nd.at q l).g ∈ ent.map g from hq)
          rw [this]; exact .nil _
      have s3 : Runs B ⟨.at q l :: r, (ent ++ [.at q l]) ++ e, d⟩ ⟨r, (ent ++ [.at q l]) ++ e, q :: d⟩ 1 := by
        have hin : q ∈ ((ent ++ [Nd.at q l]) ++ e).map g := List.mem_map.2 ⟨Nd.at q l, by simp, rfl⟩
        refine .step _ _ _ ⟨.at q l, r, rfl, rfl, by simp only [els]; omega, fun _ => ⟨by simp, fun hm => ?_, fun y hy => ?_⟩, fun h => absurd hin h⟩ ?_
        · rcases (p2 q).1 hm with hm | hm
          · exact hd q List.mem_cons_self hm
          · exact hn1 ((hgm q).1 hm)
        · have hya : y ∈ allOf ((Nd.at q l).subs.reverse) := mem_allOf.2 ⟨y, List.mem_reverse.2 hy, self_mem (hsub y hy).2⟩
          exact ⟨List.mem_append_right _ ((p1 y).2 hya), (p2 _).2 (.inr (List.mem_map_of_mem hya))⟩
        · have : Sg.step ⟨.at q l :: r, (ent ++ [.at q l]) ++ e, d⟩ = ⟨r, (ent ++ [.at q l]) ++ e, q :: d⟩ := by
            exact if_pos (show (Nd.at q l).g ∈ ((ent ++ [Nd.at q l]) ++ e).map g from hin)
          rw [this]; exact .nil _
      have := (s1.trans hr).trans s3
      simpa using this
    · intro y
      simp only [all, List.mem_cons, p1, hmem]
    · intro z
      simp only [List.mem_cons, p2, hgm, gs_at]
      exact ⟨fun h => by rcases h with h | h | h; exact .inr (.inl h); exact .inl h; exact .inr (.inr h), fun h => by rcases h with h | h | h; exact .inr (.inl h); exact .inl h; exact .inr (.inr h)⟩
end Tree
end Go.Proofs.YtmbmhblogjkflaaDoor
