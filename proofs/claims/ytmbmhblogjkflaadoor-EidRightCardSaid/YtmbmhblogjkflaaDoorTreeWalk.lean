/-
  The order in which a stack copies a tree of lists. Conditions: the lists' places are unlike each other.
-/
import Derived.Test.YtmbmhblogjkflaaDoorTreeMath
namespace Go.Proofs.YtmbmhblogjkflaaDoor
namespace Tree
open Nd

/-- What the copier has: the stack (its top first), the lists whose copies are finished. -/
structure Wk where
  stack : List Nd
  fin : List Nd
/-- One round. -/
def Wk.step (s : Wk) : Wk :=
  match s.stack with
  | [] => s
  | x :: r => ⟨x.subs.reverse ++ r, x :: s.fin⟩
/-- A round that can be made, with no more than B on the stack. -/
def Wk.Good (B : Nat) (s : Wk) : Prop := ∃ x r, s.stack = x :: r ∧ x.isAt = true ∧ r.length + x.els.length ≤ B ∧ ((x.subs ++ x :: (r ++ s.fin)).map g).Nodup
inductive Walks (B : Nat) : Wk → Wk → Nat → Prop where
  | nil (s : Wk) : Walks B s s 0
  | step (s t : Wk) (n : Nat) : s.Good B → Walks B s.step t n → Walks B s t (n + 1)
theorem Walks.trans {B : Nat} {s t u : Wk} {n m : Nat} (h : Walks B s t n) (k : Walks B t u m) : Walks B s u (n + m) := by
  induction h with
  | nil s => rw [Nat.zero_add]; exact k
  | step s t n hg _ ih => rw [show n + 1 + m = (n + m) + 1 by omega]; exact .step _ _ _ hg (ih k)

theorem tops_sub (l : List Nd) (hl : ∀ x ∈ l, x.isAt = true) : (l.map g).Sublist (gsOf l) := by
  induction l with
  | nil => exact .slnil
  | cons a r ih =>
    rw [gsOf_cons, List.map_cons]
    have h1 : [a.g].Sublist (gs a) := List.singleton_sublist.2 (g_mem (hl a List.mem_cons_self))
    exact h1.append (ih fun x hx => hl x (List.mem_cons_of_mem _ hx))
theorem allOf_reverse (m : List Nd) : (allOf m.reverse).Perm (allOf m) := by
  induction m with
  | nil => exact .refl _
  | cons a m ih =>
    rw [List.reverse_cons, allOf_append]
    simp only [allOf, List.append_nil]
    exact (List.perm_append_comm).trans (ih.append_left _)

/-- One list, copied whole. -/
def Two (x : Nd) : Prop := x.isAt = true → ∀ (B : Nat) (r fin : List Nd), r.length + cnt x + 1 ≤ B → (gs x ++ (r ++ fin).map g).Nodup → ∃ n fin', Walks B ⟨x :: r, fin⟩ ⟨r, fin'⟩ n ∧ fin'.Perm (all x ++ fin)
theorem list_walks (l : List Nd) (hl : ∀ x ∈ l, x.isAt = true) (h2 : ∀ x ∈ l, Two x) : ∀ (B : Nat) (r fin : List Nd), r.length + room l ≤ B → (gsOf l ++ (r ++ fin).map g).Nodup → ∃ n fin', Walks B ⟨l ++ r, fin⟩ ⟨r, fin'⟩ n ∧ fin'.Perm (allOf l ++ fin) := by
  induction l with
  | nil => intro B r fin _ _; exact ⟨0, fin, .nil _, .refl _⟩
  | cons a l ih =>
    intro B r fin hB hn
    simp only [room] at hB
    have hlr := room_len l
    have hts := tops_sub l fun x hx => hl x (List.mem_cons_of_mem _ hx)
    rw [gsOf_cons] at hn
    have hn1 : (gs a ++ ((l ++ r) ++ fin).map g).Nodup := by
      refine hn.sublist ?_
      rw [List.append_assoc (gs a), List.append_assoc l, List.map_append (l₁ := l)]
      exact (List.Sublist.refl _).append (hts.append (List.Sublist.refl _))
    obtain ⟨n1, f1, w1, p1⟩ := h2 a List.mem_cons_self (hl a List.mem_cons_self) B (l ++ r) fin (by rw [List.length_append]; omega) hn1
    have hn2 : (gsOf l ++ (r ++ f1).map g).Nodup := by
      have hp : (gsOf l ++ (r ++ f1).map g).Perm (gs a ++ gsOf l ++ (r ++ fin).map g) := by
        have h1 := p1.map g
        rw [List.perm_iff_count] at h1 ⊢
        intro q
        have := h1 q
        simp only [List.map_append, List.count_append, gs] at this ⊢
        omega
      exact hp.nodup_iff.2 hn
    obtain ⟨n2, f2, w2, p2⟩ := ih (fun x hx => hl x (List.mem_cons_of_mem _ hx)) (fun x hx => h2 x (List.mem_cons_of_mem _ hx)) B r f1 (by omega) hn2
    refine ⟨n1 + n2, f2, ?_, ?_⟩
    · exact Walks.trans (show Walks B ⟨a :: l ++ r, fin⟩ ⟨l ++ r, f1⟩ n1 from w1) w2
    · refine p2.trans ?_
      refine (p1.append_left _).trans ?_
      simp only [allOf]
      rw [List.append_assoc]
      exact List.perm_append_comm_assoc _ _ _
theorem two_all (x : Nd) : Two x := by
  refine ind (P := Two) ?_ ?_ x
  · intro h; cases h
  · intro q l ih _ B r fin hB hn
    have hsub : ∀ y ∈ (Nd.at q l).subs, y ∈ l ∧ y.isAt = true := fun y hy => List.mem_filter.1 hy
    have hrm : room ((Nd.at q l).subs.reverse) ≤ cntOf l + l.length := by rw [room_reverse]; exact room_filter l
    simp only [cnt] at hB
    have hgs : gsOf (Nd.at q l).subs = gsOf l := gsOf_subs l
    have hgr : (gsOf (Nd.at q l).subs.reverse).Perm (gsOf l) := by
      rw [← hgs]; exact (allOf_reverse _).map g
    rw [gs_at] at hn
    have hts := tops_sub (Nd.at q l).subs fun y hy => (hsub y hy).2
    rw [hgs] at hts
    have hgood : (((Nd.at q l).subs ++ .at q l :: (r ++ fin)).map g).Nodup := by
      have hp : (gsOf l ++ (q :: (r ++ fin).map g)).Perm (q :: gsOf l ++ (r ++ fin).map g) := List.perm_middle
      refine (hp.nodup_iff.2 hn).sublist ?_
      rw [List.map_append]
      exact hts.append (List.Sublist.refl _)
    have hn2 : (gsOf (Nd.at q l).subs.reverse ++ (r ++ .at q l :: fin).map g).Nodup := by
      have hp : (gsOf (Nd.at q l).subs.reverse ++ (r ++ .at q l :: fin).map g).Perm (q :: gsOf l ++ (r ++ fin).map g) := by
        rw [List.perm_iff_count] at hgr ⊢
        intro z
        have := hgr z
        simp only [List.map_append, List.map_cons, List.count_append, List.count_cons, Nd.g, List.cons_append] at this ⊢
        omega
      exact hp.nodup_iff.2 hn
    obtain ⟨n, f, w, p⟩ := list_walks (Nd.at q l).subs.reverse (fun y hy => (hsub y (List.mem_reverse.1 hy)).2) (fun y hy => ih y (hsub y (List.mem_reverse.1 hy)).1) B r (.at q l :: fin) (by omega) hn2
    refine ⟨n + 1, f, .step _ _ _ ⟨.at q l, r, rfl, rfl, by simp only [els]; omega, hgood⟩ w, ?_⟩
    refine p.trans ?_
    simp only [all, List.cons_append]
    refine List.perm_middle.trans (List.Perm.cons _ (List.Perm.append_right _ ?_))
    refine (allOf_reverse _).trans ?_
    rw [show allOf (Nd.at q l).subs = allOf l from allOf_subs l]
end Tree
end Go.Proofs.YtmbmhblogjkflaaDoor
