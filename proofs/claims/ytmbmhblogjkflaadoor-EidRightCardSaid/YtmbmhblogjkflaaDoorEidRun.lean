/-
  How a Name is read byte by byte: where the service name begins. Conditions: none.
-/
import Derived.Test.YtmbmhblogjkflaaDoorEidMath
namespace Go.Proofs.YtmbmhblogjkflaaDoor
namespace Eid

/-- One byte after another: the offset of the service name, once it is found. -/
def runS : Nat → Nat → List Nat → Nat
  | _, sv, [] => sv
  | i, sv, c :: l =>
    if 0 < sv then (if 33 ≤ c ∧ c ≤ 126 then runS (i + 1) sv l else 0)
    else if i < 2 then (if c = 47 then runS (i + 1) 0 l else 0)
    else if c = 47 ∧ 2 < i then runS (i + 1) (i + 1) l
    else if isLetter c then runS (i + 1) 0 l else 0
def svc (l : List Nat) : Nat := runS 0 0 l

theorem runS_tail (l : List Nat) : ∀ (i sv : Nat), 0 < sv → (∀ c ∈ l, 33 ≤ c ∧ c ≤ 126) → runS i sv l = sv := by
  induction l with
  | nil => intro i sv _ _; rfl
  | cons c l ih =>
    intro i sv h hl
    unfold runS
    rw [if_pos h, if_pos (hl c (List.mem_cons_self ..)), ih (i + 1) sv h fun c hc => hl c (List.mem_cons_of_mem _ hc)]
theorem runS_tail_ne (l : List Nat) : ∀ (i sv : Nat), 0 < sv → runS i sv l ≠ 0 → runS i sv l = sv ∧ ∀ c ∈ l, 33 ≤ c ∧ c ≤ 126 := by
  induction l with
  | nil => intro i sv _ _; exact ⟨rfl, (fun c hc => (by cases hc))⟩
  | cons c l ih =>
    intro i sv h hl
    unfold runS at hl ⊢
    rw [if_pos h] at hl ⊢
    by_cases hc : 33 ≤ c ∧ c ≤ 126
    · rw [if_pos hc] at hl ⊢
      obtain ⟨h1, h2⟩ := ih (i + 1) sv h hl
      refine ⟨h1, fun d hd => ?_⟩
      rcases List.mem_cons.1 hd with rfl | hd
      · exact hc
      · exact h2 d hd
    · rw [if_neg hc] at hl; exact absurd rfl hl
theorem letter_not {c : Nat} (h : isLetter c) : c ≠ 47 := fun e => by rcases h with h | h | h | h <;> omega
theorem runS_node (a b : List Nat) : ∀ (i : Nat), 2 ≤ i → 2 < i + a.length → (∀ c ∈ a, isLetter c) → (∀ c ∈ b, 33 ≤ c ∧ c ≤ 126) → runS i 0 (a ++ 47 :: b) = i + a.length + 1 := by
  induction a with
  | nil =>
    intro i h2 h3 _ hb
    show runS i 0 (47 :: b) = _
    unfold runS
    rw [if_neg (by omega), if_neg (by omega), if_pos ⟨rfl, by simpa using h3⟩, runS_tail b (i + 1) (i + 1) (by omega) hb]
    simp
  | cons c a ih =>
    intro i h2 h3 ha hb
    have hc := ha c (List.mem_cons_self ..)
    show runS i 0 (c :: (a ++ 47 :: b)) = _
    unfold runS
    rw [if_neg (by omega), if_neg (by omega), if_neg (fun h => letter_not hc h.1), if_pos hc, ih (i + 1) (by omega) (by omega) (fun c hc => ha c (List.mem_cons_of_mem _ hc)) hb]
    simp; omega
theorem runS_node_ne (l : List Nat) : ∀ (i : Nat), 2 ≤ i → runS i 0 l ≠ 0 → ∃ a b, l = a ++ 47 :: b ∧ 2 < i + a.length ∧ (∀ c ∈ a, isLetter c) ∧ (∀ c ∈ b, 33 ≤ c ∧ c ≤ 126) ∧ runS i 0 l = i + a.length + 1 := by
  induction l with
  | nil => intro i _ h; exact absurd rfl h
  | cons c l ih =>
    intro i h2 h
    unfold runS at h ⊢
    rw [if_neg (by omega), if_neg (by omega)] at h ⊢
    by_cases hc : c = 47 ∧ 2 < i
    · rw [if_pos hc] at h ⊢
      obtain ⟨h1, h3⟩ := runS_tail_ne l (i + 1) (i + 1) (by omega) h
      exact ⟨[], l, by rw [hc.1]; rfl, by simpa using hc.2, (fun c hc => (by cases hc)), h3, (by rw [h1]; rfl)⟩
    · rw [if_neg hc] at h ⊢
      by_cases hl : isLetter c
      · rw [if_pos hl] at h ⊢
        obtain ⟨a, b, e, h3, h4, h5, h6⟩ := ih (i + 1) (by omega) h
        refine ⟨c :: a, b, by rw [e]; rfl, by simp; omega, fun d hd => ?_, h5, by rw [h6]; simp; omega⟩
        rcases List.mem_cons.1 hd with rfl | hd
        · exact hl
        · exact h4 d hd
      · rw [if_neg hl] at h; exact absurd rfl h
theorem svc_full {l a b : List Nat} (h : Full l a b) : svc l = a.length + 3 := by
  have hp : 0 < a.length := List.length_pos_iff.2 h.2.1
  rw [h.1]
  show runS 0 0 (47 :: 47 :: (a ++ 47 :: b)) = _
  unfold runS
  rw [if_neg (by omega), if_pos (by omega), if_pos rfl]
  unfold runS
  rw [if_neg (by omega), if_pos (by omega), if_pos rfl, runS_node a b 2 (by omega) (by omega) h.2.2.1 h.2.2.2]
  omega
theorem svc_ne {l : List Nat} (h : svc l ≠ 0) : ∃ a b, Full l a b := by
  unfold svc at h
  cases l with
  | nil => exact absurd rfl h
  | cons c l =>
    unfold runS at h
    rw [if_neg (by omega), if_pos (by omega)] at h
    by_cases hc : c = 47
    · rw [if_pos hc] at h
      cases l with
      | nil => exact absurd rfl h
      | cons d l =>
        unfold runS at h
        rw [if_neg (by omega), if_pos (by omega)] at h
        by_cases hd : d = 47
        · rw [if_pos hd] at h
          obtain ⟨a, b, e, h3, h4, h5, -⟩ := runS_node_ne l 2 (by omega) h
          exact ⟨a, b, by rw [hc, hd, e], fun h => by rw [h] at h3; simp at h3, h4, h5⟩
        · rw [if_neg hd] at h; exact absurd rfl h
    · rw [if_neg hc] at h; exact absurd rfl h
theorem svc_iff (l : List Nat) : 0 < svc l ↔ ∃ a b, Full l a b :=
  ⟨fun h => svc_ne (by omega), fun ⟨a, b, h⟩ => by rw [svc_full h]; omega⟩
theorem svc_none : svc noneL = 0 := by rfl
theorem take_svc {l a b : List Nat} (h : Full l a b) : l.take (svc l) = nodeL l := by
  rw [svc_full h, nodeL_full h, h.1, show a.length + 3 = a.length + 1 + 1 + 1 by omega]
  simp only [List.take_succ_cons]
  rw [List.take_append, List.take_of_length_le (by omega)]
  simp
theorem full_len {l a b : List Nat} (h : Full l a b) : l.length = a.length + b.length + 3 := by
  rw [h.1]; simp; omega
theorem svc_le (l : List Nat) : svc l ≤ l.length := by
  by_cases h : 0 < svc l
  · obtain ⟨a, b, hf⟩ := (svc_iff l).1 h
    rw [svc_full hf, full_len hf]; omega
  · omega
/-- One step. -/
theorem runS_step (l : List Nat) (i sv c : Nat) (h : l[i]? = some c) : runS i sv (l.drop i) =
    if 0 < sv then (if 33 ≤ c ∧ c ≤ 126 then runS (i + 1) sv (l.drop (i + 1)) else 0)
    else if i < 2 then (if c = 47 then runS (i + 1) 0 (l.drop (i + 1)) else 0)
    else if c = 47 ∧ 2 < i then runS (i + 1) (i + 1) (l.drop (i + 1))
    else if isLetter c then runS (i + 1) 0 (l.drop (i + 1)) else 0 := by
  obtain ⟨hi, rfl⟩ := List.getElem?_eq_some_iff.1 h
  rw [List.drop_eq_getElem_cons hi]
  rfl
theorem runS_end (l : List Nat) (i sv : Nat) (h : l.length ≤ i) : runS i sv (l.drop i) = sv := by
  rw [List.drop_of_length_le h]; rfl
end Eid
end Go.Proofs.YtmbmhblogjkflaaDoor
