/-
  Plain: what is read is what is written, and lies within the bytes. Conditions: none.
-/
import Derived.Test.YtpmepnejjjlodaaPure
namespace Go.Proofs.Ytpmepnejjjlodaa
open Go.ChangeShapes Go.WideShapes Go.ChangeAt Go.RowKit
open Plain
set_option linter.unusedVariables false

/-- What holds of what was read. -/
def Good (d : Nat) (t : List UInt8) : Res It → Prop
  | .ok x u => u ≤ t.length ∧ bytesOf x = t.take u ∧ validB x d = true ∧ AllFit x
  | .err a c => a ≤ t.length ∧ (c = 2 ∨ c = 3 ∨ c = 4)

def GoodL (d m : Nat) (t : List UInt8) : Res (List It) → Prop
  | .ok l u => u ≤ t.length ∧ bytesL l = t.take u ∧ validL l d = true ∧ (∀ x ∈ l, AllFit x) ∧ l.length = m
  | .err a c => a ≤ t.length ∧ (c = 2 ∨ c = 3 ∨ c = 4)

def GoodO (d m : Nat) (t : List UInt8) : Res (List It) → Prop
  | .ok l u => u ≤ t.length ∧ bytesL l ++ [255] = t.take u ∧ validL l d = true ∧ (∀ x ∈ l, AllFit x) ∧ l.length ≤ m
  | .err a c => a ≤ t.length ∧ (c = 2 ∨ c = 3 ∨ c = 4)

theorem take_take_drop {α : Type} (t : List α) (u v : Nat) (h : u ≤ t.length) : t.take u ++ (t.drop u).take v = t.take (u + v) := by
  rw [List.take_add]

theorem many_good (d : Nat) (f : List UInt8 → Res It) (N : Nat) (hf : ∀ t : List UInt8, t.length ≤ N → Good d t (f t)) : ∀ (m : Nat) (t : List UInt8), t.length ≤ N → GoodL d m t (readMany f m t)
  | 0, t, hN => by simp [readMany, GoodL, bytesL, validL]
  | m + 1, t, hN => by
    have h1 := hf t hN
    simp only [readMany]
    cases hx : f t with
    | err a c => rw [hx] at h1; exact h1
    | ok x u =>
      rw [hx] at h1
      obtain ⟨hu, hb, hv, ha⟩ := h1
      have h2 := many_good d f N hf m (t.drop u) (by rw [List.length_drop]; omega)
      simp only []
      cases hl : readMany f m (t.drop u) with
      | err a c =>
        rw [hl] at h2
        obtain ⟨k1, k2⟩ := h2
        rw [List.length_drop] at k1
        exact ⟨by omega, k2⟩
      | ok l v =>
        rw [hl] at h2
        obtain ⟨k1, k2, k3, k4, k5⟩ := h2
        rw [List.length_drop] at k1
        refine ⟨by omega, ?_, ?_, ?_, by simp [k5]⟩
        · simp only [bytesL]
          rw [hb, k2, take_take_drop t u v hu]
        · simp only [validL, hv, k3]
          rfl
        · intro y hy
          rcases List.mem_cons.1 hy with rfl | h
          · exact ha
          · exact k4 y h

theorem break_take {t : List UInt8} (h : isBreak t = true) : t.take 1 = [255] ∧ 1 ≤ t.length := by
  cases t with
  | nil => cases h
  | cons b r =>
    simp [isBreak] at h
    subst h
    simp

theorem open_good (d : Nat) (f : List UInt8 → Res It) (N : Nat) (hf : ∀ t : List UInt8, t.length ≤ N → Good d t (f t)) : ∀ (m : Nat) (t : List UInt8), t.length ≤ N → GoodO d m t (readOpen f m t)
  | 0, t, hN => by
    simp only [readOpen]
    cases hb : isBreak t
    · simp [GoodO]
    · obtain ⟨h1, h2⟩ := break_take hb
      simp only [if_true, GoodO]
      refine ⟨h2, ?_, rfl, ?_, Nat.zero_le _⟩
      · rw [h1]; rfl
      · intro x hx; cases hx
  | m + 1, t, hN => by
    have h1 := hf t hN
    simp only [readOpen]
    cases hbr : isBreak t
    · simp only [Bool.false_eq_true, if_false]
      cases hx : f t with
      | err a c => rw [hx] at h1; exact h1
      | ok x u =>
        rw [hx] at h1
        obtain ⟨hu, hb, hv, ha⟩ := h1
        have h2 := open_good d f N hf m (t.drop u) (by rw [List.length_drop]; omega)
        simp only []
        cases hl : readOpen f m (t.drop u) with
        | err a c =>
          rw [hl] at h2
          obtain ⟨k1, k2⟩ := h2
          rw [List.length_drop] at k1
          exact ⟨by omega, k2⟩
        | ok l v =>
          rw [hl] at h2
          obtain ⟨k1, k2, k3, k4, k5⟩ := h2
          rw [List.length_drop] at k1
          refine ⟨by omega, ?_, ?_, ?_, by simp; omega⟩
          · simp only [bytesL, List.append_assoc]
            rw [hb, k2, take_take_drop t u v hu]
          · simp only [validL, hv, k3]
            rfl
          · intro y hy
            rcases List.mem_cons.1 hy with rfl | h
            · exact ha
            · exact k4 y h
    · obtain ⟨h1, h2⟩ := break_take hbr
      simp only [if_true, GoodO]
      refine ⟨h2, ?_, rfl, ?_, Nat.zero_le _⟩
      · rw [h1]; rfl
      · intro x hx; cases hx

theorem head_open {t : List UInt8} {h : Hd} (hh : headL t = some h) (hm : h.major = 4) (ho : h.op = true) : h.size = 1 ∧ t.take 1 = [159] ∧ h.n = 0 := by
  cases t with
  | nil => cases hh
  | cons b r =>
    simp only [headL] at hh
    by_cases h31 : b.toNat % 32 = 31
    · rw [if_pos h31] at hh
      split at hh
      · injection hh with hh
        subst hh
        simp only [] at hm
        refine ⟨rfl, ?_, rfl⟩
        have hb : b.toNat = 159 := by omega
        have : b = 159 := by
          apply UInt8.toNat_inj.1
          rw [hb]
          rfl
        simp [this]
      · cases hh
    · rw [if_neg h31] at hh
      split at hh
      · injection hh with hh
        subst hh
        cases ho
      · cases hh

theorem plain_valid_leaf {k : Int} {n : Nat} {s : ByteArray} {d : Nat} (h : topB k n s 0 false = true) : validB (.mk k n s [] false) (d + 1) = true := by
  simp [validB, validL, h]

/-- What is read is what is written. -/
theorem read_good : ∀ (d : Nat) (t : List UInt8), t.length ≤ 140737488355328 → Good d t (readItem d t)
  | 0, t, _ => by
    simp only [readItem]
    cases headL t with
    | none => simp [Good]
    | some h => simp only []; cases kindOk h.major <;> simp [Good]
  | d + 1, t, ht => by
    have hf : ∀ t : List UInt8, t.length ≤ 140737488355328 → Good d t (readItem d t) := fun t h => read_good d t h
    cases hh : headL t with
    | none => simp [readItem, hh, Good]
    | some h =>
      obtain ⟨z1, z9, zl, z7, z64, zop⟩ := headL_size hh
      have hdl : (t.drop h.size).length ≤ 140737488355328 := by rw [List.length_drop]; omega
      simp only [readItem, hh]
      by_cases m0 : h.major = 0
      · rw [if_pos m0]
        have hop := headL_zero hh m0
        have hb := headL_back hh hop
        rw [m0] at hb
        refine ⟨zl, ?_, plain_valid_leaf (by simp [topB]), ?_⟩
        · simp only [bytesOf, if_true]
          exact hb.symm
        · exact .mk _ ⟨by simp [It.kind], by simp [It.kind], by simp only [It.n]; omega, by simp only [It.s]; decide, by simp [It.l]⟩ (fun y hy => by simp [It.l] at hy)
      rw [if_neg m0]
      by_cases m23 : h.major = 2 ∨ h.major = 3
      · rw [if_pos m23]
        by_cases hbad : h.op = true ∨ t.length - h.size < h.n
        · rw [if_pos hbad]
          simp [Good]
        · rw [if_neg hbad]
          simp only [not_or] at hbad
          have hop : h.op = false := by cases ho : h.op <;> simp_all
          have hb := headL_back hh hop
          have hnl : ((t.drop h.size).take h.n).length = h.n := by rw [List.length_take, List.length_drop]; omega
          have hsz : (⟨((t.drop h.size).take h.n).toArray⟩ : ByteArray).size = h.n := by
            rw [← size_data]
            simpa using hnl
          have hk : ¬ ((h.major : Int) = 0) ∧ (h.major : Int) < 4 := by omega
          refine ⟨by omega, ?_, plain_valid_leaf ?_, ?_⟩
          · simp only [bytesOf, hk.1, if_false, hk.2, if_true, Int.toNat_natCast, hsz]
            rw [← hb]
            exact take_take_drop t h.size h.n zl
          · have h23 : (h.major : Int) = 2 ∨ (h.major : Int) = 3 := by omega
            unfold topB
            rw [if_neg hk.1, if_pos h23]
            rfl
          · exact .mk _ ⟨by simp only [It.kind]; omega, by simp only [It.kind]; omega, by simp [It.n], by simp only [It.s, hsz]; omega, by simp [It.l]⟩ (fun y hy => by simp [It.l] at hy)
      rw [if_neg m23]
      by_cases m4 : h.major = 4
      · rw [if_pos m4]
        cases hop : h.op
        · simp only [Bool.false_eq_true, if_false]
          by_cases hn : 1000 < h.n
          · rw [if_pos hn]
            simp [Good]
          · rw [if_neg hn]
            have hb := headL_back hh hop
            rw [m4] at hb
            have hg := many_good d (readItem d) 140737488355328 hf h.n (t.drop h.size) hdl
            cases hl : readMany (readItem d) h.n (t.drop h.size) with
            | err a c =>
              rw [hl] at hg
              obtain ⟨k1, k2⟩ := hg
              rw [List.length_drop] at k1
              exact ⟨by omega, k2⟩
            | ok l u =>
              rw [hl] at hg
              obtain ⟨k1, k2, k3, k4, k5⟩ := hg
              rw [List.length_drop] at k1
              refine ⟨by omega, ?_, ?_, ?_⟩
              · have he : bytesOf (.mk 4 0 ⟨#[]⟩ l false) = headOf 4 l.length ++ bytesL l := by simp [bytesOf]
                rw [he, k5, ← hb, k2]
                exact take_take_drop t h.size u zl
              · simp only [validB, k3]
                simp [topB, k5]
                omega
              · exact .mk _ ⟨by simp [It.kind], by simp [It.kind], by simp [It.n], by simp only [It.s]; decide, by simp only [It.l]; omega⟩ (fun y hy => k4 y hy)
        · simp only [if_true]
          obtain ⟨o1, o2, o3⟩ := head_open hh m4 hop
          have hg := open_good d (readItem d) 140737488355328 hf 1000 (t.drop h.size) hdl
          cases hl : readOpen (readItem d) 1000 (t.drop h.size) with
          | err a c =>
            rw [hl] at hg
            obtain ⟨k1, k2⟩ := hg
            rw [List.length_drop] at k1
            exact ⟨by omega, k2⟩
          | ok l u =>
            rw [hl] at hg
            obtain ⟨k1, k2, k3, k4, k5⟩ := hg
            rw [List.length_drop] at k1
            refine ⟨by omega, ?_, ?_, ?_⟩
            · have he : bytesOf (.mk 4 0 ⟨#[]⟩ l true) = [159] ++ (bytesL l ++ [255]) := by simp [bytesOf]
              rw [he, k2, ← o2, o1]
              exact take_take_drop t 1 u (by omega)
            · simp only [validB, k3]
              simp [topB, k5]
            · exact .mk _ ⟨by simp [It.kind], by simp [It.kind], by simp [It.n], by simp only [It.s]; decide, by simp only [It.l]; omega⟩ (fun y hy => k4 y hy)
      · rw [if_neg m4]
        simp [Good]

end Go.Proofs.Ytpmepnejjjlodaa
