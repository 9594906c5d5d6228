/-
  What a call on a reader tells, as one function, and the contract of the reference reader's Do. Conditions: its text is no longer than memory allows, its offset lies within it.
-/
import Derived.Test.YtkaeklcmhoidjaaS
import Derived.Test.YtkaeklcmhoidjaaT
namespace Go.Proofs.Ytkaeklcmhoidjaa
open Go.ChangeShapes Go.WideShapes Go.ChangeAt Go.RowKit
open Plain
set_option linter.unusedVariables false

/-- What a call tells, the offset and the error behind it. -/
def stepOf (s : ByteArray) (p : Nat) (c : Int) (j : Nat) (k : Int) : Value × Nat × Int :=
  match j with
  | 0 => (toldV (peekOf s p c).1.major (peekOf s p c).1.n (peekOf s p c).1.op ⟨#[]⟩ 0, p + (peekOf s p c).1.size, (peekOf s p c).2)
  | 1 => (toldV 0 (uintOf s p c).1 false ⟨#[]⟩ 0, (uintOf s p c).2.1, (uintOf s p c).2.2)
  | 2 => (toldV 0 0 false (strOf s p c 2 k).1 0, (strOf s p c 2 k).2.1, (strOf s p c 2 k).2.2)
  | 3 => (toldV 0 0 false (strOf s p c 3 k).1 0, (strOf s p c 3 k).2.1, (strOf s p c 3 k).2.2)
  | 4 => (toldV 0 0 false ⟨#[]⟩ (arrOf s p c).1, (arrOf s p c).2.1, (arrOf s p c).2.2)
  | _ => (toldV 0 0 false ⟨#[]⟩ 0, p, failC c 9)

theorem j_cases (kind : Nat) : kind % 6 = 0 ∨ kind % 6 = 1 ∨ kind % 6 = 2 ∨ kind % 6 = 3 ∨ kind % 6 = 4 ∨ kind % 6 = 5 := by omega

/-- What nothing but zero and an error comes to. -/
theorem step_quiet (s : ByteArray) (p : Nat) (c d : Int) (j : Nat) (k : Int) (hd : d ≠ 0) (hp : peekOf s p c = (hd0, d)) (hj : j ≤ 4) : stepOf s p c j k = (toldV 0 0 false ⟨#[]⟩ 0, p, d) := by
  have hu : uintOf s p c = (0, p, d) := by unfold uintOf; simp [hp, hd0]
  have hs : ∀ M, (M = 2 ∨ M = 3) → strOf s p c M k = (⟨#[]⟩, p, d) := by
    intro M hM
    unfold strOf
    simp only [hp]
    rw [if_pos (Or.inl (by simp only [hd0]; omega))]
    unfold failC
    rw [if_neg hd]
  have ha : arrOf s p c = (0, p, d) := by
    unfold arrOf
    simp only [hp]
    rw [if_pos (by simp [hd0])]
    unfold failC
    rw [if_neg hd]
  rcases (show j = 0 ∨ j = 1 ∨ j = 2 ∨ j = 3 ∨ j = 4 from by omega) with rfl | rfl | rfl | rfl | rfl
  · simp [stepOf, hp, hd0]
  · simp [stepOf, hu]
  · simp [stepOf, hs 2 (by omega)]
  · simp [stepOf, hs 3 (by omega)]
  · simp [stepOf, ha]

theorem step_five (s : ByteArray) (p : Nat) (c : Int) (k : Int) : stepOf s p c 5 k = (toldV 0 0 false ⟨#[]⟩ 0, p, failC c 9) := rfl

theorem badOf_zero (p : Nat) : badOf p 0 = -1 := rfl
theorem badOf_ne (p : Nat) {c : Int} (h : c ≠ 0) : badOf p c = p := by unfold badOf; rw [if_neg h]

theorem reads_as (s : ByteArray) (p : Nat) (hs : s.size ≤ maxLen) : ReadsAs s p (headL (s.data.toList.drop p)) := by
  intro w
  have := read_any (s.extract p s.size) w (by simp; omega)
  rw [Lib.extract_to_end] at this
  exact this

theorem cut_string (s : ByteArray) (q n : Nat) (h : q + n ≤ s.size) : (s.extract q s.size).extract 0 n = s.extract q (q + n) := by
  apply ByteArray.ext
  apply Array.toList_inj.1
  rw [Lib.extract_data, Lib.extract_to_end, Lib.extract_data, List.drop_zero]
  congr 1
  omega

/-- The answer of Do. -/
def DoPost (s : ByteArray) (w : World) (y : Value × Nat × Int) (e : Ending) (w' : World) : Prop :=
  e = .returned (.tuple #[refV s y.2.1 (badOf y.2.1 y.2.2) y.2.2, y.1]) ∧ Below w.heap.size w w'

theorem do_any (s : ByteArray) (p : Nat) (c : Int) (kind : Nat) (k : Int) (w : World) (hs : s.size ≤ maxLen) (hp : p ≤ s.size) (hk1 : -9223372036854775808 ≤ k) (hk2 : k ≤ 9223372036854775807) :
    Calls Try.prog 19 #[refV s p (badOf p c) c, .agg #[.int .u8 kind, .int .i64 k]] w (DoPost s w (stepOf s p c (kind % 6) k)) := by
  have hk6 : ∀ j : Nat, kind % 6 = j → (kind : Int) % 6 = (j : Int) := fun j h => by omega
  by_cases hc : c ≠ 0
  · have hpk : peekOf s p c = (hd0, c) := by unfold peekOf; rw [if_pos hc]
    have hst : stepOf s p c (kind % 6) k = (toldV 0 0 false ⟨#[]⟩ 0, p, c) := by
      rcases (show kind % 6 ≤ 4 ∨ kind % 6 = 5 from by omega) with h | h
      · exact step_quiet s p c c _ k hc hpk h
      · rw [h, step_five]; unfold failC; rw [if_neg hc]
    rw [hst]
    exact do_failed s p c kind k w hc
  · obtain rfl : c = 0 := by omega
    rw [badOf_zero]
    by_cases h5 : kind % 6 = 5
    · rw [h5, step_five, show failC 0 9 = 9 from rfl]
      exact do_fail s p (-1) kind k w (hk6 5 h5)
    · have hr := reads_as s p hs
      cases hx : headL (s.data.toList.drop p) with
      | none =>
        rw [hx] at hr
        have hpk : peekOf s p 0 = (hd0, 2) := by unfold peekOf; rw [if_neg (by simp), hx]
        rw [step_quiet s p 0 2 _ k (by decide) hpk (by omega)]
        exact do_none s p (-1) kind k w (by simp; omega) hs hp hr
      | some x =>
        rw [hx] at hr
        have hpk : peekOf s p 0 = (x, 0) := by unfold peekOf; rw [if_neg (by simp), hx]
        obtain ⟨h1, h9, hlen, h7, h64, hop⟩ := headL_size hx
        rw [List.length_drop, size_list] at hlen
        obtain ⟨m, n, o, z⟩ := x
        simp only [] at h1 h9 hlen h7 h64 hop
        have hle : p + z ≤ s.size := by omega
        have fin : ∀ (y : Value × Nat × Int) (P D N B E : Int) (t : Value), (y.2.1 : Int) = P → badOf y.2.1 y.2.2 = B → y.2.2 = E → y.1 = t →
            Calls Try.prog 19 #[refV s p (-1) 0, .agg #[.int .u8 kind, .int .i64 k]] w (fun e w' => e = .returned (.tuple #[refV s P B E, t]) ∧ Below w.heap.size w w') →
            Calls Try.prog 19 #[refV s p (-1) 0, .agg #[.int .u8 kind, .int .i64 k]] w (DoPost s w y) := by
          intro y P D N B E t e1 e2 e3 e4 h
          unfold DoPost
          rw [e1, e2, e3, e4]
          exact h
        rcases j_cases kind with hj | hj | hj | hj | hj | hj
        · rw [hj]
          refine fin _ (p + z) 0 0 (-1) 0 (toldV m n o ⟨#[]⟩ 0) ?_ ?_ ?_ ?_ (do_head s p (-1) kind k w m n o z (hk6 0 hj) hs h1 h9 hle h64 hr)
          · simp [stepOf, hpk]
          · simp [stepOf, hpk, badOf]
          · simp [stepOf, hpk]
          · simp [stepOf, hpk]
        · rw [hj]
          by_cases hm : m = 0
          · have hu : uintOf s p 0 = (n, p + z, 0) := by unfold uintOf; simp [hpk, hm]
            refine fin _ (p + z) 0 0 (-1) 0 (toldV 0 n false ⟨#[]⟩ 0) ?_ ?_ ?_ ?_ (do_uint s p (-1) kind k w m n o z (hk6 1 hj) hs h1 h9 hle h64 hr hm)
            all_goals simp [stepOf, hu, badOf]
          · have hu : uintOf s p 0 = (0, p, 2) := by unfold uintOf; simp [hpk, hm, failC]
            refine fin _ p 0 0 p 2 (toldV 0 0 false ⟨#[]⟩ 0) ?_ ?_ ?_ ?_ (do_uint_form s p (-1) kind k w m n o z (hk6 1 hj) hs h1 h9 hle h64 hr hm)
            all_goals simp [stepOf, hu, badOf]
        · rw [hj]
          by_cases hm : m = 2
          · cases o
            · by_cases hn : s.size - (p + z) < n
              · have hu : strOf s p 0 2 k = (⟨#[]⟩, p, 2) := by unfold strOf; simp [hpk, hm, hn, failC]
                refine fin _ p 0 0 p 2 (toldV 0 0 false ⟨#[]⟩ 0) ?_ ?_ ?_ ?_ (do_str_short_2 s p (-1) kind k w m n false z (hk6 2 hj) hs h1 h9 hle h64 hr hm rfl hn)
                all_goals simp [stepOf, hu, badOf]
              · by_cases hk0 : k < 0
                · have hu : strOf s p 0 2 k = (⟨#[]⟩, p, 4) := by unfold strOf; simp [hpk, hm, hn, hk0, failC]
                  refine fin _ p 0 0 p 4 (toldV 0 0 false ⟨#[]⟩ 0) ?_ ?_ ?_ ?_ (do_str_neg_2 s p (-1) kind k w m n false z (hk6 2 hj) hs h1 h9 hle h64 hr hm rfl (by omega) hk0)
                  all_goals simp [stepOf, hu, badOf]
                · by_cases hkn : k < n
                  · have hu : strOf s p 0 2 k = (⟨#[]⟩, p, 4) := by unfold strOf; simp [hpk, hm, hn, hkn, failC]
                    refine fin _ p 0 0 p 4 (toldV 0 0 false ⟨#[]⟩ 0) ?_ ?_ ?_ ?_ (do_str_long_2 s p (-1) kind k w m n false z (hk6 2 hj) hs h1 h9 hle h64 hr hm rfl (by omega) (by omega) hk2 hkn)
                    all_goals simp [stepOf, hu, badOf]
                  · have hu : strOf s p 0 2 k = (s.extract (p + z) (p + z + n), p + z + n, 0) := by
                      rw [← cut_string s (p + z) n (by omega)]
                      unfold strOf
                      simp [hpk, hm, hn, hk0, hkn]
                    refine fin _ (p + z + n) 0 0 (-1) 0 (toldV 0 0 false (s.extract (p + z) (p + z + n)) 0) ?_ ?_ ?_ ?_ (do_str_2 s p (-1) kind k w m n false z (hk6 2 hj) hs h1 h9 hle h64 hr hm rfl (by omega) (by omega) hk2 (by omega))
                    all_goals simp [stepOf, hu, badOf]
            · have hu : strOf s p 0 2 k = (⟨#[]⟩, p, 2) := by unfold strOf; simp [hpk, hm, failC]
              refine fin _ p 0 0 p 2 (toldV 0 0 false ⟨#[]⟩ 0) ?_ ?_ ?_ ?_ (do_str_open_2 s p (-1) kind k w m n true z (hk6 2 hj) hs h1 h9 hle h64 hr hm rfl)
              all_goals simp [stepOf, hu, badOf]
          · have hu : strOf s p 0 2 k = (⟨#[]⟩, p, 2) := by unfold strOf; simp [hpk, hm, failC]
            refine fin _ p 0 0 p 2 (toldV 0 0 false ⟨#[]⟩ 0) ?_ ?_ ?_ ?_ (do_str_form_2 s p (-1) kind k w m n o z (hk6 2 hj) hs h1 h9 hle h64 hr hm)
            all_goals simp [stepOf, hu, badOf]
        · rw [hj]
          by_cases hm : m = 3
          · cases o
            · by_cases hn : s.size - (p + z) < n
              · have hu : strOf s p 0 3 k = (⟨#[]⟩, p, 2) := by unfold strOf; simp [hpk, hm, hn, failC]
                refine fin _ p 0 0 p 2 (toldV 0 0 false ⟨#[]⟩ 0) ?_ ?_ ?_ ?_ (do_str_short_3 s p (-1) kind k w m n false z (hk6 3 hj) hs h1 h9 hle h64 hr hm rfl hn)
                all_goals simp [stepOf, hu, badOf]
              · by_cases hk0 : k < 0
                · have hu : strOf s p 0 3 k = (⟨#[]⟩, p, 4) := by unfold strOf; simp [hpk, hm, hn, hk0, failC]
                  refine fin _ p 0 0 p 4 (toldV 0 0 false ⟨#[]⟩ 0) ?_ ?_ ?_ ?_ (do_str_neg_3 s p (-1) kind k w m n false z (hk6 3 hj) hs h1 h9 hle h64 hr hm rfl (by omega) hk0)
                  all_goals simp [stepOf, hu, badOf]
                · by_cases hkn : k < n
                  · have hu : strOf s p 0 3 k = (⟨#[]⟩, p, 4) := by unfold strOf; simp [hpk, hm, hn, hkn, failC]
                    refine fin _ p 0 0 p 4 (toldV 0 0 false ⟨#[]⟩ 0) ?_ ?_ ?_ ?_ (do_str_long_3 s p (-1) kind k w m n false z (hk6 3 hj) hs h1 h9 hle h64 hr hm rfl (by omega) (by omega) hk2 hkn)
                    all_goals simp [stepOf, hu, badOf]
                  · have hu : strOf s p 0 3 k = (s.extract (p + z) (p + z + n), p + z + n, 0) := by
                      rw [← cut_string s (p + z) n (by omega)]
                      unfold strOf
                      simp [hpk, hm, hn, hk0, hkn]
                    refine fin _ (p + z + n) 0 0 (-1) 0 (toldV 0 0 false (s.extract (p + z) (p + z + n)) 0) ?_ ?_ ?_ ?_ (do_str_3 s p (-1) kind k w m n false z (hk6 3 hj) hs h1 h9 hle h64 hr hm rfl (by omega) (by omega) hk2 (by omega))
                    all_goals simp [stepOf, hu, badOf]
            · have hu : strOf s p 0 3 k = (⟨#[]⟩, p, 2) := by unfold strOf; simp [hpk, hm, failC]
              refine fin _ p 0 0 p 2 (toldV 0 0 false ⟨#[]⟩ 0) ?_ ?_ ?_ ?_ (do_str_open_3 s p (-1) kind k w m n true z (hk6 3 hj) hs h1 h9 hle h64 hr hm rfl)
              all_goals simp [stepOf, hu, badOf]
          · have hu : strOf s p 0 3 k = (⟨#[]⟩, p, 2) := by unfold strOf; simp [hpk, hm, failC]
            refine fin _ p 0 0 p 2 (toldV 0 0 false ⟨#[]⟩ 0) ?_ ?_ ?_ ?_ (do_str_form_3 s p (-1) kind k w m n o z (hk6 3 hj) hs h1 h9 hle h64 hr hm)
            all_goals simp [stepOf, hu, badOf]
        · rw [hj]
          by_cases hm : m = 4
          · cases o
            · by_cases hn : 1000 < n
              · have hu : arrOf s p 0 = (0, p, 4) := by unfold arrOf; simp [hpk, hm, hn, failC]
                refine fin _ p 0 0 p 4 (toldV 0 0 false ⟨#[]⟩ 0) ?_ ?_ ?_ ?_ (do_array_long s p (-1) kind k w m n false z (hk6 4 hj) hs h1 h9 hle h64 hr hm rfl hn)
                all_goals simp [stepOf, hu, badOf]
              · have hu : arrOf s p 0 = ((n : Int), p + z, 0) := by unfold arrOf; simp [hpk, hm, hn]
                refine fin _ (p + z) 0 0 (-1) 0 (toldV 0 0 false ⟨#[]⟩ n) ?_ ?_ ?_ ?_ (do_array s p (-1) kind k w m n false z (hk6 4 hj) hs h1 h9 hle h64 hr hm rfl (by omega))
                all_goals simp [stepOf, hu, badOf]
            · have hn0 := hop rfl
              have hu : arrOf s p 0 = (-1, p + z, 0) := by unfold arrOf; simp [hpk, hm, hn0]
              refine fin _ (p + z) 0 0 (-1) 0 (toldV 0 0 false ⟨#[]⟩ (-1)) ?_ ?_ ?_ ?_ (do_array_open s p (-1) kind k w m n true z (hk6 4 hj) hs h1 h9 hle h64 hr hm rfl)
              all_goals simp [stepOf, hu, badOf]
          · have hu : arrOf s p 0 = (0, p, 2) := by unfold arrOf; simp [hpk, hm, failC]
            refine fin _ p 0 0 p 2 (toldV 0 0 false ⟨#[]⟩ 0) ?_ ?_ ?_ ?_ (do_array_form s p (-1) kind k w m n o z (hk6 4 hj) hs h1 h9 hle h64 hr hm)
            all_goals simp [stepOf, hu, badOf]
        · exact absurd hj h5

end Go.Proofs.Ytkaeklcmhoidjaa
