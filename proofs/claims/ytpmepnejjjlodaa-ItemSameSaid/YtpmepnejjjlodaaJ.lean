/-
  The plain mathematics of reading heads: what is written is read back, and what is read is what is written. Conditions: types 0 to 7, numbers that fit 64 bits.
-/
import Derived.Test.YtpmepnejjjlodaaI
namespace Go.Proofs.Ytpmepnejjjlodaa
open Plain
set_option linter.unusedVariables false

theorem val_be (k : Nat) : ∀ n : Nat, n < 256 ^ k → val (be n k) = n := by
  induction k with
  | zero => intro n h; simp [be, val]; omega
  | succ k ih =>
    intro n h
    rw [be, val_snoc, ih (n / 256) (by rw [Nat.pow_succ] at h; omega), UInt8.toNat_ofNat']
    omega

theorem be_val (k : Nat) : ∀ l : List UInt8, l.length = k → be (val l) k = l := by
  induction k with
  | zero => intro l h; rw [List.eq_nil_of_length_eq_zero h]; rfl
  | succ k ih =>
    intro l h
    rcases List.eq_nil_or_concat l with rfl | ⟨l', b, rfl⟩
    · simp at h
    · have hb := b.toNat_lt
      rw [List.concat_eq_append] at *
      have hl : l'.length = k := by simpa using h
      rw [val_snoc, be, show (val l' * 256 + b.toNat) / 256 = val l' from by omega, ih l' hl, show (val l' * 256 + b.toNat) % 256 = b.toNat from by omega, UInt8.ofNat_toNat]

theorem first_toNat (m low : Nat) (hm : m ≤ 7) (hl : low ≤ 31) : (first m low).toNat = 32 * m + low := by
  unfold first
  rw [UInt8.toNat_ofNat']
  exact Nat.mod_eq_of_lt (by omega)

theorem first_of (b : UInt8) : first (b.toNat / 32) (b.toNat % 32) = b := by
  unfold first
  rw [show 32 * (b.toNat / 32) + b.toNat % 32 = b.toNat from by omega, UInt8.ofNat_toNat]

theorem numOf_be (k least n : Nat) (r : List UInt8) (h : n < 256 ^ k) (h2 : least ≤ n) : numOf k least (be n k ++ r) = some (n, k) := by
  unfold numOf
  have hl := be_length n k
  rw [if_neg (by rw [List.length_append]; omega), List.take_append_of_le_length (by omega), List.take_of_length_le (by omega), val_be k n h, if_pos h2]

/-- What is written is read back. -/
theorem headL_headOf (m n : Nat) (r : List UInt8) (hm : m ≤ 7) (hn : n < 18446744073709551616) : headL (headOf m n ++ r) = some ⟨m, n, false, (headOf m n).length⟩ := by
  have go : ∀ (low k : Nat) (t : List UInt8), low < 31 → argOf low (t ++ r) = some (n, k) → t.length = k → headL ((first m low :: t) ++ r) = some ⟨m, n, false, (first m low :: t).length⟩ := by
    intro low k t hlow ha hk
    rw [List.cons_append]
    simp only [headL]
    rw [first_toNat m low hm (by omega), if_neg (by omega), show (32 * m + low) % 32 = low from by omega, ha, show (32 * m + low) / 32 = m from by omega]
    simp only [List.length_cons, hk, Nat.add_comm]
  unfold headOf
  by_cases h0 : n < 24
  · rw [if_pos h0]
    exact go n 0 [] (by omega) (by unfold argOf; rw [if_pos h0]) rfl
  rw [if_neg h0]
  by_cases h1 : n < 256
  · rw [if_pos h1]
    exact go 24 1 _ (by omega) (numOf_be 1 24 n r (by omega) (by omega)) (be_length _ _)
  rw [if_neg h1]
  by_cases h2 : n < 65536
  · rw [if_pos h2]
    exact go 25 2 _ (by omega) (numOf_be 2 256 n r (by omega) (by omega)) (be_length _ _)
  rw [if_neg h2]
  by_cases h3 : n < 4294967296
  · rw [if_pos h3]
    exact go 26 4 _ (by omega) (numOf_be 4 65536 n r (by omega) (by omega)) (be_length _ _)
  rw [if_neg h3]
  exact go 27 8 _ (by omega) (numOf_be 8 4294967296 n r (by omega) (by omega)) (be_length _ _)

theorem numOf_back {k least n j : Nat} {l : List UInt8} (h : numOf k least l = some (n, j)) : j = k ∧ l.take k = be n k ∧ least ≤ n ∧ n < 256 ^ k ∧ k ≤ l.length := by
  unfold numOf at h
  split at h
  · cases h
  · rename_i hl
    split at h
    · rename_i hv
      injection h with h
      injection h with ha hb
      subst ha hb
      have hlen : (l.take k).length = k := by rw [List.length_take]; omega
      have := val_lt (l.take k)
      rw [hlen] at this
      exact ⟨rfl, (be_val k _ hlen).symm, hv, this, by omega⟩
    · cases h

/-- What is read as a head that is not open is what is written for it. -/
theorem headL_back {l : List UInt8} {x : Hd} (h : headL l = some x) (ho : x.op = false) : l.take x.size = headOf x.major x.n := by
  cases l with
  | nil => cases h
  | cons b r =>
    have hb := b.toNat_lt
    simp only [headL] at h
    by_cases h31 : b.toNat % 32 = 31
    · rw [if_pos h31] at h
      split at h
      · injection h with h
        subst h
        cases ho
      · cases h
    · rw [if_neg h31] at h
      cases ha : argOf (b.toNat % 32) r with
      | none => rw [ha] at h; cases h
      | some y =>
        obtain ⟨n, k⟩ := y
        rw [ha] at h
        injection h with h
        subst h
        simp only []
        have hf := first_of b
        rw [Nat.add_comm 1 k, List.take_succ_cons]
        generalize b.toNat % 32 = low at *
        generalize b.toNat / 32 = m at *
        unfold argOf at ha
        unfold headOf
        by_cases h0 : low < 24
        · rw [if_pos h0] at ha
          injection ha with ha
          injection ha with ha hk
          subst ha hk
          rw [if_pos h0, hf]
          rfl
        rw [if_neg h0] at ha
        by_cases h1 : low = 24
        · subst h1
          rw [if_pos rfl] at ha
          obtain ⟨rfl, ht, hle, hlt, _⟩ := numOf_back ha
          rw [if_neg (by omega), if_pos (by omega), ht, hf]
        rw [if_neg h1] at ha
        by_cases h2 : low = 25
        · subst h2
          rw [if_pos rfl] at ha
          obtain ⟨rfl, ht, hle, hlt, _⟩ := numOf_back ha
          rw [if_neg (by omega), if_neg (by omega), if_pos (by omega), ht, hf]
        rw [if_neg h2] at ha
        by_cases h3 : low = 26
        · subst h3
          rw [if_pos rfl] at ha
          obtain ⟨rfl, ht, hle, hlt, _⟩ := numOf_back ha
          rw [if_neg (by omega), if_neg (by omega), if_neg (by omega), if_pos (by omega), ht, hf]
        rw [if_neg h3] at ha
        by_cases h4 : low = 27
        · subst h4
          rw [if_pos rfl] at ha
          obtain ⟨rfl, ht, hle, hlt, _⟩ := numOf_back ha
          rw [if_neg (by omega), if_neg (by omega), if_neg (by omega), if_neg (by omega), ht, hf]
        rw [if_neg h4] at ha
        cases ha

theorem headL_zero {l : List UInt8} {x : Hd} (h : headL l = some x) (hm : x.major = 0) : x.op = false := by
  cases l with
  | nil => cases h
  | cons b r =>
    simp only [headL] at h
    by_cases h31 : b.toNat % 32 = 31
    · rw [if_pos h31] at h
      split at h
      · rename_i hop
        injection h with h
        subst h
        simp only [] at hm
        rw [hm] at hop
        exact absurd hop (by decide)
      · cases h
    · rw [if_neg h31] at h
      cases ha : argOf (b.toNat % 32) r with
      | none => rw [ha] at h; cases h
      | some y =>
        rw [ha] at h
        injection h with h
        subst h
        rfl

/-- Bytes that are read to their end as one number are its head. -/
theorem uint_back (s : ByteArray) (h : doneOf s (uintOf s 0 0).2.1 (uintOf s 0 0).2.2 = true) : headOf 0 (uintOf s 0 0).1 = s.data.toList := by
  unfold doneOf at h
  have h := of_decide_eq_true h
  unfold uintOf peekOf at *
  simp only [ne_eq, not_true_eq_false, if_false, List.drop_zero] at *
  cases hx : headL s.data.toList with
  | none =>
    rw [hx] at h
    simp only [hd0, if_true] at h
    exact absurd h.1 (by decide)
  | some x =>
    rw [hx] at h
    simp only [] at h ⊢
    by_cases hm : x.major = 0
    · rw [if_pos hm] at h ⊢
      have hb := headL_back hx (headL_zero hx hm)
      simp only [] at h
      rw [← hm, ← hb]
      exact List.take_of_length_le (by rw [size_list]; omega)
    · rw [if_neg hm] at h
      simp only [failC, if_true] at h
      exact absurd h.1 (by decide)

/-- A number that is written is read back. -/
theorem uint_again (n : Nat) (hn : n < 18446744073709551616) (s : ByteArray) (hs : s.data.toList = headOf 0 n) :
    (uintOf s 0 0).1 = n ∧ doneOf s (uintOf s 0 0).2.1 (uintOf s 0 0).2.2 = true := by
  have hx := headL_headOf 0 n [] (by omega) hn
  rw [List.append_nil, ← hs] at hx
  unfold uintOf peekOf doneOf
  simp only [ne_eq, not_true_eq_false, if_false, List.drop_zero, hx, if_true, Nat.zero_add, true_and]
  rw [size_list]
  simp

end Go.Proofs.Ytpmepnejjjlodaa
