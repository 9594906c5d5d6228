/-
  The key's words as plain functions of its bytes. Conditions: none.
-/
import Derived.Test.YtedoggejbhbebaaAesMath
namespace Go.Proofs.Ytedoggejbhbebaa
namespace Aes

/-- The powers of 2. -/
def pw : Nat → Nat
  | 0 => 1
  | j + 1 => times (pw j) 2
theorem pw_lt (j : Nat) : pw j < 256 := by
  induction j with
  | zero => decide
  | succ j ih => exact times_lt ih 2

/-- What word i makes of the four bytes ahead of it. -/
def turned (n i a b c d : Nat) : List Nat :=
  if i % n = 0 then [sub b ^^^ pw (i / n - 1), sub c, sub d, sub a] else if n = 8 ∧ i % n = 4 then [sub a, sub b, sub c, sub d] else [a, b, c, d]
theorem turned_length (n i a b c d : Nat) : (turned n i a b c d).length = 4 := by
  unfold turned
  split
  · rfl
  · split <;> rfl
theorem turned_lt {n i a b c d : Nat} (ha : a < 256) (hb : b < 256) (hc : c < 256) (hd : d < 256) : ∀ x ∈ turned n i a b c d, x < 256 := by
  unfold turned
  split
  · intro x hx
    simp only [List.mem_cons, List.not_mem_nil, or_false] at hx
    rcases hx with rfl | rfl | rfl | rfl
    · exact Nat.xor_lt_two_pow (n := 8) (sub_lt b hb) (pw_lt _)
    · exact sub_lt c hc
    · exact sub_lt d hd
    · exact sub_lt a ha
  · split
    · intro x hx
      simp only [List.mem_cons, List.not_mem_nil, or_false] at hx
      rcases hx with rfl | rfl | rfl | rfl
      · exact sub_lt _ ha
      · exact sub_lt _ hb
      · exact sub_lt _ hc
      · exact sub_lt _ hd
    · intro x hx
      simp only [List.mem_cons, List.not_mem_nil, or_false] at hx
      rcases hx with rfl | rfl | rfl | rfl <;> assumption

/-- The four bytes of word i, from all bytes ahead of it. -/
def nextFour (n i : Nat) (l : List Nat) : List Nat :=
  (List.range 4).map fun k => l.getD (4 * (i - n) + k) 0 ^^^ (turned n i (l.getD (4 * i - 4) 0) (l.getD (4 * i - 3) 0) (l.getD (4 * i - 2) 0) (l.getD (4 * i - 1) 0)).getD k 0
theorem nextFour_length (n i : Nat) (l : List Nat) : (nextFour n i l).length = 4 := by simp [nextFour]

theorem getD_lt {l : List Nat} (h : ∀ c ∈ l, c < 256) (i : Nat) : l.getD i 0 < 256 := by
  rw [List.getD_eq_getElem?_getD]
  by_cases hi : i < l.length
  · rw [List.getElem?_eq_getElem hi]; exact h _ (List.getElem_mem hi)
  · rw [List.getElem?_eq_none (by omega)]; decide
theorem nextFour_lt {n i : Nat} {l : List Nat} (h : ∀ c ∈ l, c < 256) : ∀ c ∈ nextFour n i l, c < 256 := by
  intro c hc
  unfold nextFour at hc
  obtain ⟨k, -, rfl⟩ := List.mem_map.1 hc
  exact Nat.xor_lt_two_pow (n := 8) (getD_lt h _) (getD_lt (turned_lt (getD_lt h _) (getD_lt h _) (getD_lt h _) (getD_lt h _)) k)

/-- The key and k words behind it, byte by byte. -/
def wordsTo (n : Nat) (key : List Nat) : Nat → List Nat
  | 0 => key
  | k + 1 => wordsTo n key k ++ nextFour n (n + k) (wordsTo n key k)

theorem wordsTo_length (n : Nat) (key : List Nat) (hk : key.length = 4 * n) (k : Nat) : (wordsTo n key k).length = 4 * (n + k) := by
  induction k with
  | zero => exact hk
  | succ k ih => rw [wordsTo, List.length_append, ih, nextFour_length]; omega
theorem wordsTo_lt {n : Nat} {key : List Nat} (h : ∀ c ∈ key, c < 256) (k : Nat) : ∀ c ∈ wordsTo n key k, c < 256 := by
  induction k with
  | zero => exact h
  | succ k ih =>
    intro c hc
    rw [wordsTo] at hc
    rcases List.mem_append.1 hc with hc | hc
    · exact ih c hc
    · exact nextFour_lt ih c hc
/-- What stands there stays. -/
theorem wordsTo_stays (n : Nat) (key : List Nat) (hk : key.length = 4 * n) (k m j : Nat) (hj : j < 4 * (n + k)) : (wordsTo n key (k + m)).getD j 0 = (wordsTo n key k).getD j 0 := by
  induction m with
  | zero => rfl
  | succ m ih =>
    rw [← ih, ← Nat.add_assoc, wordsTo, List.getD_eq_getElem?_getD, List.getElem?_append_left (by rw [wordsTo_length n key hk]; omega), ← List.getD_eq_getElem?_getD]

/-- All words' bytes: 4 (n + 7) words. -/
def allWords (n : Nat) (key : List Nat) : List Nat := wordsTo n key (3 * n + 28)
def wordAt (n : Nat) (key : List Nat) (j : Nat) : Nat := (allWords n key).getD j 0
theorem allWords_length (n : Nat) (key : List Nat) (hk : key.length = 4 * n) : (allWords n key).length = 16 * (n + 7) := by
  unfold allWords; rw [wordsTo_length n key hk]; omega
theorem wordAt_lt {n : Nat} {key : List Nat} (h : ∀ c ∈ key, c < 256) (j : Nat) : wordAt n key j < 256 := getD_lt (wordsTo_lt h _) j
theorem wordAt_keys {n : Nat} {key : List Nat} (h : ∀ c ∈ key, c < 256) : Keys (wordAt n key) (n + 6) := fun j _ => wordAt_lt h j
theorem wordAt_of (n : Nat) (key : List Nat) (hk : key.length = 4 * n) (k j : Nat) (hkk : k ≤ 3 * n + 28) (hj : j < 4 * (n + k)) : wordAt n key j = (wordsTo n key k).getD j 0 := by
  unfold wordAt allWords
  rw [show 3 * n + 28 = k + (3 * n + 28 - k) by omega]
  exact wordsTo_stays n key hk k _ j hj
/-- The key's own bytes. -/
theorem wordAt_key (n : Nat) (key : List Nat) (hk : key.length = 4 * n) (j : Nat) (hj : j < 4 * n) : wordAt n key j = key.getD j 0 :=
  wordAt_of n key hk 0 j (Nat.zero_le _) hj
/-- The bytes of a later word. -/
theorem wordAt_next (n : Nat) (key : List Nat) (hk : key.length = 4 * n) (hn : 0 < n) (i t : Nat) (hi : n ≤ i) (hi2 : i < 4 * (n + 7)) (ht : t < 4) :
    wordAt n key (4 * i + t) = wordAt n key (4 * (i - n) + t) ^^^ (turned n i (wordAt n key (4 * i - 4)) (wordAt n key (4 * i - 3)) (wordAt n key (4 * i - 2)) (wordAt n key (4 * i - 1))).getD t 0 := by
  obtain ⟨k, rfl⟩ : ∃ k, i = n + k := ⟨i - n, by omega⟩
  have e : ∀ j, j < 4 * (n + k) → wordAt n key j = (wordsTo n key k).getD j 0 := fun j hj => wordAt_of n key hk k j (by omega) hj
  rw [e (4 * (n + k - n) + t) (by omega), e (4 * (n + k) - 4) (by omega), e (4 * (n + k) - 3) (by omega), e (4 * (n + k) - 2) (by omega), e (4 * (n + k) - 1) (by omega)]
  rw [wordAt_of n key hk (k + 1) (4 * (n + k) + t) (by omega) (by omega), wordsTo, List.getD_eq_getElem?_getD, List.getElem?_append_right (by rw [wordsTo_length n key hk]; omega), wordsTo_length n key hk]
  rw [show 4 * (n + k) + t - 4 * (n + k) = t by omega]
  unfold nextFour
  rw [List.getElem?_map, List.getElem?_range ht]
  rfl

end Aes
end Go.Proofs.Ytedoggejbhbebaa
