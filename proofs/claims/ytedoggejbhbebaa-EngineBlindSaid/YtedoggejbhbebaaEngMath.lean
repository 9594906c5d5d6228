/-
  Fresh bytes as a row of bytes: their length, that they are bytes, that eight of them tell the number, and the two loops that make them. Conditions: the number is below 256^8 where it is told back.
-/
import Derived.Test.YtedoggejbhbebaaGcmMath
namespace Go.Proofs.Ytedoggejbhbebaa
namespace Eng
open Gcm

/-- The number in eight bytes, repeated and cut to the length. -/
def freshL (n size : Nat) : List Nat := (List.range size).map fun i => n / 256 ^ (7 - i % 8) % 256
theorem freshL_length (n size : Nat) : (freshL n size).length = size := by simp [freshL]
theorem freshL_lt (n size : Nat) : ∀ c ∈ freshL n size, c < 256 := by
  intro c hc
  obtain ⟨i, -, rfl⟩ := List.mem_map.1 hc
  exact Nat.mod_lt _ (by decide)
theorem freshL_get (n size i : Nat) (h : i < size) : (freshL n size)[i]? = some (n / 256 ^ (7 - i % 8) % 256) := by
  unfold freshL
  rw [List.getElem?_map, List.getElem?_range h]; rfl
theorem freshL_next (n k : Nat) : freshL n (k + 1) = freshL n k ++ [n / 256 ^ (7 - k % 8) % 256] := by
  unfold freshL
  rw [List.range_succ, List.map_append]; rfl
/-- Eight of them are the number's bytes. -/
theorem freshL_take (n size : Nat) (h : 8 ≤ size) : (freshL n size).take 8 = bytes 8 n := by
  apply List.ext_getElem?
  intro j
  by_cases hj : j < 8
  · rw [List.getElem?_take_of_lt hj, freshL_get _ _ _ (by omega), bytes_get 8 n j hj, Nat.mod_eq_of_lt hj]
  · rw [List.getElem?_eq_none (by rw [List.length_take]; omega), List.getElem?_eq_none (by rw [bytes_length]; omega)]
/-- Unlike numbers have unlike fresh bytes. -/
theorem freshL_inj {n m size : Nat} (hs : 8 ≤ size) (hn : n < 256 ^ 8) (hm : m < 256 ^ 8) (h : freshL n size = freshL m size) : n = m := by
  have e : bytes 8 n = bytes 8 m := by rw [← freshL_take n size hs, ← freshL_take m size hs, h]
  rw [← big_bytes hn, ← big_bytes hm, e]
theorem freshL_ne {n m size : Nat} (hs : 8 ≤ size) (hn : n < 256 ^ 8) (hm : m < 256 ^ 8) (h : n ≠ m) : freshL n size ≠ freshL m size := fun e => h (freshL_inj hs hn hm e)

/-- The eight bytes, of which the last k are laid. -/
def digTo (n k : Nat) : List Nat := List.replicate (8 - k) 0 ++ bytes k n
theorem digTo_zero (n : Nat) : digTo n 0 = List.replicate 8 0 := rfl
theorem digTo_all (n : Nat) : digTo n 8 = bytes 8 n := rfl
theorem digTo_length (n k : Nat) (h : k ≤ 8) : (digTo n k).length = 8 := by
  unfold digTo; rw [List.length_append, List.length_replicate, bytes_length]; omega
theorem digTo_get (n k j : Nat) (hk : k ≤ 8) (hj : j < 8) : (digTo n k)[j]? = some (if 8 - k ≤ j then n / 256 ^ (7 - j) % 256 else 0) := by
  unfold digTo
  by_cases h : 8 - k ≤ j
  · rw [if_pos h, List.getElem?_append_right (by rw [List.length_replicate]; exact h), List.length_replicate, bytes_get _ _ _ (by omega), show k - 1 - (j - (8 - k)) = 7 - j by omega]
  · rw [if_neg h, List.getElem?_append_left (by rw [List.length_replicate]; omega), List.getElem?_replicate, if_pos (by omega)]
theorem digTo_step (n k : Nat) (hk : k < 8) : (digTo n k).set (7 - k) (n / 256 ^ k % 256) = digTo n (k + 1) := by
  apply List.ext_getElem?
  intro j
  by_cases hj : j < 8
  · rw [List.getElem?_set, digTo_length n k (by omega), digTo_get n k j (by omega) hj, digTo_get n (k + 1) j (by omega) hj]
    by_cases e : 7 - k = j
    · rw [if_pos e, if_pos (by omega), if_pos (by omega), show 7 - j = k by omega]
    · rw [if_neg e]
      by_cases h : 8 - k ≤ j
      · rw [if_pos h, if_pos (by omega)]
      · rw [if_neg h, if_neg (by omega)]
  · rw [List.getElem?_eq_none (by rw [List.length_set, digTo_length n k (by omega)]; omega), List.getElem?_eq_none (by rw [digTo_length n (k + 1) (by omega)]; omega)]
theorem div_pow_next (n k : Nat) : n / 256 ^ k / 256 = n / 256 ^ (k + 1) := by rw [Nat.div_div_eq_div_mul, Nat.pow_succ]

/-- The row that is being filled: i bytes are laid. -/
def fillTo (n size i : Nat) : List Nat := freshL n i ++ List.replicate (size - i) 0
theorem fillTo_zero (n size : Nat) : fillTo n size 0 = List.replicate size 0 := rfl
theorem fillTo_all (n size : Nat) : fillTo n size size = freshL n size := by unfold fillTo; rw [Nat.sub_self]; exact List.append_nil _
theorem fillTo_length (n size i : Nat) (h : i ≤ size) : (fillTo n size i).length = size := by
  unfold fillTo; rw [List.length_append, freshL_length, List.length_replicate]; omega
theorem fillTo_step (n size i : Nat) (h : i < size) : (fillTo n size i).set i (n / 256 ^ (7 - i % 8) % 256) = fillTo n size (i + 1) := by
  unfold fillTo
  rw [List.set_append_right _ _ (by rw [freshL_length]; exact Nat.le_refl _), freshL_length, Nat.sub_self, show size - i = (size - (i + 1)) + 1 by omega, List.replicate_succ, List.set_cons_zero, freshL_next, List.append_assoc]
  rfl
/-- A byte of the number's eight, as the second loop reads it. -/
theorem bytes8_at (n i : Nat) : (bytes 8 n)[i % 8]? = some (n / 256 ^ (7 - i % 8) % 256) := bytes_get 8 n (i % 8) (Nat.mod_lt _ (by decide))
/-- A shift, as a division. -/
theorem shift_digit (n j : Nat) (h : j < 8) : n >>> (56 - 8 * j) % 256 = n / 256 ^ (7 - j) % 256 := by
  rw [Nat.shiftRight_eq_div_pow, pow256, show 8 * (7 - j) = 56 - 8 * j by omega]
/-- The document's example: the first tag of 32 bytes. -/
theorem first_tag : freshL 1 32 = [0, 0, 0, 0, 0, 0, 0, 1, 0, 0, 0, 0, 0, 0, 0, 1, 0, 0, 0, 0, 0, 0, 0, 1, 0, 0, 0, 0, 0, 0, 0, 1] := by decide

end Eng
end Go.Proofs.Ytedoggejbhbebaa
