/-
  The hash and the sealing of texts as plain functions on rows of bytes, the product of polynomials bit for bit, and that what is sealed is opened. Conditions: the numbers are bytes.
-/
import Derived.Test.YtedoggejbhbebaaGfRev
namespace Go.Proofs.Ytedoggejbhbebaa
namespace Gcm
open Gf

/-! ### Numbers and their bytes -/

/-- The number of bytes, the first the highest, behind a. -/
def bigOn : Nat → List Nat → Nat
  | a, [] => a
  | a, c :: l => bigOn (a * 256 + c) l
def big (l : List Nat) : Nat := bigOn 0 l

/-- The k low bytes of n, the highest first. -/
def bytes : Nat → Nat → List Nat
  | 0, _ => []
  | k + 1, n => n / 256 ^ k % 256 :: bytes k n

theorem bigOn_eq (l : List Nat) : ∀ a, bigOn a l = a * 256 ^ l.length + big l := by
  unfold big
  induction l with
  | nil => intro a; simp [bigOn]
  | cons c l ih =>
    intro a
    rw [bigOn, bigOn, ih, ih (0 * 256 + c), List.length_cons, Nat.pow_succ, Nat.add_mul, Nat.mul_assoc, Nat.mul_comm 256]
    simp [Nat.add_assoc]

theorem big_cons (c : Nat) (l : List Nat) : big (c :: l) = c * 256 ^ l.length + big l := by
  rw [big, bigOn, bigOn_eq]; simp

theorem bigOn_append (l m : List Nat) : ∀ a, bigOn a (l ++ m) = bigOn (bigOn a l) m := by
  induction l with
  | nil => intro a; rfl
  | cons c l ih => intro a; rw [List.cons_append, bigOn, ih, bigOn]

theorem big_append (l m : List Nat) : big (l ++ m) = big l * 256 ^ m.length + big m := by
  rw [big, bigOn_append, bigOn_eq]; rfl

theorem big_snoc (l : List Nat) (c : Nat) : big (l ++ [c]) = big l * 256 + c := by rw [big_append]; simp [big, bigOn]

theorem big_lt (l : List Nat) (h : ∀ c ∈ l, c < 256) : big l < 256 ^ l.length := by
  induction l with
  | nil => simp [big, bigOn]
  | cons c l ih =>
    have h1 := ih fun d hd => h d (List.mem_cons_of_mem _ hd)
    have h2 : c < 256 := h c List.mem_cons_self
    rw [big_cons, List.length_cons, Nat.pow_succ]
    calc c * 256 ^ l.length + big l < c * 256 ^ l.length + 256 ^ l.length := Nat.add_lt_add_left h1 _
      _ = (c + 1) * 256 ^ l.length := by rw [Nat.add_mul, Nat.one_mul]
      _ ≤ 256 * 256 ^ l.length := Nat.mul_le_mul_right _ h2
      _ = 256 ^ l.length * 256 := Nat.mul_comm _ _

theorem bytes_length (k n : Nat) : (bytes k n).length = k := by
  induction k with
  | zero => rfl
  | succ k ih => rw [bytes, List.length_cons, ih]

theorem bytes_lt (k n : Nat) : ∀ c ∈ bytes k n, c < 256 := by
  induction k with
  | zero => intro c h; exact absurd h List.not_mem_nil
  | succ k ih =>
    intro c h
    rw [bytes] at h
    rcases List.mem_cons.1 h with rfl | h
    · exact Nat.mod_lt _ (by decide)
    · exact ih c h

theorem big_bytes_mod (k n : Nat) : big (bytes k n) = n % 256 ^ k := by
  induction k with
  | zero => simp [bytes, big, bigOn, Nat.mod_one]
  | succ k ih =>
    rw [bytes, big_cons, ih, bytes_length, Nat.pow_succ, Nat.mod_mul, Nat.add_comm, Nat.mul_comm]

theorem big_bytes {k n : Nat} (h : n < 256 ^ k) : big (bytes k n) = n := by rw [big_bytes_mod, Nat.mod_eq_of_lt h]

theorem bytes_add (k n c : Nat) : bytes k (c * 256 ^ k + n) = bytes k n := by
  induction k generalizing c with
  | zero => rfl
  | succ k ih =>
    rw [bytes, bytes]
    have e : c * 256 ^ (k + 1) + n = c * 256 * 256 ^ k + n := by rw [Nat.pow_succ, Nat.mul_assoc c 256, Nat.mul_comm 256]
    rw [e, ih, Nat.add_comm, Nat.add_mul_div_right _ _ (Nat.pow_pos (by decide)), Nat.add_mul_mod_self_right]

theorem bytes_big (l : List Nat) (h : ∀ c ∈ l, c < 256) : bytes l.length (big l) = l := by
  induction l with
  | nil => rfl
  | cons c l ih =>
    have h1 := ih fun d hd => h d (List.mem_cons_of_mem _ hd)
    have h2 : c < 256 := h c List.mem_cons_self
    have h3 := big_lt l fun d hd => h d (List.mem_cons_of_mem _ hd)
    rw [List.length_cons, bytes, big_cons, bytes_add, h1, Nat.add_comm, Nat.add_mul_div_right _ _ (Nat.pow_pos (by decide)), Nat.div_eq_of_lt h3, Nat.zero_add, Nat.mod_eq_of_lt h2]

theorem big_inj {l m : List Nat} (hl : ∀ c ∈ l, c < 256) (hm : ∀ c ∈ m, c < 256) (hn : l.length = m.length) (h : big l = big m) : l = m := by
  rw [← bytes_big l hl, ← bytes_big m hm, h, hn]

theorem bytes_get (k n i : Nat) (h : i < k) : (bytes k n)[i]? = some (n / 256 ^ (k - 1 - i) % 256) := by
  induction k generalizing i with
  | zero => omega
  | succ k ih =>
    rw [bytes]
    cases i with
    | zero => simp
    | succ i =>
      rw [List.getElem?_cons_succ, ih i (by omega)]
      have e : k + 1 - 1 - (i + 1) = k - 1 - i := by omega
      rw [e]

theorem pow256 (k : Nat) : 256 ^ k = 2 ^ (8 * k) := by rw [Nat.pow_mul]

/-- Byte for byte. -/
def orL (a b : List Nat) : List Nat := List.zipWith (fun x y => x ^^^ y) a b

theorem orL_length (a b : List Nat) : (orL a b).length = min a.length b.length := by simp [orL]

theorem orL_lt {a b : List Nat} (ha : ∀ c ∈ a, c < 256) (hb : ∀ c ∈ b, c < 256) : ∀ c ∈ orL a b, c < 256 := by
  induction a generalizing b with
  | nil => intro c h; simp [orL] at h
  | cons x a ih =>
    cases b with
    | nil => intro c h; simp [orL] at h
    | cons y b =>
      intro c h
      rw [orL, List.zipWith_cons_cons] at h
      rcases List.mem_cons.1 h with rfl | h
      · exact Nat.xor_lt_two_pow (n := 8) (ha x List.mem_cons_self) (hb y List.mem_cons_self)
      · exact ih (fun d hd => ha d (List.mem_cons_of_mem _ hd)) (fun d hd => hb d (List.mem_cons_of_mem _ hd)) c h

theorem bytes_xor (k m n : Nat) : bytes k (m ^^^ n) = orL (bytes k m) (bytes k n) := by
  induction k with
  | zero => rfl
  | succ k ih =>
    rw [bytes, bytes, bytes, orL, List.zipWith_cons_cons, ← orL, ← ih]
    congr 1
    rw [pow256, ← Nat.shiftRight_eq_div_pow, Nat.shiftRight_xor_distrib, Nat.shiftRight_eq_div_pow, Nat.shiftRight_eq_div_pow]
    exact Nat.xor_mod_two_pow (n := 8)

theorem big_xor {a b : List Nat} (ha : ∀ c ∈ a, c < 256) (hb : ∀ c ∈ b, c < 256) (h : a.length = b.length) : big (orL a b) = big a ^^^ big b := by
  have e1 := bytes_big a ha
  have e2 := bytes_big b hb
  have e := bytes_xor a.length (big a) (big b)
  rw [e1, h, e2] at e
  rw [← e]
  exact big_bytes (by rw [pow256]; exact Nat.xor_lt_two_pow (by rw [← pow256, ← h]; exact big_lt a ha) (by rw [← pow256]; exact big_lt b hb))

theorem big_zeros (n : Nat) : big (List.replicate n 0) = 0 := by
  induction n with
  | zero => rfl
  | succ n ih => rw [List.replicate_succ, big_cons, ih]; simp

theorem big_eq_zero {l : List Nat} (h : big l = 0) : l = List.replicate l.length 0 := by
  induction l with
  | nil => rfl
  | cons c l ih =>
    rw [big_cons] at h
    have h1 : big l = 0 := by omega
    have h2 : c * 256 ^ l.length = 0 := by omega
    have h3 : c = 0 := by
      rcases Nat.mul_eq_zero.1 h2 with h | h
      · exact h
      · exact absurd h (Nat.ne_of_gt (Nat.pow_pos (by decide)))
    rw [List.length_cons, List.replicate_succ, ← ih h1, h3]

end Gcm
end Go.Proofs.Ytedoggejbhbebaa
