/-
  Joined: GfRev, GcmMath, EngMath. Conditions: as each part says.
-/
import Derived.Test.YtedoggejbhbebaaJ3

/-
  The product of polynomials of bits where the highest bit of a word is the term x^0: it is that of the words turned about. Conditions: the words fit.
-/
namespace Go.Proofs.Ytedoggejbhbebaa
namespace Gf

/-- The low w bits of a, turned about. -/
def turned : Nat → Nat → Nat
  | 0, _ => 0
  | w + 1, a => 2 ^ w * (a % 2) + turned w (a / 2)

theorem turned_lt (w : Nat) : ∀ a, turned w a < 2 ^ w := by
  induction w with
  | zero => intro a; simp [turned]
  | succ w ih =>
    intro a
    have := ih (a / 2)
    rcases Nat.mod_two_eq_zero_or_one a with h | h <;> simp only [turned, h, Nat.pow_succ] <;> omega

theorem turned_bit (w : Nat) : ∀ a i, (turned w a).testBit i = (decide (i < w) && a.testBit (w - 1 - i)) := by
  induction w with
  | zero => intro a i; simp [turned]
  | succ w ih =>
    intro a i
    have hlt := turned_lt w (a / 2)
    rw [turned, Nat.testBit_two_pow_mul_add _ hlt]
    by_cases hi : i < w
    · rw [if_pos hi, ih]
      have e1 : w + 1 - 1 - i = w - 1 - i + 1 := by omega
      rw [e1, Nat.testBit_succ]
      simp [hi, Nat.lt_succ_of_lt hi]
    · rw [if_neg hi]
      by_cases hw : i = w
      · subst hw
        rcases Nat.mod_two_eq_zero_or_one a with h | h <;> simp [h, Nat.testBit_zero]
      · have : a % 2 < 2 ^ (i - w) := Nat.lt_of_lt_of_le (Nat.mod_lt _ (by decide)) (Nat.pow_le_pow_right (by decide) (by omega) : 2 ^ 1 ≤ 2 ^ (i - w))
        rw [Nat.testBit_lt_two_pow this]
        simp
        omega

theorem turned_xor (w a b : Nat) : turned w (a ^^^ b) = turned w a ^^^ turned w b := by
  apply Nat.eq_of_testBit_eq
  intro i
  simp only [turned_bit, Nat.testBit_xor]
  by_cases h : i < w <;> simp [h]

theorem turned_turned {w a : Nat} (h : a < 2 ^ w) : turned w (turned w a) = a := by
  apply Nat.eq_of_testBit_eq
  intro i
  simp only [turned_bit]
  by_cases hi : i < w
  · have e : w - 1 - (w - 1 - i) = i := by omega
    have l : w - 1 - i < w := by omega
    simp [hi, e, l]
  · have e : a.testBit i = false := Nat.testBit_lt_two_pow (Nat.lt_of_lt_of_le h (Nat.pow_le_pow_right (by decide) (by omega)))
    simp [hi, e]

theorem turned_zero (w : Nat) : turned w 0 = 0 := by
  apply Nat.eq_of_testBit_eq
  intro i
  simp [turned_bit]

theorem turned_inj {w a b : Nat} (ha : a < 2 ^ w) (hb : b < 2 ^ w) (h : turned w a = turned w b) : a = b := by
  rw [← turned_turned ha, ← turned_turned hb, h]

theorem turned_sel (w : Nat) (c : Bool) (a : Nat) : turned w (sel c a) = sel c (turned w a) := by
  cases c
  · exact turned_zero w
  · rfl

theorem turned_double (w a : Nat) : turned w (a * 2 % 2 ^ w) = turned w a / 2 := by
  apply Nat.eq_of_testBit_eq
  intro i
  rw [turned_bit, Nat.testBit_mod_two_pow, ← Nat.testBit_succ, turned_bit]
  by_cases h : i + 1 < w
  · have e : w - 1 - i = w - 1 - (i + 1) + 1 := by omega
    rw [e, Nat.testBit_succ, Nat.mul_div_cancel a (by decide)]
    have l1 : i < w := by omega
    have l2 : w - 1 - (i + 1) + 1 < w := by omega
    simp [h, l1, l2]
  · by_cases hi : i < w
    · have e : w - 1 - i = 0 := by omega
      rw [e]
      simp [h, Nat.testBit_zero]
    · simp [h, hi]

section
variable (n p : Nat)

/-- Times x, turned about: r is the divisor without its highest term, turned about. -/
def xr (r a : Nat) : Nat := a / 2 ^^^ sel (a.testBit 0) r

theorem turned_xt (hn : 0 < n) (a : Nat) : turned n (xt n p a) = xr (turned n p) (turned n a) := by
  unfold xt xr
  have e : (turned n a).testBit 0 = a.testBit (n - 1) := by
    rw [turned_bit, decide_eq_true hn, Bool.true_and, Nat.sub_zero]
  rw [turned_xor, turned_double, turned_sel, e]

/-- The sum of a times x^i, over the k highest bits of b, of n. -/
def opr (r : Nat) : Nat → Nat → Nat → Nat
  | 0, _, _ => 0
  | k + 1, b, a => sel (b.testBit (n - 1)) a ^^^ opr r k (b * 2 % 2 ^ n) (xr r a)

/-- The product, turned about. -/
def mulr (r a b : Nat) : Nat := opr n r n b a

theorem turned_half (b : Nat) (hb : b < 2 ^ n) : turned n (b / 2) = turned n b * 2 % 2 ^ n := by
  have h1 := turned_double n (turned n b)
  rw [turned_turned hb] at h1
  rw [← h1, turned_turned (Nat.mod_lt _ (Nat.two_pow_pos n))]

theorem turned_op (hn : 0 < n) (k : Nat) : ∀ b a, b < 2 ^ n → turned n (op n p k b a) = opr n (turned n p) k (turned n b) (turned n a) := by
  induction k with
  | zero => intro b a _; exact turned_zero n
  | succ k ih =>
    intro b a hb
    have e : (turned n b).testBit (n - 1) = b.testBit 0 := by
      rw [turned_bit, decide_eq_true (by omega), Bool.true_and]
      congr 1
      omega
    rw [op, opr, turned_xor, turned_sel, ih _ _ (Nat.lt_of_le_of_lt (Nat.div_le_self _ _) hb), turned_xt n p hn, turned_half n b hb, e]

/-- The product of words turned about is the product turned about. -/
theorem mulr_eq (hn : 0 < n) {a b : Nat} (ha : a < 2 ^ n) (hb : b < 2 ^ n) : mulr n (turned n p) a b = turned n (mul n p (turned n a) (turned n b)) := by
  unfold mul mulr
  rw [turned_op n p hn n _ _ (turned_lt n b), turned_turned ha, turned_turned hb]

end

/-- In the field of 2^128: the divisor's word. -/
theorem word128 : turned 128 135 = 299076299051606071403356588563077529600 := by decide +kernel

/-- The product of two blocks as numbers, the first byte the highest. -/
def times128 (a b : Nat) : Nat := mulr 128 299076299051606071403356588563077529600 a b

theorem times128_eq {a b : Nat} (ha : a < 2 ^ 128) (hb : b < 2 ^ 128) : times128 a b = turned 128 (mul 128 135 (turned 128 a) (turned 128 b)) := by
  unfold times128
  rw [← word128]
  exact mulr_eq 128 135 (by decide) ha hb

theorem times128_lt {a b : Nat} (ha : a < 2 ^ 128) (hb : b < 2 ^ 128) : times128 a b < 2 ^ 128 := by
  rw [times128_eq ha hb]; exact turned_lt 128 _

theorem times128_comm {a b : Nat} (ha : a < 2 ^ 128) (hb : b < 2 ^ 128) : times128 a b = times128 b a := by
  rw [times128_eq ha hb, times128_eq hb ha, mul_comm 128 135 (turned_lt 128 a) (turned_lt 128 b)]

theorem times128_assoc {a b c : Nat} (ha : a < 2 ^ 128) (hb : b < 2 ^ 128) (hc : c < 2 ^ 128) : times128 (times128 a b) c = times128 a (times128 b c) := by
  have l1 := mul_lt 128 135 p128 (turned_lt 128 a) (turned 128 b)
  have l2 := mul_lt 128 135 p128 (turned_lt 128 b) (turned 128 c)
  rw [times128_eq (times128_lt ha hb) hc, times128_eq ha (times128_lt hb hc), times128_eq ha hb, times128_eq hb hc, turned_turned l1, turned_turned l2,
    mul_assoc 128 135 p128 (turned_lt 128 a) (turned_lt 128 b)]

theorem times128_add {a b c : Nat} (ha : a < 2 ^ 128) (hb : b < 2 ^ 128) (hc : c < 2 ^ 128) : times128 a (b ^^^ c) = times128 a b ^^^ times128 a c := by
  rw [times128_eq ha (Nat.xor_lt_two_pow hb hc), times128_eq ha hb, times128_eq ha hc, turned_xor, mul_add, turned_xor]

theorem one128 : turned 128 170141183460469231731687303715884105728 = 1 := by decide +kernel

theorem times128_one {a : Nat} (ha : a < 2 ^ 128) : times128 a 170141183460469231731687303715884105728 = a := by
  rw [times128_eq ha (by decide), one128, mul_one 128 135 (by decide) (turned_lt 128 a), turned_turned ha]

theorem times128_zero {a b : Nat} (ha : a < 2 ^ 128) (hb : b < 2 ^ 128) : times128 a b = 0 ↔ a = 0 ∨ b = 0 := by
  rw [times128_eq ha hb]
  constructor
  · intro h
    have l1 := mul_lt 128 135 p128 (turned_lt 128 a) (turned 128 b)
    have h1 : mul 128 135 (turned 128 a) (turned 128 b) = 0 := turned_inj l1 (by decide) (h.trans (turned_zero 128).symm)
    rcases zero128 (turned_lt 128 a) (turned_lt 128 b) h1 with h2 | h2
    · exact .inl (turned_inj ha (by decide) (h2.trans (turned_zero 128).symm))
    · exact .inr (turned_inj hb (by decide) (h2.trans (turned_zero 128).symm))
  · rintro (rfl | rfl)
    · rw [turned_zero, zero_mul, turned_zero]
    · rw [turned_zero, mul_zero, turned_zero]

end Gf
end Go.Proofs.Ytedoggejbhbebaa

/-
  The hash and the sealing of texts as plain functions on rows of bytes, the product of polynomials bit for bit, and that what is sealed is opened. Conditions: the numbers are bytes.
-/
namespace Go.Proofs.Ytedoggejbhbebaa
namespace Gcm
open Gf

/-! ### Numbers and their bytes -/

/-- The number of bytes, the first the highest, behind a. -/
def bigOn : Nat → List Nat → Nat
  | a, [] => a
  | a, c :: l => bigOn (a * 256 + c) l
def big (l : List Nat) : Nat := bigOn 0 l

/-- The k low bytes of n, the highest first. -/
def bytes : Nat → Nat → List Nat
  | 0, _ => []
  | k + 1, n => n / 256 ^ k % 256 :: bytes k n

theorem bigOn_eq (l : List Nat) : ∀ a, bigOn a l = a * 256 ^ l.length + big l := by
  unfold big
  induction l with
  | nil => intro a; simp [bigOn]
  | cons c l ih =>
    intro a
    rw [bigOn, bigOn, ih, ih (0 * 256 + c), List.length_cons, Nat.pow_succ, Nat.add_mul, Nat.mul_assoc, Nat.mul_comm 256]
    simp [Nat.add_assoc]

theorem big_cons (c : Nat) (l : List Nat) : big (c :: l) = c * 256 ^ l.length + big l := by
  rw [big, bigOn, bigOn_eq]; simp

theorem bigOn_append (l m : List Nat) : ∀ a, bigOn a (l ++ m) = bigOn (bigOn a l) m := by
  induction l with
  | nil => intro a; rfl
  | cons c l ih => intro a; rw [List.cons_append, bigOn, ih, bigOn]

theorem big_append (l m : List Nat) : big (l ++ m) = big l * 256 ^ m.length + big m := by
  rw [big, bigOn_append, bigOn_eq]; rfl

theorem big_snoc (l : List Nat) (c : Nat) : big (l ++ [c]) = big l * 256 + c := by rw [big_append]; simp [big, bigOn]

theorem big_lt (l : List Nat) (h : ∀ c ∈ l, c < 256) : big l < 256 ^ l.length := by
  induction l with
  | nil => simp [big, bigOn]
  | cons c l ih =>
    have h1 := ih fun d hd => h d (List.mem_cons_of_mem _ hd)
    have h2 : c < 256 := h c List.mem_cons_self
    rw [big_cons, List.length_cons, Nat.pow_succ]
    calc c * 256 ^ l.length + big l < c * 256 ^ l.length + 256 ^ l.length := Nat.add_lt_add_left h1 _
      _ = (c + 1) * 256 ^ l.length := by rw [Nat.add_mul, Nat.one_mul]
      _ ≤ 256 * 256 ^ l.length := Nat.mul_le_mul_right _ h2
      _ = 256 ^ l.length * 256 := Nat.mul_comm _ _

theorem bytes_length (k n : Nat) : (bytes k n).length = k := by
  induction k with
  | zero => rfl
  | succ k ih => rw [bytes, List.length_cons, ih]

theorem bytes_lt (k n : Nat) : ∀ c ∈ bytes k n, c < 256 := by
  induction k with
  | zero => intro c h; exact absurd h List.not_mem_nil
  | succ k ih =>
    intro c h
    rw [bytes] at h
    rcases List.mem_cons.1 h with rfl | h
    · exact Nat.mod_lt _ (by decide)
    · exact ih c h

theorem big_bytes_mod (k n : Nat) : big (bytes k n) = n % 256 ^ k := by
  induction k with
  | zero => simp [bytes, big, bigOn, Nat.mod_one]
  | succ k ih =>
    rw [bytes, big_cons, ih, bytes_length, Nat.pow_succ, Nat.mod_mul, Nat.add_comm, Nat.mul_comm]

theorem big_bytes {k n : Nat} (h : n < 256 ^ k) : big (bytes k n) = n := by rw [big_bytes_mod, Nat.mod_eq_of_lt h]

theorem bytes_add (k n c : Nat) : bytes k (c * 256 ^ k + n) = bytes k n := by
  induction k generalizing c with
  | zero => rfl
  | succ k ih =>
    rw [bytes, bytes]
    have e : c * 256 ^ (k + 1) + n = c * 256 * 256 ^ k + n := by rw [Nat.pow_succ, Nat.mul_assoc c 256, Nat.mul_comm 256]
    rw [e, ih, Nat.add_comm, Nat.add_mul_div_right _ _ (Nat.pow_pos (by decide)), Nat.add_mul_mod_self_right]

theorem bytes_big (l : List Nat) (h : ∀ c ∈ l, c < 256) : bytes l.length (big l) = l := by
  induction l with
  | nil => rfl
  | cons c l ih =>
    have h1 := ih fun d hd => h d (List.mem_cons_of_mem _ hd)
    have h2 : c < 256 := h c List.mem_cons_self
    have h3 := big_lt l fun d hd => h d (List.mem_cons_of_mem _ hd)
    rw [List.length_cons, bytes, big_cons, bytes_add, h1, Nat.add_comm, Nat.add_mul_div_right _ _ (Nat.pow_pos (by decide)), Nat.div_eq_of_lt h3, Nat.zero_add, Nat.mod_eq_of_lt h2]

theorem big_inj {l m : List Nat} (hl : ∀ c ∈ l, c < 256) (hm : ∀ c ∈ m, c < 256) (hn : l.length = m.length) (h : big l = big m) : l = m := by
  rw [← bytes_big l hl, ← bytes_big m hm, h, hn]

theorem bytes_get (k n i : Nat) (h : i < k) : (bytes k n)[i]? = some (n / 256 ^ (k - 1 - i) % 256) := by
  induction k generalizing i with
  | zero => omega
  | succ k ih =>
    rw [bytes]
    cases i with
    | zero => simp
    | succ i =>
      rw [List.getElem?_cons_succ, ih i (by omega)]
      have e : k + 1 - 1 - (i + 1) = k - 1 - i := by omega
      rw [e]

theorem pow256 (k : Nat) : 256 ^ k = 2 ^ (8 * k) := by rw [Nat.pow_mul]

/-- Byte for byte. -/
def orL (a b : List Nat) : List Nat := List.zipWith (fun x y => x ^^^ y) a b

theorem orL_length (a b : List Nat) : (orL a b).length = min a.length b.length := by simp [orL]

theorem orL_lt {a b : List Nat} (ha : ∀ c ∈ a, c < 256) (hb : ∀ c ∈ b, c < 256) : ∀ c ∈ orL a b, c < 256 := by
  induction a generalizing b with
  | nil => intro c h; simp [orL] at h
  | cons x a ih =>
    cases b with
    | nil => intro c h; simp [orL] at h
    | cons y b =>
      intro c h
      rw [orL, List.zipWith_cons_cons] at h
      rcases List.mem_cons.1 h with rfl | h
      · exact Nat.xor_lt_two_pow (n := 8) (ha x List.mem_cons_self) (hb y List.mem_cons_self)
      · exact ih (fun d hd => ha d (List.mem_cons_of_mem _ hd)) (fun d hd => hb d (List.mem_cons_of_mem _ hd)) c h

theorem bytes_xor (k m n : Nat) : bytes k (m ^^^ n) = orL (bytes k m) (bytes k n) := by
  induction k with
  | zero => rfl
  | succ k ih =>
    rw [bytes, bytes, bytes, orL, List.zipWith_cons_cons, ← orL, ← ih]
    congr 1
    rw [pow256, ← Nat.shiftRight_eq_div_pow, Nat.shiftRight_xor_distrib, Nat.shiftRight_eq_div_pow, Nat.shiftRight_eq_div_pow]
    exact Nat.xor_mod_two_pow (n := 8)

theorem big_xor {a b : List Nat} (ha : ∀ c ∈ a, c < 256) (hb : ∀ c ∈ b, c < 256) (h : a.length = b.length) : big (orL a b) = big a ^^^ big b := by
  have e1 := bytes_big a ha
  have e2 := bytes_big b hb
  have e := bytes_xor a.length (big a) (big b)
  rw [e1, h, e2] at e
  rw [← e]
  exact big_bytes (by rw [pow256]; exact Nat.xor_lt_two_pow (by rw [← pow256, ← h]; exact big_lt a ha) (by rw [← pow256]; exact big_lt b hb))

theorem big_zeros (n : Nat) : big (List.replicate n 0) = 0 := by
  induction n with
  | zero => rfl
  | succ n ih => rw [List.replicate_succ, big_cons, ih]; simp

theorem big_eq_zero {l : List Nat} (h : big l = 0) : l = List.replicate l.length 0 := by
  induction l with
  | nil => rfl
  | cons c l ih =>
    rw [big_cons] at h
    have h1 : big l = 0 := by omega
    have h2 : c * 256 ^ l.length = 0 := by omega
    have h3 : c = 0 := by
      rcases Nat.mul_eq_zero.1 h2 with h | h
      · exact h
      · exact absurd h (Nat.ne_of_gt (Nat.pow_pos (by decide)))
    rw [List.length_cons, List.replicate_succ, ← ih h1, h3]

end Gcm
end Go.Proofs.Ytedoggejbhbebaa

/-
  Fresh bytes as a row of bytes: their length, that they are bytes, that eight of them tell the number, and the two loops that make them. Conditions: the number is below 256^8 where it is told back.
-/
namespace Go.Proofs.Ytedoggejbhbebaa
namespace Eng
open Gcm

/-- The number in eight bytes, repeated and cut to the length. -/
def freshL (n size : Nat) : List Nat := (List.range size).map fun i => n / 256 ^ (7 - i % 8) % 256
theorem freshL_length (n size : Nat) : (freshL n size).length = size := by simp [freshL]
theorem freshL_lt (n size : Nat) : ∀ c ∈ freshL n size, c < 256 := by
  intro c hc
  obtain ⟨i, -, rfl⟩ := List.mem_map.1 hc
  exact Nat.mod_lt _ (by decide)
theorem freshL_get (n size i : Nat) (h : i < size) : (freshL n size)[i]? = some (n / 256 ^ (7 - i % 8) % 256) := by
  unfold freshL
  rw [List.getElem?_map, List.getElem?_range h]; rfl
theorem freshL_next (n k : Nat) : freshL n (k + 1) = freshL n k ++ [n / 256 ^ (7 - k % 8) % 256] := by
  unfold freshL
  rw [List.range_succ, List.map_append]; rfl
/-- Eight of them are the number's bytes. -/
theorem freshL_take (n size : Nat) (h : 8 ≤ size) : (freshL n size).take 8 = bytes 8 n := by
  apply List.ext_getElem?
  intro j
  by_cases hj : j < 8
  · rw [List.getElem?_take_of_lt hj, freshL_get _ _ _ (by omega), bytes_get 8 n j hj, Nat.mod_eq_of_lt hj]
  · rw [List.getElem?_eq_none (by rw [List.length_take]; omega), List.getElem?_eq_none (by rw [bytes_length]; omega)]
/-- Unlike numbers have unlike fresh bytes. -/
theorem freshL_inj {n m size : Nat} (hs : 8 ≤ size) (hn : n < 256 ^ 8) (hm : m < 256 ^ 8) (h : freshL n size = freshL m size) : n = m := by
  have e : bytes 8 n = bytes 8 m := by rw [← freshL_take n size hs, ← freshL_take m size hs, h]
  rw [← big_bytes hn, ← big_bytes hm, e]
theorem freshL_ne {n m size : Nat} (hs : 8 ≤ size) (hn : n < 256 ^ 8) (hm : m < 256 ^ 8) (h : n ≠ m) : freshL n size ≠ freshL m size := fun e => h (freshL_inj hs hn hm e)

/-- The eight bytes, of which the last k are laid. -/
def digTo (n k : Nat) : List Nat := List.replicate (8 - k) 0 ++ bytes k n
theorem digTo_zero (n : Nat) : digTo n 0 = List.replicate 8 0 := rfl
theorem digTo_all (n : Nat) : digTo n 8 = bytes 8 n := rfl
theorem digTo_length (n k : Nat) (h : k ≤ 8) : (digTo n k).length = 8 := by
  unfold digTo; rw [List.length_append, List.length_replicate, bytes_length]; omega
theorem digTo_get (n k j : Nat) (hk : k ≤ 8) (hj : j < 8) : (digTo n k)[j]? = some (if 8 - k ≤ j then n / 256 ^ (7 - j) % 256 else 0) := by
  unfold digTo
  by_cases h : 8 - k ≤ j
  · rw [if_pos h, List.getElem?_append_right (by rw [List.length_replicate]; exact h), List.length_replicate, bytes_get _ _ _ (by omega), show k - 1 - (j - (8 - k)) = 7 - j by omega]
  · rw [if_neg h, List.getElem?_append_left (by rw [List.length_replicate]; omega), List.getElem?_replicate, if_pos (by omega)]
theorem digTo_step (n k : Nat) (hk : k < 8) : (digTo n k).set (7 - k) (n / 256 ^ k % 256) = digTo n (k + 1) := by
  apply List.ext_getElem?
  intro j
  by_cases hj : j < 8
  · rw [List.getElem?_set, digTo_length n k (by omega), digTo_get n k j (by omega) hj, digTo_get n (k + 1) j (by omega) hj]
    by_cases e : 7 - k = j
    · rw [if_pos e, if_pos (by omega), if_pos (by omega), show 7 - j = k by omega]
    · rw [if_neg e]
      by_cases h : 8 - k ≤ j
      · rw [if_pos h, if_pos (by omega)]
      · rw [if_neg h, if_neg (by omega)]
  · rw [List.getElem?_eq_none (by rw [List.length_set, digTo_length n k (by omega)]; omega), List.getElem?_eq_none (by rw [digTo_length n (k + 1) (by omega)]; omega)]
theorem div_pow_next (n k : Nat) : n / 256 ^ k / 256 = n / 256 ^ (k + 1) := by rw [Nat.div_div_eq_div_mul, Nat.pow_succ]

/-- The row that is being filled: i bytes are laid. -/
def fillTo (n size i : Nat) : List Nat := freshL n i ++ List.replicate (size - i) 0
theorem fillTo_zero (n size : Nat) : fillTo n size 0 = List.replicate size 0 := rfl
theorem fillTo_all (n size : Nat) : fillTo n size size = freshL n size := by unfold fillTo; rw [Nat.sub_self]; exact List.append_nil _
theorem fillTo_length (n size i : Nat) (h : i ≤ size) : (fillTo n size i).length = size := by
  unfold fillTo; rw [List.length_append, freshL_length, List.length_replicate]; omega
theorem fillTo_step (n size i : Nat) (h : i < size) : (fillTo n size i).set i (n / 256 ^ (7 - i % 8) % 256) = fillTo n size (i + 1) := by
  unfold fillTo
  rw [List.set_append_right _ _ (by rw [freshL_length]; exact Nat.le_refl _), freshL_length, Nat.sub_self, show size - i = (size - (i + 1)) + 1 by omega, List.replicate_succ, List.set_cons_zero, freshL_next, List.append_assoc]
  rfl
/-- A byte of the number's eight, as the second loop reads it. -/
theorem bytes8_at (n i : Nat) : (bytes 8 n)[i % 8]? = some (n / 256 ^ (7 - i % 8) % 256) := bytes_get 8 n (i % 8) (Nat.mod_lt _ (by decide))
/-- A shift, as a division. -/
theorem shift_digit (n j : Nat) (h : j < 8) : n >>> (56 - 8 * j) % 256 = n / 256 ^ (7 - j) % 256 := by
  rw [Nat.shiftRight_eq_div_pow, pow256, show 8 * (7 - j) = 56 - 8 * j by omega]
/-- The document's example: the first tag of 32 bytes. -/
theorem first_tag : freshL 1 32 = [0, 0, 0, 0, 0, 0, 0, 1, 0, 0, 0, 0, 0, 0, 0, 1, 0, 0, 0, 0, 0, 0, 0, 1, 0, 0, 0, 0, 0, 0, 0, 1] := by decide

end Eng
end Go.Proofs.Ytedoggejbhbebaa
