/-
  The product of polynomials of bits where the highest bit of a word is the term x^0: it is that of the words turned about. Conditions: the words fit.
-/
import Derived.Test.YtedoggejbhbebaaGfField
namespace Go.Proofs.Ytedoggejbhbebaa
namespace Gf

/-- The low w bits of a, turned about. -/
def turned : Nat → Nat → Nat
  | 0, _ => 0
  | w + 1, a => 2 ^ w * (a % 2) + turned w (a / 2)

theorem turned_lt (w : Nat) : ∀ a, turned w a < 2 ^ w := by
  induction w with
  | zero => intro a; simp [turned]
  | succ w ih =>
    intro a
    have := ih (a / 2)
    rcases Nat.mod_two_eq_zero_or_one a with h | h <;> simp only [turned, h, Nat.pow_succ] <;> omega

theorem turned_bit (w : Nat) : ∀ a i, (turned w a).testBit i = (decide (i < w) && a.testBit (w - 1 - i)) := by
  induction w with
  | zero => intro a i; simp [turned]
  | succ w ih =>
    intro a i
    have hlt := turned_lt w (a / 2)
    rw [turned, Nat.testBit_two_pow_mul_add _ hlt]
    by_cases hi : i < w
    · rw [if_pos hi, ih]
      have e1 : w + 1 - 1 - i = w - 1 - i + 1 := by omega
      rw [e1, Nat.testBit_succ]
      simp [hi, Nat.lt_succ_of_lt hi]
    · rw [if_neg hi]
      by_cases hw : i = w
      · subst hw
        rcases Nat.mod_two_eq_zero_or_one a with h | h <;> simp [h, Nat.testBit_zero]
      · have : a % 2 < 2 ^ (i - w) := Nat.lt_of_lt_of_le (Nat.mod_lt _ (by decide)) (Nat.pow_le_pow_right (by decide) (by omega) : 2 ^ 1 ≤ 2 ^ (i - w))
        rw [Nat.testBit_lt_two_pow this]
        simp
        omega

theorem turned_xor (w a b : Nat) : turned w (a ^^^ b) = turned w a ^^^ turned w b := by
  apply Nat.eq_of_testBit_eq
  intro i
  simp only [turned_bit, Nat.testBit_xor]
  by_cases h : i < w <;> simp [h]

theorem turned_turned {w a : Nat} (h : a < 2 ^ w) : turned w (turned w a) = a := by
  apply Nat.eq_of_testBit_eq
  intro i
  simp only [turned_bit]
  by_cases hi : i < w
  · have e : w - 1 - (w - 1 - i) = i := by omega
    have l : w - 1 - i < w := by omega
    simp [hi, e, l]
  · have e : a.testBit i = false := Nat.testBit_lt_two_pow (Nat.lt_of_lt_of_le h (Nat.pow_le_pow_right (by decide) (by omega)))
    simp [hi, e]

theorem turned_zero (w : Nat) : turned w 0 = 0 := by
  apply Nat.eq_of_testBit_eq
  intro i
  simp [turned_bit]

theorem turned_inj {w a b : Nat} (ha : a < 2 ^ w) (hb : b < 2 ^ w) (h : turned w a = turned w b) : a = b := by
  rw [← turned_turned ha, ← turned_turned hb, h]

theorem turned_sel (w : Nat) (c : Bool) (a : Nat) : turned w (sel c a) = sel c (turned w a) := by
  cases c
  · exact turned_zero w
  · rfl

theorem turned_double (w a : Nat) : turned w (a * 2 % 2 ^ w) = turned w a / 2 := by
  apply Nat.eq_of_testBit_eq
  intro i
  rw [turned_bit, Nat.testBit_mod_two_pow, ← Nat.testBit_succ, turned_bit]
  by_cases h : i + 1 < w
  · have e : w - 1 - i = w - 1 - (i + 1) + 1 := by omega
    rw [e, Nat.testBit_succ, Nat.mul_div_cancel a (by decide)]
    have l1 : i < w := by omega
    have l2 : w - 1 - (i + 1) + 1 < w := by omega
    simp [h, l1, l2]
  · by_cases hi : i < w
    · have e : w - 1 - i = 0 := by omega
      rw [e]
      simp [h, Nat.testBit_zero]
    · simp [h, hi]

section
variable (n p : Nat)

/-- Times x, turned about: r is the divisor without its highest term, turned about. -/
def xr (r a : Nat) : Nat := a / 2 ^^^ sel (a.testBit 0) r

theorem turned_xt (hn : 0 < n) (a : Nat) : turned n (xt n p a) = xr (turned n p) (turned n a) := by
  unfold xt xr
  have e : (turned n a).testBit 0 = a.testBit (n - 1) := by
    rw [turned_bit, decide_eq_true hn, Bool.true_and, Nat.sub_zero]
  rw [turned_xor, turned_double, turned_sel, e]

/-- The sum of a times x^i, over the k highest bits of b, of n. -/
def opr (r : Nat) : Nat → Nat → Nat → Nat
  | 0, _, _ => 0
  | k + 1, b, a => sel (b.testBit (n - 1)) a ^^^ opr r k (b * 2 % 2 ^ n) (xr r a)

/-- The product, turned about. -/
def mulr (r a b : Nat) : Nat := opr n r n b a

theorem turned_half (b : Nat) (hb : b < 2 ^ n) : turned n (b / 2) = turned n b * 2 % 2 ^ n := by
  have h1 := turned_double n (turned n b)
  rw [turned_turned hb] at h1
  rw [← h1, turned_turned (Nat.mod_lt _ (Nat.two_pow_pos n))]

theorem turned_op (hn : 0 < n) (k : Nat) : ∀ b a, b < 2 ^ n → turned n (op n p k b a) = opr n (turned n p) k (turned n b) (turned n a) := by
  induction k with
  | zero => intro b a _; exact turned_zero n
  | succ k ih =>
    intro b a hb
    have e : (turned n b).testBit (n - 1) = b.testBit 0 := by
      rw [turned_bit, decide_eq_true (by omega), Bool.true_and]
      congr 1
      omega
    rw [op, opr, turned_xor, turned_sel, ih _ _ (Nat.lt_of_le_of_lt (Nat.div_le_self _ _) hb), turned_xt n p hn, turned_half n b hb, e]

/-- The product of words turned about is the product turned about. -/
theorem mulr_eq (hn : 0 < n) {a b : Nat} (ha : a < 2 ^ n) (hb : b < 2 ^ n) : mulr n (turned n p) a b = turned n (mul n p (turned n a) (turned n b)) := by
  unfold mul mulr
  rw [turned_op n p hn n _ _ (turned_lt n b), turned_turned ha, turned_turned hb]

end

/-- In the field of 2^128: the divisor's word. -/
theorem word128 : turned 128 135 = 299076299051606071403356588563077529600 := by decide +kernel

/-- The product of two blocks as numbers, the first byte the highest. -/
def times128 (a b : Nat) : Nat := mulr 128 299076299051606071403356588563077529600 a b

theorem times128_eq {a b : Nat} (ha : a < 2 ^ 128) (hb : b < 2 ^ 128) : times128 a b = turned 128 (mul 128 135 (turned 128 a) (turned 128 b)) := by
  unfold times128
  rw [← word128]
  exact mulr_eq 128 135 (by decide) ha hb

theorem times128_lt {a b : Nat} (ha : a < 2 ^ 128) (hb : b < 2 ^ 128) : times128 a b < 2 ^ 128 := by
  rw [times128_eq ha hb]; exact turned_lt 128 _

theorem times128_comm {a b : Nat} (ha : a < 2 ^ 128) (hb : b < 2 ^ 128) : times128 a b = times128 b a := by
  rw [times128_eq ha hb, times128_eq hb ha, mul_comm 128 135 (turned_lt 128 a) (turned_lt 128 b)]

theorem times128_assoc {a b c : Nat} (ha : a < 2 ^ 128) (hb : b < 2 ^ 128) (hc : c < 2 ^ 128) : times128 (times128 a b) c = times128 a (times128 b c) := by
  have l1 := mul_lt 128 135 p128 (turned_lt 128 a) (turned 128 b)
  have l2 := mul_lt 128 135 p128 (turned_lt 128 b) (turned 128 c)
  rw [times128_eq (times128_lt ha hb) hc, times128_eq ha (times128_lt hb hc), times128_eq ha hb, times128_eq hb hc, turned_turned l1, turned_turned l2,
    mul_assoc 128 135 p128 (turned_lt 128 a) (turned_lt 128 b)]

theorem times128_add {a b c : Nat} (ha : a < 2 ^ 128) (hb : b < 2 ^ 128) (hc : c < 2 ^ 128) : times128 a (b ^^^ c) = times128 a b ^^^ times128 a c := by
  rw [times128_eq ha (Nat.xor_lt_two_pow hb hc), times128_eq ha hb, times128_eq ha hc, turned_xor, mul_add, turned_xor]

theorem one128 : turned 128 170141183460469231731687303715884105728 = 1 := by decide +kernel

theorem times128_one {a : Nat} (ha : a < 2 ^ 128) : times128 a 170141183460469231731687303715884105728 = a := by
  rw [times128_eq ha (by decide), one128, mul_one 128 135 (by decide) (turned_lt 128 a), turned_turned ha]

theorem times128_zero {a b : Nat} (ha : a < 2 ^ 128) (hb : b < 2 ^ 128) : times128 a b = 0 ↔ a = 0 ∨ b = 0 := by
  rw [times128_eq ha hb]
  constructor
  · intro h
    have l1 := mul_lt 128 135 p128 (turned_lt 128 a) (turned 128 b)
    have h1 : mul 128 135 (turned 128 a) (turned 128 b) = 0 := turned_inj l1 (by decide) (h.trans (turned_zero 128).symm)
    rcases zero128 (turned_lt 128 a) (turned_lt 128 b) h1 with h2 | h2
    · exact .inl (turned_inj ha (by decide) (h2.trans (turned_zero 128).symm))
    · exact .inr (turned_inj hb (by decide) (h2.trans (turned_zero 128).symm))
  · rintro (rfl | rfl)
    · rw [turned_zero, zero_mul, turned_zero]
    · rw [turned_zero, mul_zero, turned_zero]

end Gf
end Go.Proofs.Ytedoggejbhbebaa
