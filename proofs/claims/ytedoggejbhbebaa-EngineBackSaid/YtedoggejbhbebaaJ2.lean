/-
  Joined: GfMath. Conditions: as each part says.
-/


/-
  Plain facts on products of polynomials of bits, divided by one of degree n: they are commutative, associative and distributive, and of what isn't 0 no product is 0. Conditions: stated with each.
-/
namespace Go.Proofs.Ytedoggejbhbebaa
namespace Gf

/-- a, or nothing. -/
def sel (c : Bool) (a : Nat) : Nat := if c = true then a else 0

theorem sel_zero (c : Bool) : sel c 0 = 0 := by cases c <;> rfl
theorem sel_xor (c : Bool) (a b : Nat) : sel c (a ^^^ b) = sel c a ^^^ sel c b := by cases c <;> simp [sel]
theorem sel_bxor (c d : Bool) (a : Nat) : sel (c ^^ d) a = sel c a ^^^ sel d a := by cases c <;> cases d <;> simp [sel]
theorem sel_lt {c : Bool} {a m : Nat} (h : a < m) : sel c a < m := by
  cases c
  · exact Nat.lt_of_le_of_lt (Nat.zero_le _) h
  · exact h

theorem xor_four (a b c d : Nat) : (a ^^^ b) ^^^ (c ^^^ d) = (a ^^^ c) ^^^ (b ^^^ d) := by
  rw [Nat.xor_assoc, Nat.xor_assoc, ← Nat.xor_assoc b c d, ← Nat.xor_assoc c b d, Nat.xor_comm b c]

theorem half_xor (a b : Nat) : (a ^^^ b) / 2 = a / 2 ^^^ b / 2 := by
  have := Nat.shiftRight_xor_distrib (a := a) (b := b) (i := 1)
  simpa [Nat.shiftRight_succ] using this

theorem times_xor (a b j : Nat) : (a ^^^ b) * 2 ^ j = a * 2 ^ j ^^^ b * 2 ^ j := by
  have := Nat.shiftLeft_xor_distrib (a := a) (b := b) (i := j)
  simpa [Nat.shiftLeft_eq] using this

/-- One bit and the rest. -/
theorem split (b : Nat) : sel (b.testBit 0) 1 ^^^ b / 2 * 2 = b := by
  apply Nat.eq_of_testBit_eq
  intro i
  rw [Nat.testBit_xor]
  have e : b / 2 * 2 = b / 2 * 2 ^ 1 := rfl
  rw [e, Nat.testBit_mul_two_pow]
  cases i with
  | zero => cases h : b.testBit 0 <;> simp [sel]
  | succ i =>
    have : (sel (b.testBit 0) 1).testBit (i + 1) = false := by cases b.testBit 0 <;> simp [sel, Nat.testBit_succ]
    rw [this]
    simp [Nat.testBit_succ]

section
variable (n p : Nat)

/-- Times x: p is the divisor without its highest term. -/
def xt (a : Nat) : Nat := a * 2 % 2 ^ n ^^^ sel (a.testBit (n - 1)) p

/-- The sum of a times x^i, over the bits i below k of b. -/
def op : Nat → Nat → Nat → Nat
  | 0, _, _ => 0
  | k + 1, b, a => sel (b.testBit 0) a ^^^ op k (b / 2) (xt n p a)

/-- The product. -/
def mul (a b : Nat) : Nat := op n p n b a

theorem xt_xor (a b : Nat) : xt n p (a ^^^ b) = xt n p a ^^^ xt n p b := by
  unfold xt
  have e : (a ^^^ b) * 2 = a * 2 ^^^ b * 2 := times_xor a b 1
  rw [e, Nat.xor_mod_two_pow, Nat.testBit_xor, sel_bxor, xor_four]

theorem xt_zero : xt n p 0 = 0 := by simp [xt, sel]

theorem xt_sel (c : Bool) (a : Nat) : xt n p (sel c a) = sel c (xt n p a) := by
  cases c
  · exact xt_zero n p
  · rfl

theorem xt_lt (hp : p < 2 ^ n) (a : Nat) : xt n p a < 2 ^ n :=
  Nat.xor_lt_two_pow (Nat.mod_lt _ (Nat.two_pow_pos n)) (sel_lt hp)

theorem op_zero (k : Nat) : ∀ b, op n p k b 0 = 0 := by
  induction k with
  | zero => intro b; rfl
  | succ k ih => intro b; rw [op, sel_zero, xt_zero, ih]; rfl

theorem op_right (k : Nat) : ∀ b a c, op n p k b (a ^^^ c) = op n p k b a ^^^ op n p k b c := by
  induction k with
  | zero => intro b a c; simp [op]
  | succ k ih => intro b a c; rw [op, op, op, sel_xor, xt_xor, ih, xor_four]

theorem op_left (k : Nat) : ∀ b c a, op n p k (b ^^^ c) a = op n p k b a ^^^ op n p k c a := by
  induction k with
  | zero => intro b c a; simp [op]
  | succ k ih => intro b c a; rw [op, op, op, Nat.testBit_xor, sel_bxor, half_xor, ih, xor_four]

theorem op_none (k : Nat) : ∀ a, op n p k 0 a = 0 := by
  induction k with
  | zero => intro a; rfl
  | succ k ih => intro a; rw [op, Nat.zero_testBit, ih]; simp [sel]

theorem op_sel (k : Nat) (c : Bool) (b a : Nat) : op n p k b (sel c a) = sel c (op n p k b a) := by
  cases c
  · exact op_zero n p k b
  · rfl

theorem op_xt (k : Nat) : ∀ b a, op n p k b (xt n p a) = xt n p (op n p k b a) := by
  induction k with
  | zero => intro b a; exact (xt_zero n p).symm
  | succ k ih => intro b a; rw [op, op, xt_xor, xt_sel, ih]

theorem op_op (k l : Nat) : ∀ b c a, op n p k b (op n p l c a) = op n p l c (op n p k b a) := by
  induction k with
  | zero => intro b c a; exact (op_zero n p l c).symm
  | succ k ih => intro b c a; rw [op, op, op_right, op_sel, ← op_xt, ih]

theorem op_lt (hp : p < 2 ^ n) (k : Nat) : ∀ b a, a < 2 ^ n → op n p k b a < 2 ^ n := by
  induction k with
  | zero => intro b a h; exact Nat.two_pow_pos n
  | succ k ih => intro b a h; exact Nat.xor_lt_two_pow (sel_lt h) (ih _ _ (xt_lt n p hp a))

theorem xt_pow (j : Nat) (h : j + 1 < n) : xt n p (2 ^ j) = 2 ^ (j + 1) := by
  unfold xt
  rw [← Nat.pow_succ, Nat.mod_eq_of_lt (Nat.pow_lt_pow_right (by decide) h), Nat.testBit_two_pow]
  rw [show decide (j = n - 1) = false from decide_eq_false (by omega)]
  exact Nat.xor_zero _

theorem op_pow (k : Nat) : ∀ b j, b < 2 ^ k → k + j ≤ n → op n p k b (2 ^ j) = b * 2 ^ j := by
  induction k with
  | zero =>
    intro b j h _
    have : b = 0 := by simpa using h
    subst this
    simp [op]
  | succ k ih =>
    intro b j h hj
    have hb : b / 2 < 2 ^ k := by rw [Nat.pow_succ] at h; omega
    have e : op n p k (b / 2) (xt n p (2 ^ j)) = b / 2 * 2 * 2 ^ j := by
      by_cases hk : k = 0
      · subst hk
        have : b / 2 = 0 := by simpa using hb
        rw [this]
        simp [op]
      · rw [xt_pow n p j (by omega), ih _ _ hb (by omega), Nat.pow_succ, Nat.mul_assoc, Nat.mul_comm 2]
    have e2 : sel (b.testBit 0) (2 ^ j) = sel (b.testBit 0) 1 * 2 ^ j := by cases b.testBit 0 <;> simp [sel]
    rw [op, e, e2, ← times_xor, split]

theorem one_op {b : Nat} (h : b < 2 ^ n) : op n p n b 1 = b := by
  have := op_pow n p n b 0 h (by omega)
  simpa using this

theorem one_mul {b : Nat} (h : b < 2 ^ n) : mul n p 1 b = b := one_op n p h

theorem mul_lt (hp : p < 2 ^ n) {a : Nat} (ha : a < 2 ^ n) (b : Nat) : mul n p a b < 2 ^ n := op_lt n p hp n b a ha

theorem mul_comm {a b : Nat} (ha : a < 2 ^ n) (hb : b < 2 ^ n) : mul n p a b = mul n p b a := by
  unfold mul
  have h1 := op_op n p n n b a 1
  rw [one_op n p ha, one_op n p hb] at h1
  exact h1

theorem mul_one (hn : 0 < n) {a : Nat} (ha : a < 2 ^ n) : mul n p a 1 = a := by
  rw [mul_comm n p ha (Nat.one_lt_two_pow (by omega)), one_mul n p ha]

theorem mul_zero (a : Nat) : mul n p a 0 = 0 := op_none n p n a
theorem zero_mul (a : Nat) : mul n p 0 a = 0 := op_zero n p n a

theorem mul_add (a b c : Nat) : mul n p a (b ^^^ c) = mul n p a b ^^^ mul n p a c := op_left n p n b c a
theorem add_mul (a b c : Nat) : mul n p (a ^^^ b) c = mul n p a c ^^^ mul n p b c := op_right n p n c a b

theorem mul_assoc (hp : p < 2 ^ n) {a b c : Nat} (ha : a < 2 ^ n) (hb : b < 2 ^ n) : mul n p (mul n p a b) c = mul n p a (mul n p b c) := by
  rw [mul_comm n p ha (mul_lt n p hp hb c), mul_comm n p ha hb]
  exact op_op n p n n c a b

/-! ### Squares -/

theorem square_add {a b : Nat} (ha : a < 2 ^ n) (hb : b < 2 ^ n) : mul n p (a ^^^ b) (a ^^^ b) = mul n p a a ^^^ mul n p b b := by
  rw [mul_add, add_mul, add_mul, mul_comm n p hb ha, xor_four, Nat.xor_comm (mul n p a b) (mul n p b b), ← xor_four, Nat.xor_self, Nat.xor_zero]

theorem mul_swap (hp : p < 2 ^ n) {a b c d : Nat} (ha : a < 2 ^ n) (hb : b < 2 ^ n) (hc : c < 2 ^ n) (_hd : d < 2 ^ n) : mul n p (mul n p a b) (mul n p c d) = mul n p (mul n p a c) (mul n p b d) := by
  rw [mul_assoc n p hp ha hb, ← mul_assoc n p hp hb hc, mul_comm n p hb hc, mul_assoc n p hp hc hb, ← mul_assoc n p hp ha hc]

/-- Squared k times. -/
def frob : Nat → Nat → Nat
  | 0, a => a
  | k + 1, a => frob k (mul n p a a)

theorem frob_lt (hp : p < 2 ^ n) (k : Nat) : ∀ {a}, a < 2 ^ n → frob n p k a < 2 ^ n := by
  induction k with
  | zero => intro a h; exact h
  | succ k ih => intro a h; exact ih (mul_lt n p hp h a)

theorem frob_add (hp : p < 2 ^ n) (k : Nat) : ∀ {a b}, a < 2 ^ n → b < 2 ^ n → frob n p k (a ^^^ b) = frob n p k a ^^^ frob n p k b := by
  induction k with
  | zero => intro a b _ _; rfl
  | succ k ih => intro a b ha hb; rw [frob, frob, frob, square_add n p ha hb, ih (mul_lt n p hp ha a) (mul_lt n p hp hb b)]

theorem frob_mul (hp : p < 2 ^ n) (k : Nat) : ∀ {a b}, a < 2 ^ n → b < 2 ^ n → frob n p k (mul n p a b) = mul n p (frob n p k a) (frob n p k b) := by
  induction k with
  | zero => intro a b _ _; rfl
  | succ k ih => intro a b ha hb; rw [frob, frob, frob, mul_swap n p hp ha hb ha hb, ih (mul_lt n p hp ha a) (mul_lt n p hp hb b)]

theorem frob_succ (k : Nat) : ∀ a, frob n p (k + 1) a = mul n p (frob n p k a) (frob n p k a) := by
  induction k with
  | zero => intro a; rfl
  | succ k ih => intro a; exact ih _

theorem frob_one (hn : 0 < n) (k : Nat) : frob n p k 1 = 1 := by
  induction k with
  | zero => rfl
  | succ k ih => rw [frob, mul_one n p hn (Nat.one_lt_two_pow (by omega)), ih]

theorem frob_zero (k : Nat) : frob n p k 0 = 0 := by
  induction k with
  | zero => rfl
  | succ k ih => rw [frob, mul_zero, ih]

/-- Squared n times x is x: so is everything. -/
theorem frob_pow (hp : p < 2 ^ n) (hn : 1 < n) (hx : frob n p n 2 = 2) (j : Nat) : j < n → frob n p n (2 ^ j) = 2 ^ j := by
  have h2 : 2 < 2 ^ n := Nat.lt_of_lt_of_le (by decide) (Nat.pow_le_pow_right (by decide) hn : 2 ^ 2 ≤ 2 ^ n)
  induction j with
  | zero => intro _; exact frob_one n p (by omega) n
  | succ j ih =>
    intro h
    have hj : 2 ^ j < 2 ^ n := Nat.pow_lt_pow_right (by decide) (by omega)
    have e : mul n p 2 (2 ^ j) = 2 ^ (j + 1) := by
      rw [mul_comm n p h2 hj]
      have e1 : op n p n 2 (2 ^ j) = xt n p (op n p n 1 (2 ^ j)) := by
        have a1 : op n p n 2 (2 ^ j) = op n p n (2 ^ j) 2 := (mul_comm n p h2 hj).symm
        have a2 : xt n p 1 = 2 := xt_pow n p 0 hn
        have a3 := op_xt n p n (2 ^ j) 1
        rw [a2] at a3
        rw [a1, a3]
        congr 1
        exact mul_comm n p (Nat.one_lt_two_pow (by omega)) hj
      unfold mul
      rw [e1]
      have a4 : op n p n 1 (2 ^ j) = 2 ^ j := mul_one n p (by omega) hj
      rw [a4, xt_pow n p j h]
    rw [← e, frob_mul n p hp n h2 hj, hx, ih (by omega)]

theorem frob_all (hp : p < 2 ^ n) (hn : 1 < n) (hx : frob n p n 2 = 2) (k : Nat) : ∀ j b, k + j = n → b < 2 ^ k → frob n p n (b * 2 ^ j) = b * 2 ^ j := by
  induction k with
  | zero =>
    intro j b _ h
    have : b = 0 := by simpa using h
    subst this
    rw [Nat.zero_mul, frob_zero]
  | succ k ih =>
    intro j b hj h
    have hb : b / 2 < 2 ^ k := by rw [Nat.pow_succ] at h; omega
    have e1 := ih (j + 1) (b / 2) (by omega) hb
    have e2 : b * 2 ^ j = sel (b.testBit 0) (2 ^ j) ^^^ b / 2 * 2 ^ (j + 1) := by
      have a1 : sel (b.testBit 0) (2 ^ j) = sel (b.testBit 0) 1 * 2 ^ j := by cases b.testBit 0 <;> simp [sel]
      rw [a1, Nat.pow_succ, Nat.mul_comm (2 ^ j) 2, ← Nat.mul_assoc, ← times_xor, split]
    have l1 : 2 ^ j < 2 ^ n := Nat.pow_lt_pow_right (by decide) (by omega)
    have l2 : b / 2 * 2 ^ (j + 1) < 2 ^ n := by
      have : 2 ^ n = 2 ^ k * 2 ^ (j + 1) := by rw [← Nat.pow_add]; congr 1; omega
      rw [this]
      exact Nat.mul_lt_mul_of_pos_right hb (Nat.two_pow_pos _)
    rw [e2, frob_add n p hp n (sel_lt l1) l2, e1]
    congr 1
    cases b.testBit 0
    · exact frob_zero n p n
    · exact frob_pow n p hp hn hx j (by omega)

theorem frob_id (hp : p < 2 ^ n) (hn : 1 < n) (hx : frob n p n 2 = 2) {a : Nat} (ha : a < 2 ^ n) : frob n p n a = a := by
  have := frob_all n p hp hn hx n 0 a (by omega) ha
  simpa using this

/-! ### No product of others than 0 is 0 -/

/-- a times its squares, the k first. -/
def prod (a : Nat) : Nat → Nat
  | 0 => 1
  | k + 1 => mul n p (prod a k) (frob n p k a)

theorem prod_lt (hp : p < 2 ^ n) (hn : 0 < n) {a : Nat} (k : Nat) : prod n p a k < 2 ^ n := by
  induction k with
  | zero => exact Nat.one_lt_two_pow (by omega)
  | succ k ih => exact mul_lt n p hp ih _

theorem prod_mul (hp : p < 2 ^ n) (hn : 0 < n) {a : Nat} (ha : a < 2 ^ n) (k : Nat) : mul n p a (prod n p a k) = frob n p k a := by
  induction k with
  | zero => exact mul_one n p hn ha
  | succ k ih => rw [prod, ← mul_assoc n p hp ha (prod_lt n p hp hn k), ih, ← frob_succ]

/-- The square of the product is the product of what comes behind the first. -/
theorem prod_square (hp : p < 2 ^ n) (hn : 0 < n) {a : Nat} (ha : a < 2 ^ n) (k : Nat) : mul n p (mul n p (prod n p a k) (prod n p a k)) a = mul n p (prod n p a k) (frob n p k a) := by
  induction k with
  | zero =>
    have h1 : (1 : Nat) < 2 ^ n := Nat.one_lt_two_pow (by omega)
    show mul n p (mul n p 1 1) a = mul n p 1 a
    rw [one_mul n p h1]
  | succ k ih =>
    have hP := prod_lt n p hp hn (a := a) k
    have hF := frob_lt n p hp k ha
    rw [prod, mul_swap n p hp hP hF hP hF, mul_assoc n p hp (mul_lt n p hp hP _) (mul_lt n p hp hF _), mul_comm n p (mul_lt n p hp hF _) ha, ← mul_assoc n p hp (mul_lt n p hp hP _) ha, ih, ← frob_succ]

/-- If 0 and 1 alone are their own squares, a product that is 0 has a factor that is. -/
theorem mul_eq_zero (hp : p < 2 ^ n) (hn : 1 < n) (hx : frob n p n 2 = 2) (hb : ∀ e, e < 2 ^ n → mul n p e e = e → e = 0 ∨ e = 1) {a b : Nat} (ha : a < 2 ^ n) (hb' : b < 2 ^ n) (h : mul n p a b = 0) : a = 0 ∨ b = 0 := by
  have h0 : 0 < n := by omega
  have hF := frob_id n p hp hn hx ha
  have hE := prod_lt n p hp h0 (a := a) n
  have e1 := prod_mul n p hp h0 ha n
  rw [hF] at e1
  have e2 : mul n p (prod n p a n) (prod n p a n) = prod n p a n := by
    obtain ⟨k, hk⟩ : ∃ k, n = k + 1 := ⟨n - 1, by omega⟩
    have hP := prod_lt n p hp h0 (a := a) k
    have hFk := frob_lt n p hp k ha
    have s1 : prod n p a n = mul n p (prod n p a k) (frob n p k a) := by
      have : prod n p a n = prod n p a (k + 1) := congrArg (prod n p a) hk
      exact this
    have s2 : mul n p (frob n p k a) (frob n p k a) = a := by
      rw [← frob_succ, ← hk]
      exact hF
    have s3 := prod_square n p hp h0 ha k
    rw [s1, mul_swap n p hp hP hFk hP hFk, s2]
    exact s3
  rcases hb _ hE e2 with h1 | h1
  · left
    rw [h1, mul_zero] at e1
    exact e1.symm
  · right
    obtain ⟨k, hk⟩ : ∃ k, n = k + 1 := ⟨n - 1, by omega⟩
    -- a divides its product
    have s : ∀ k, ∃ q, q < 2 ^ n ∧ prod n p a (k + 1) = mul n p a q := by
      intro k
      induction k with
      | zero => exact ⟨1, Nat.one_lt_two_pow (by omega), by
          show mul n p 1 a = mul n p a 1
          exact mul_comm n p (Nat.one_lt_two_pow (by omega)) ha⟩
      | succ k ih =>
        obtain ⟨q, hq, e⟩ := ih
        exact ⟨mul n p q (frob n p (k + 1) a), mul_lt n p hp hq _, by rw [prod, e, mul_assoc n p hp ha hq]⟩
    obtain ⟨q, hq, e⟩ := s k
    have e' : prod n p a n = mul n p a q := by
      have : prod n p a n = prod n p a (k + 1) := congrArg (prod n p a) hk
      rw [this, e]
    rw [h1] at e'
    have e3 : mul n p b (mul n p a q) = b := by rw [← e', mul_one n p h0 hb']
    rw [← mul_assoc n p hp hb' ha, mul_comm n p hb' ha, h, zero_mul] at e3
    exact e3.symm

end
end Gf
end Go.Proofs.Ytedoggejbhbebaa
