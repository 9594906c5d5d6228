/-
  Plain facts: products of numbers of four digits of 64 bits, as sha.product makes them. Conditions: none.
-/
import Derived.Test.YtfahmbkeibeceaaDoorRa
namespace Go.Proofs.YtfahmbkeibeceaaDoor

/-- A number's digits, the lowest first: the value of the first n of them. -/
def valD (s : Nat → Nat) : Nat → Nat
  | 0 => 0
  | n + 1 => valD s n + s n * 18446744073709551616 ^ n

/-- Digit k set to v. -/
def updD (s : Nat → Nat) (k v : Nat) : Nat → Nat := fun n => if n = k then v else s n

theorem valD_updD_low (s : Nat → Nat) (k v n : Nat) (h : n ≤ k) : valD (updD s k v) n = valD s n := by
  induction n with
  | zero => rfl
  | succ n ih =>
    simp only [valD]
    rw [ih (by omega), show updD s k v n = s n from if_neg (by omega)]

theorem valD_updD (s : Nat → Nat) (k v n : Nat) (h : k < n) :
    valD (updD s k v) n + s k * 18446744073709551616 ^ k = valD s n + v * 18446744073709551616 ^ k := by
  induction n with
  | zero => omega
  | succ n ih =>
    simp only [valD]
    by_cases e : n = k
    · subst e
      rw [valD_updD_low _ _ _ _ (Nat.le_refl _), show updD s n v n = v from if_pos rfl]
      omega
    · have := ih (by omega)
      rw [show updD s k v n = s n from if_neg e]
      omega

/-- One row of the product: digit x, at place i, times the first j digits of b. -/
def innD (x : Nat) (b : Nat → Nat) (i : Nat) (s : Nat → Nat) : Nat → (Nat → Nat) × Nat
  | 0 => (s, 0)
  | j + 1 =>
    let q := innD x b i s j
    (updD q.1 (i + j) ((x * b j + q.1 (i + j) + q.2) % 18446744073709551616), (x * b j + q.1 (i + j) + q.2) / 18446744073709551616)

/-- The rows of the first i digits of a. -/
def outD (a b : Nat → Nat) : Nat → Nat → Nat
  | 0 => fun _ => 0
  | i + 1 => (innD (a i) b i (outD a b i) (4 - i)).1

theorem innD_one (x : Nat) (b : Nat → Nat) (i : Nat) (s : Nat → Nat) (j : Nat) :
    (innD x b i s (j + 1)).1 = updD (innD x b i s j).1 (i + j) ((x * b j + (innD x b i s j).1 (i + j) + (innD x b i s j).2) % 18446744073709551616) := rfl

theorem innD_two (x : Nat) (b : Nat → Nat) (i : Nat) (s : Nat → Nat) (j : Nat) :
    (innD x b i s (j + 1)).2 = (x * b j + (innD x b i s j).1 (i + j) + (innD x b i s j).2) / 18446744073709551616 := rfl

theorem valD_succ (b : Nat → Nat) (j : Nat) : valD b (j + 1) = valD b j + b j * 18446744073709551616 ^ j := rfl

/-- One step of a row, in numbers. -/
theorem row_core (B I J x y q c v1 v2 v3 e vb : Nat) (he : x * y + q + c = e) (h1 : v2 + c * (I * J) = v3 + x * I * vb)
    (h2 : v1 + q * (I * J) = v2 + e % B * (I * J)) : v1 + e / B * (I * J * B) = v3 + x * I * (vb + y * J) := by
  have h4 : e * (I * J) = e % B * (I * J) + e / B * (I * J * B) := by
    conv => lhs; rw [← Nat.mod_add_div e B]
    rw [Nat.add_mul]
    congr 1
    simp only [Nat.mul_comm, Nat.mul_left_comm]
  have h5 : e * (I * J) = x * y * (I * J) + q * (I * J) + c * (I * J) := by rw [← he, Nat.add_mul, Nat.add_mul]
  have h6 : x * I * (vb + y * J) = x * I * vb + x * y * (I * J) := by rw [Nat.mul_add, Nat.mul_mul_mul_comm]
  rw [h6]
  omega

theorem innD_val (x : Nat) (b : Nat → Nat) (i : Nat) (s : Nat → Nat) (j : Nat) (h : i + j ≤ 4) :
    valD (innD x b i s j).1 4 + (innD x b i s j).2 * 18446744073709551616 ^ (i + j) = valD s 4 + x * 18446744073709551616 ^ i * valD b j := by
  induction j with
  | zero => rw [show (innD x b i s 0).1 = s from rfl, show (innD x b i s 0).2 = 0 from rfl, show valD b 0 = 0 from rfl, Nat.zero_mul, Nat.mul_zero]
  | succ j ih =>
    have h1 := ih (by omega)
    have h2 := valD_updD (innD x b i s j).1 (i + j) ((x * b j + (innD x b i s j).1 (i + j) + (innD x b i s j).2) % 18446744073709551616) 4 (by omega)
    rw [innD_one, innD_two, valD_succ b j, ← Nat.add_assoc i j 1, Nat.pow_succ (n := 18446744073709551616) (m := i + j), Nat.pow_add 18446744073709551616 i j]
    rw [Nat.pow_add 18446744073709551616 i j] at h1 h2
    generalize 18446744073709551616 ^ i = I at *
    generalize 18446744073709551616 ^ j = J at *
    generalize valD (updD (innD x b i s j).1 (i + j) ((x * b j + (innD x b i s j).1 (i + j) + (innD x b i s j).2) % 18446744073709551616)) 4 = v1 at *
    generalize valD (innD x b i s j).1 4 = v2 at *
    generalize valD s 4 = v3 at *
    exact row_core 18446744073709551616 I J x (b j) ((innD x b i s j).1 (i + j)) (innD x b i s j).2 v1 v2 v3 (x * b j + (innD x b i s j).1 (i + j) + (innD x b i s j).2) (valD b j) rfl h1 h2

theorem innD_lt (x : Nat) (b : Nat → Nat) (i : Nat) (s : Nat → Nat) (hx : x < 18446744073709551616) (hb : ∀ k, b k < 18446744073709551616) (hs : ∀ k, s k < 18446744073709551616) (j : Nat) :
    (∀ k, (innD x b i s j).1 k < 18446744073709551616) ∧ (innD x b i s j).2 < 18446744073709551616 := by
  induction j with
  | zero => exact ⟨hs, by simp [innD]⟩
  | succ j ih =>
    simp only [innD]
    have h1 := ih.1 (i + j)
    have h2 := ih.2
    have h3 : x * b j ≤ 18446744073709551615 * 18446744073709551615 := Nat.mul_le_mul (by omega) (by have := hb j; omega)
    refine ⟨fun k => ?_, ?_⟩
    · simp only [updD]
      split
      · exact Nat.mod_lt _ (by decide)
      · exact ih.1 k
    · omega

theorem outD_lt (a b : Nat → Nat) (ha : ∀ k, a k < 18446744073709551616) (hb : ∀ k, b k < 18446744073709551616) (i k : Nat) : outD a b i k < 18446744073709551616 := by
  induction i generalizing k with
  | zero => simp [outD]
  | succ i ih => exact (innD_lt _ _ _ _ (ha i) hb ih _).1 k

theorem valD_split (b : Nat → Nat) (n m : Nat) : ∃ r, valD b (n + m) = valD b n + 18446744073709551616 ^ n * r := by
  induction m with
  | zero => exact ⟨0, by simp⟩
  | succ m ih =>
    obtain ⟨r, hr⟩ := ih
    refine ⟨r + b (n + m) * 18446744073709551616 ^ m, ?_⟩
    rw [← Nat.add_assoc, valD, hr, Nat.mul_add, Nat.pow_add, Nat.mul_left_comm (b (n + m)), Nat.add_assoc]

theorem outD_val (a b : Nat → Nat) (i : Nat) (h : i ≤ 4) : ∃ d, valD (outD a b i) 4 + d * 18446744073709551616 ^ 4 = valD a i * valD b 4 := by
  induction i with
  | zero => exact ⟨0, by simp [outD, valD]⟩
  | succ i ih =>
    obtain ⟨d, hd⟩ := ih (by omega)
    obtain ⟨r, hr⟩ := valD_split b (4 - i) i
    rw [Nat.sub_add_cancel (by omega)] at hr
    have h1 := innD_val (a i) b i (outD a b i) (4 - i) (by omega)
    rw [Nat.add_sub_cancel' (by omega)] at h1
    refine ⟨d + (innD (a i) b i (outD a b i) (4 - i)).2 + a i * r, ?_⟩
    have h2 : a i * 18446744073709551616 ^ i * valD b 4 = a i * 18446744073709551616 ^ i * valD b (4 - i) + a i * r * 18446744073709551616 ^ 4 := by
      rw [hr, Nat.mul_add]
      congr 1
      rw [show 18446744073709551616 ^ 4 = 18446744073709551616 ^ i * 18446744073709551616 ^ (4 - i) by rw [← Nat.pow_add, Nat.add_sub_cancel' (by omega)]]
      simp only [Nat.mul_assoc, Nat.mul_left_comm, Nat.mul_comm]
    rw [show valD a (i + 1) = valD a i + a i * 18446744073709551616 ^ i from rfl, Nat.add_mul (valD a i), ← hd, h2]
    rw [show outD a b (i + 1) = (innD (a i) b i (outD a b i) (4 - i)).1 from rfl, Nat.add_mul, Nat.add_mul]
    clear h2 hd hr
    generalize 18446744073709551616 ^ 4 = P at *
    generalize a i * 18446744073709551616 ^ i * valD b (4 - i) = p6 at *
    generalize (innD (a i) b i (outD a b i) (4 - i)).2 * P = p1 at *
    generalize a i * r * P = p2 at *
    generalize d * P = p3 at *
    generalize valD (innD (a i) b i (outD a b i) (4 - i)).1 4 = v1 at *
    generalize valD (outD a b i) 4 = v2 at *
    omega

theorem valD_lt (s : Nat → Nat) (hs : ∀ k, s k < 18446744073709551616) (n : Nat) : valD s n < 18446744073709551616 ^ n := by
  induction n with
  | zero => simp [valD]
  | succ n ih =>
    have h1 : s n * 18446744073709551616 ^ n ≤ 18446744073709551615 * 18446744073709551616 ^ n := Nat.mul_le_mul_right _ (by have := hs n; omega)
    rw [valD, Nat.pow_succ]
    generalize 18446744073709551616 ^ n = P at *
    omega

theorem outD_mod (a b : Nat → Nat) (ha : ∀ k, a k < 18446744073709551616) (hb : ∀ k, b k < 18446744073709551616) :
    valD (outD a b 4) 4 = valD a 4 * valD b 4 % 18446744073709551616 ^ 4 := by
  obtain ⟨d, hd⟩ := outD_val a b 4 (Nat.le_refl _)
  rw [← hd, Nat.add_mul_mod_self_right, Nat.mod_eq_of_lt (valD_lt _ (outD_lt a b ha hb 4) 4)]

/-- A digit of a number. -/
theorem digitD (s : Nat → Nat) (hs : ∀ k, s k < 18446744073709551616) (n k : Nat) (h : k < n) :
    s k = valD s n / 18446744073709551616 ^ k % 18446744073709551616 := by
  obtain ⟨r, hr⟩ := valD_split s (k + 1) (n - (k + 1))
  rw [Nat.add_sub_cancel' (by omega)] at hr
  rw [hr, valD, Nat.pow_succ, Nat.mul_assoc, Nat.add_assoc, Nat.mul_comm (s k), ← Nat.mul_add]
  rw [Nat.add_mul_div_left _ _ (Nat.pow_pos (by decide)), Nat.div_eq_of_lt (valD_lt s hs k), Nat.zero_add, Nat.add_mul_mod_self_left, Nat.mod_eq_of_lt (hs k)]

end Go.Proofs.YtfahmbkeibeceaaDoor
