/-
  Joined: GcmBits. Conditions: as each part says.
-/
import Derived.Test.YtedoggejbhbebaaJ6

/-
  The product of blocks bit for bit: what a loop over the 128 terms reckons, and a block as two halves of 64 bits. Conditions: stated with each.
-/
namespace Go.Proofs.Ytedoggejbhbebaa
namespace Gcm
open Gf

/-- The coefficient of x^m in the polynomial v. -/
def coef (v m : Nat) : Nat := v / 2 ^ m % 2

theorem coef_lt (v m : Nat) : coef v m < 2 := Nat.mod_lt _ (by decide)
theorem coef_bit (v m : Nat) : coef v m = (v.testBit m).toNat := by
  rw [Nat.testBit_eq_decide_div_mod_eq, coef]
  rcases Nat.mod_two_eq_zero_or_one (v / 2 ^ m) with h | h <;> simp [h]
theorem coef_one (v m : Nat) : coef v m = 1 ↔ v.testBit m = true := by rw [coef_bit]; cases v.testBit m <;> simp
theorem coef_xor (a b m : Nat) : coef (a ^^^ b) m = coef a m ^^^ coef b m := by
  rw [coef_bit, coef_bit, coef_bit, Nat.testBit_xor]
  cases a.testBit m <;> cases b.testBit m <;> rfl
theorem coef_zero (m : Nat) : coef 0 m = 0 := by simp [coef]
theorem coef_high {v m n : Nat} (h : v < 2 ^ n) (hm : n ≤ m) : coef v m = 0 := by
  rw [coef_bit, Nat.testBit_lt_two_pow (Nat.lt_of_lt_of_le h (Nat.pow_le_pow_right (by decide) hm))]; rfl
theorem coef_ext {a b n : Nat} (ha : a < 2 ^ n) (hb : b < 2 ^ n) (h : ∀ m < n, coef a m = coef b m) : a = b := by
  apply Nat.eq_of_testBit_eq
  intro i
  by_cases hi : i < n
  · have e := h i hi
    rw [coef_bit, coef_bit] at e
    cases ha : a.testBit i <;> cases hb : b.testBit i <;> simp [ha, hb] at e ⊢
  · rw [Nat.testBit_lt_two_pow (Nat.lt_of_lt_of_le ha (Nat.pow_le_pow_right (by decide) (by omega))),
      Nat.testBit_lt_two_pow (Nat.lt_of_lt_of_le hb (Nat.pow_le_pow_right (by decide) (by omega)))]

/-- A block's coefficients are its bits, the highest of the first byte first. -/
theorem coef_turned (a m : Nat) (h : m < 128) : coef (turned 128 a) m = coef a (127 - m) := by
  rw [coef_bit, coef_bit, turned_bit, decide_eq_true h, Bool.true_and]

theorem coef_big (l : List Nat) (i k : Nat) (h : ∀ c ∈ l, c < 256) (hi : i < l.length) (hk : k < 8) : coef (big l) (8 * (l.length - 1 - i) + k) = coef (l.getD i 0) k := by
  have e := bytes_get l.length (big l) i hi
  rw [bytes_big l h] at e
  rw [List.getD_eq_getElem?_getD, e, Option.getD_some, coef_bit, coef_bit, pow256]
  have e2 : (256 : Nat) = 2 ^ 8 := rfl
  rw [e2, Nat.testBit_mod_two_pow, decide_eq_true hk, Bool.true_and, Nat.testBit_div_two_pow, Nat.add_comm]

/-- Of sixteen bytes: coefficient 8 i + 7 - k is bit k of byte i. -/
theorem coef_block (l : List Nat) (i k : Nat) (h : ∀ c ∈ l, c < 256) (hl : l.length = 16) (hi : i < 16) (hk : k < 8) : coef (turned 128 (big l)) (8 * i + (7 - k)) = coef (l.getD i 0) k := by
  rw [coef_turned _ _ (by omega)]
  have e : 127 - (8 * i + (7 - k)) = 8 * (l.length - 1 - i) + k := by omega
  rw [e, coef_big l i k h (by omega) hk]

/-- A byte gathered from k bits, the highest first: coefficients from m on. -/
def gather (v m : Nat) : Nat → Nat
  | 0 => 0
  | k + 1 => gather v m k * 2 + coef v (m + k)

theorem gather_lt (v m k : Nat) : gather v m k < 2 ^ k := by
  induction k with
  | zero => simp [gather]
  | succ k ih =>
    have := coef_lt v (m + k)
    rw [gather, Nat.pow_succ]
    omega

theorem gather_eq (n m : Nat) (h : m + 8 ≤ 128) : ∀ k ≤ 8, gather (turned 128 n) m k = n / 2 ^ (128 - m - k) % 2 ^ k := by
  intro k hk
  induction k with
  | zero => simp [gather, Nat.mod_one]
  | succ k ih =>
    rw [gather, ih (by omega), coef_turned _ _ (by omega), coef]
    have e1 : 127 - (m + k) = 128 - m - (k + 1) := by omega
    have e2 : 128 - m - k = 128 - m - (k + 1) + 1 := by omega
    rw [e1, e2, Nat.pow_succ 2 (128 - m - (k + 1)), ← Nat.div_div_eq_div_mul, Nat.pow_succ 2 k]
    generalize n / 2 ^ (128 - m - (k + 1)) = x
    rw [Nat.mul_comm (2 ^ k) 2, Nat.mod_mul, Nat.add_comm, Nat.mul_comm]

/-- Byte i of a block, gathered. -/
theorem gather_byte (n i : Nat) (h : i < 16) : (bytes 16 n)[i]? = some (gather (turned 128 n) (8 * i) 8) := by
  rw [gather_eq n (8 * i) (by omega) 8 (by omega), bytes_get 16 n i h, pow256]
  have e : 8 * (16 - 1 - i) = 128 - 8 * i - 8 := by omega
  rw [e]

/-! ### Times x, and the sum -/

theorem xt_coef (b m : Nat) (hm : m < 128) : coef (xt 128 135 b) m = (if m = 0 then coef b 127 else if m = 1 ∨ m = 2 ∨ m = 7 then coef b (m - 1) ^^^ coef b 127 else coef b (m - 1)) := by
  unfold xt
  have e1 : coef (b * 2 % 2 ^ 128) m = if m = 0 then 0 else coef b (m - 1) := by
    rw [coef_bit, Nat.testBit_mod_two_pow, decide_eq_true hm, Bool.true_and]
    cases m with
    | zero => simp [Nat.testBit_zero]
    | succ m => rw [Nat.testBit_succ, Nat.mul_div_cancel b (by decide), if_neg (by omega), coef_bit]; rfl
  have e2 : coef (sel (b.testBit (128 - 1)) 135) m = if m = 0 ∨ m = 1 ∨ m = 2 ∨ m = 7 then coef b 127 else 0 := by
    rw [coef_bit b 127]
    cases hb : b.testBit (128 - 1) with
    | false => simp [sel, coef_zero]
    | true =>
      have key : ∀ m < 128, coef (sel true 135) m = if m = 0 ∨ m = 1 ∨ m = 2 ∨ m = 7 then true.toNat else 0 := by decide +kernel
      exact key m hm
  rw [coef_xor, e1, e2]
  by_cases h0 : m = 0
  · simp [h0]
  · by_cases h1 : m = 1 ∨ m = 2 ∨ m = 7
    · simp [h0, h1]
    · simp [h0, h1]

theorem xt_lt {b : Nat} : xt 128 135 b < 2 ^ 128 := Nat.xor_lt_two_pow (Nat.mod_lt _ (by decide)) (sel_lt (by decide))

/-- b, i times x. -/
def xtn (b : Nat) : Nat → Nat
  | 0 => b
  | i + 1 => xt 128 135 (xtn b i)
/-- The sum after i steps. -/
def accT (a b : Nat) : Nat → Nat
  | 0 => 0
  | i + 1 => accT a b i ^^^ sel (a.testBit i) (xtn b i)

theorem xtn_lt {b : Nat} (h : b < 2 ^ 128) (i : Nat) : xtn b i < 2 ^ 128 := by
  cases i with
  | zero => exact h
  | succ i => exact xt_lt
theorem accT_lt {a b : Nat} (h : b < 2 ^ 128) (i : Nat) : accT a b i < 2 ^ 128 := by
  induction i with
  | zero => exact Nat.two_pow_pos _
  | succ i ih => exact Nat.xor_lt_two_pow ih (sel_lt (xtn_lt h i))

theorem xtn_first (b i : Nat) : xtn (xt 128 135 b) i = xtn b (i + 1) := by
  induction i with
  | zero => rfl
  | succ i ih => rw [xtn, ih]; rfl

theorem accT_op (k : Nat) : ∀ a b, accT a b k = op 128 135 k a b := by
  induction k with
  | zero => intro a b; rfl
  | succ k ih =>
    intro a b
    rw [op, ← ih]
    have : ∀ j, accT a b (j + 1) = sel (a.testBit 0) b ^^^ accT (a / 2) (xt 128 135 b) j := by
      intro j
      induction j with
      | zero => simp [accT, xtn]
      | succ j ihj =>
        rw [accT, ihj, accT, xtn_first, Nat.testBit_succ, Nat.xor_assoc]
    exact this k

/-- The reference's loop gives the product. -/
theorem accT_all {a b : Nat} (ha : a < 2 ^ 128) (hb : b < 2 ^ 128) : accT a b 128 = mul 128 135 a b := by
  rw [accT_op, mul_comm 128 135 ha hb]
  rfl

/-- On blocks. -/
theorem accT_block {a b : Nat} (ha : a < 2 ^ 128) (hb : b < 2 ^ 128) : turned 128 (accT (turned 128 a) (turned 128 b) 128) = times128 a b := by
  rw [accT_all (turned_lt 128 a) (turned_lt 128 b), times128_eq ha hb]

theorem block_accT {a b : Nat} (ha : a < 2 ^ 128) (hb : b < 2 ^ 128) : accT (turned 128 a) (turned 128 b) 128 = turned 128 (times128 a b) := by
  rw [← accT_block ha hb, turned_turned (accT_lt (turned_lt 128 b) 128)]

/-! ### The product as a loop over a block's bits from above -/

/-- b, i times x, turned about. -/
def xrn (b : Nat) : Nat → Nat
  | 0 => b
  | i + 1 => xr 299076299051606071403356588563077529600 (xrn b i)
def accR (a b : Nat) : Nat → Nat
  | 0 => 0
  | i + 1 => accR a b i ^^^ sel (a.testBit (127 - i)) (xrn b i)

theorem xrn_turned {b : Nat} (i : Nat) : xrn (turned 128 b) i = turned 128 (xtn b i) := by
  induction i with
  | zero => rfl
  | succ i ih => rw [xrn, ih, xtn, turned_xt 128 135 (by decide), word128]

theorem accR_turned {a b : Nat} (i : Nat) (h : i ≤ 128) : accR (turned 128 a) (turned 128 b) i = turned 128 (accT a b i) := by
  induction i with
  | zero => exact (turned_zero 128).symm
  | succ i ih =>
    rw [accR, ih (by omega), accT, turned_xor, turned_sel, xrn_turned]
    have e : (turned 128 a).testBit (127 - i) = a.testBit i := by
      rw [turned_bit, decide_eq_true (by omega), Bool.true_and]
      congr 1
      omega
    rw [e]

theorem xr_lt {b : Nat} (h : b < 2 ^ 128) : xr 299076299051606071403356588563077529600 b < 2 ^ 128 :=
  Nat.xor_lt_two_pow (Nat.lt_of_le_of_lt (Nat.div_le_self _ _) h) (sel_lt (by decide))
theorem xrn_lt {b : Nat} (h : b < 2 ^ 128) (i : Nat) : xrn b i < 2 ^ 128 := by
  cases i with
  | zero => exact h
  | succ i => exact xr_lt (xrn_lt h i)
theorem accR_lt {a b : Nat} (h : b < 2 ^ 128) (i : Nat) : accR a b i < 2 ^ 128 := by
  induction i with
  | zero => exact Nat.two_pow_pos _
  | succ i ih => exact Nat.xor_lt_two_pow ih (sel_lt (xrn_lt h i))

/-- A loop over a's bits from above, where b is shifted down, gives the product of the blocks. -/
theorem accR_all {a b : Nat} (ha : a < 2 ^ 128) (hb : b < 2 ^ 128) : accR a b 128 = times128 a b := by
  have e := accR_turned (a := turned 128 a) (b := turned 128 b) 128 (Nat.le_refl _)
  rw [turned_turned ha, turned_turned hb] at e
  rw [e, accT_block ha hb]

/-! ### Two halves -/

/-- A block of its halves. -/
def whole (hi lo : Nat) : Nat := hi * 2 ^ 64 + lo

theorem whole_lt {hi lo : Nat} (h : hi < 2 ^ 64) (l : lo < 2 ^ 64) : whole hi lo < 2 ^ 128 := by unfold whole; omega
theorem whole_halves (n : Nat) : whole (n / 2 ^ 64) (n % 2 ^ 64) = n := by unfold whole; omega
theorem whole_inj {a b c d : Nat} (hb : b < 2 ^ 64) (hd : d < 2 ^ 64) (h : whole a b = whole c d) : a = c ∧ b = d := by unfold whole at h; omega
theorem whole_bit {hi lo : Nat} (l : lo < 2 ^ 64) (i : Nat) : (whole hi lo).testBit i = if i < 64 then lo.testBit i else hi.testBit (i - 64) := by
  unfold whole
  rw [Nat.mul_comm, Nat.testBit_two_pow_mul_add _ l]
theorem whole_xor {a b c d : Nat} (hb : b < 2 ^ 64) (hd : d < 2 ^ 64) : whole a b ^^^ whole c d = whole (a ^^^ c) (b ^^^ d) := by
  apply Nat.eq_of_testBit_eq
  intro i
  rw [Nat.testBit_xor, whole_bit hb, whole_bit hd, whole_bit (Nat.xor_lt_two_pow hb hd)]
  by_cases h : i < 64 <;> simp [h]
theorem whole_sel (c : Bool) (a b : Nat) : sel c (whole a b) = whole (sel c a) (sel c b) := by cases c <;> simp [sel, whole]
theorem whole_half (hi lo : Nat) : whole hi lo / 2 = whole (hi / 2) (lo / 2 + hi % 2 * 2 ^ 63) := by unfold whole; omega
theorem half_low {hi lo : Nat} (l : lo < 2 ^ 64) : lo / 2 + hi % 2 * 2 ^ 63 < 2 ^ 64 := by omega
theorem half_or {hi lo : Nat} (l : lo < 2 ^ 64) : lo / 2 ||| hi % 2 * 2 ^ 63 = lo / 2 + hi % 2 * 2 ^ 63 := by
  rcases Nat.mod_two_eq_zero_or_one hi with h | h
  · rw [h]; simp
  · rw [h, Nat.one_mul, Nat.or_comm, Nat.add_comm]
    exact (Nat.two_pow_add_eq_or_of_lt (i := 63) (b := lo / 2) (by omega) 1 ▸ by simp)
/-- Times x on halves: the divisor's word lies in the higher one. -/
theorem xr_whole {hi lo : Nat} (l : lo < 2 ^ 64) : xr 299076299051606071403356588563077529600 (whole hi lo) = whole (hi / 2 ^^^ sel (lo.testBit 0) 16212958658533785600) (lo / 2 + hi % 2 * 2 ^ 63) := by
  unfold xr
  have e : (299076299051606071403356588563077529600 : Nat) = whole 16212958658533785600 0 := by decide
  rw [whole_half, e, whole_sel, sel_zero, whole_xor (half_low l) (by decide), Nat.xor_zero, whole_bit l]
  rfl

end Gcm
end Go.Proofs.Ytedoggejbhbebaa
