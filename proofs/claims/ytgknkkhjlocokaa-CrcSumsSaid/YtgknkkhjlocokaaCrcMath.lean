/-
  Plain facts on checksums by division: the register's steps (the lowest bit first), that they are linear and injective, what a changed stretch of two bytes does, and the same register read the other way round. Conditions: none.
-/
namespace Go.Proofs.Ytgknkkhjlocokaa
namespace Crc

/-- One bit: the register is shifted to its low end. -/
def bitStep (p r : Nat) : Nat := if r % 2 = 1 then (r / 2) ^^^ p else r / 2
/-- So many bits. -/
def bitSteps (p : Nat) : Nat → Nat → Nat
  | 0, r => r
  | n + 1, r => bitSteps p n (bitStep p r)
/-- One byte. -/
def byteStep (p r c : Nat) : Nat := bitSteps p 8 (r ^^^ c)
/-- Some bytes. -/
def reg (p : Nat) : Nat → List Nat → Nat
  | r, [] => r
  | r, c :: l => reg p (byteStep p r c) l

theorem reg_append (p : Nat) (l m : List Nat) : ∀ r, reg p r (l ++ m) = reg p (reg p r l) m := by
  induction l with
  | nil => intro r; rfl
  | cons c l ih => intro r; exact ih _

theorem xor_mod (a b : Nat) : (a ^^^ b) % 2 = (a % 2 + b % 2) % 2 := by
  have h := Nat.xor_mod_two_eq_one (a := a) (b := b)
  omega

theorem xor_half (a b : Nat) : (a ^^^ b) / 2 = a / 2 ^^^ b / 2 := by
  have := Nat.shiftRight_xor_distrib (a := a) (b := b) (i := 1)
  simpa [Nat.shiftRight_succ] using this

theorem xor_pair (a b p : Nat) : (a ^^^ p) ^^^ (b ^^^ p) = a ^^^ b := by
  rw [Nat.xor_assoc, Nat.xor_comm b p, ← Nat.xor_assoc p p b, Nat.xor_self, Nat.zero_xor]

theorem bitStep_xor (p a b : Nat) : bitStep p (a ^^^ b) = bitStep p a ^^^ bitStep p b := by
  unfold bitStep
  rw [xor_mod, xor_half]
  rcases Nat.mod_two_eq_zero_or_one a with ha | ha <;> rcases Nat.mod_two_eq_zero_or_one b with hb | hb <;> simp only [ha, hb]
  · simp
  · simp [Nat.xor_assoc]
  · simp only [if_true, Nat.zero_ne_one, if_false]
    rw [Nat.xor_assoc, Nat.xor_assoc, Nat.xor_comm p]
  · simp only [Nat.reduceAdd, Nat.reduceMod, if_true, Nat.zero_ne_one, if_false]
    exact (xor_pair _ _ _).symm

theorem bitSteps_xor (p n : Nat) : ∀ a b, bitSteps p n (a ^^^ b) = bitSteps p n a ^^^ bitSteps p n b := by
  induction n with
  | zero => intro a b; rfl
  | succ n ih => intro a b; simp only [bitSteps, bitStep_xor, ih]

theorem byteStep_xor (p r s c d : Nat) : byteStep p (r ^^^ s) (c ^^^ d) = byteStep p r c ^^^ byteStep p s d := by
  unfold byteStep
  rw [← bitSteps_xor]
  congr 1
  rw [Nat.xor_assoc, Nat.xor_assoc, ← Nat.xor_assoc s c d, ← Nat.xor_assoc c s d, Nat.xor_comm s c]

/-- Two rows, one by one. -/
def xors : List Nat → List Nat → List Nat
  | a :: l, b :: m => (a ^^^ b) :: xors l m
  | _, _ => []

theorem reg_xors (p : Nat) (l : List Nat) : ∀ (m : List Nat) (r s : Nat), l.length = m.length → reg p (r ^^^ s) (xors l m) = reg p r l ^^^ reg p s m := by
  induction l with
  | nil =>
    intro m r s h
    cases m with
    | nil => rfl
    | cons b m => simp at h
  | cons a l ih =>
    intro m r s h
    cases m with
    | nil => simp at h
    | cons b m =>
      have h' : l.length = m.length := Nat.succ.inj h
      have e := ih m (byteStep p r a) (byteStep p s b) h'
      rw [← byteStep_xor] at e
      exact e

theorem xors_length (l : List Nat) : ∀ m, l.length = m.length → (xors l m).length = l.length := by
  induction l with
  | nil => intro m h; simp [xors]
  | cons a l ih =>
    intro m h
    cases m with
    | nil => simp at h
    | cons b m => simp [xors, ih m (by simpa using h)]

/-- Of three rows. -/
theorem reg_three (p r : Nat) (a b c : List Nat) (hb : b.length = a.length) (hc : c.length = a.length) : reg p r (xors (xors a b) c) = (reg p r a ^^^ reg p r b) ^^^ reg p r c := by
  have h1 := reg_xors p a b r r hb.symm
  have h2 := reg_xors p (xors a b) c (r ^^^ r) r (by rw [xors_length a b hb.symm, hc])
  rw [h1] at h2
  rw [← h2]
  simp [Nat.xor_self]

/-! ### The register stays within its bits, and no step forgets anything -/

theorem bitStep_lt {p w r : Nat} (hp : p < 2 ^ w) (hr : r < 2 ^ w) : bitStep p r < 2 ^ w := by
  unfold bitStep
  have : r / 2 < 2 ^ w := Nat.lt_of_le_of_lt (Nat.div_le_self _ _) hr
  split
  · exact Nat.xor_lt_two_pow this hp
  · exact this

theorem bitSteps_lt {p w : Nat} (hp : p < 2 ^ w) (n : Nat) : ∀ {r}, r < 2 ^ w → bitSteps p n r < 2 ^ w := by
  induction n with
  | zero => intro r h; exact h
  | succ n ih => intro r h; exact ih (bitStep_lt hp h)

theorem byteStep_lt {p w r c : Nat} (hp : p < 2 ^ w) (hr : r < 2 ^ w) (hc : c < 2 ^ w) : byteStep p r c < 2 ^ w := bitSteps_lt hp 8 (Nat.xor_lt_two_pow hr hc)

theorem reg_lt {p w : Nat} (hp : p < 2 ^ w) (l : List Nat) : ∀ {r}, r < 2 ^ w → (∀ c ∈ l, c < 2 ^ w) → reg p r l < 2 ^ w := by
  induction l with
  | nil => intro r h _; exact h
  | cons c l ih => intro r h hl; exact ih (byteStep_lt hp h (hl c (by simp))) (fun d hd => hl d (by simp [hd]))

/-- A register that is not zero stays so: p has the register's top bit. -/
theorem bitStep_ne {p v r : Nat} (hp : p.testBit v = true) (hr : r < 2 ^ (v + 1)) (h0 : r ≠ 0) : bitStep p r ≠ 0 := by
  unfold bitStep
  split
  · intro h
    have h1 : ((r / 2) ^^^ p).testBit v = false := by rw [h]; simp
    rw [Nat.testBit_xor, hp, Nat.testBit_lt_two_pow (show r / 2 < 2 ^ v by rw [Nat.pow_succ] at hr; omega)] at h1
    simp at h1
  · omega

theorem bitSteps_ne {p v : Nat} (hp : p.testBit v = true) (hpw : p < 2 ^ (v + 1)) (n : Nat) : ∀ {r}, r < 2 ^ (v + 1) → r ≠ 0 → bitSteps p n r ≠ 0 := by
  induction n with
  | zero => intro r _ h; exact h
  | succ n ih => intro r hr h; exact ih (bitStep_lt hpw hr) (bitStep_ne hp hr h)

theorem xor_ne {a b : Nat} (h : a ≠ b) : a ^^^ b ≠ 0 := by
  intro e
  apply h
  have : a ^^^ b ^^^ b = 0 ^^^ b := by rw [e]
  rwa [Nat.xor_assoc, Nat.xor_self, Nat.xor_zero, Nat.zero_xor] at this

theorem ne_of_xor {a b : Nat} (h : a ^^^ b ≠ 0) : a ≠ b := by
  rintro rfl
  exact h (Nat.xor_self a)

/-- Different registers stay different under the same bytes. -/
theorem reg_ne {p v : Nat} (hp : p.testBit v = true) (hpw : p < 2 ^ (v + 1)) (l : List Nat) : ∀ {r s}, r < 2 ^ (v + 1) → s < 2 ^ (v + 1) → (∀ c ∈ l, c < 2 ^ (v + 1)) → r ≠ s → reg p r l ≠ reg p s l := by
  induction l with
  | nil => intro r s _ _ _ h; exact h
  | cons c l ih =>
    intro r s hr hs hl h
    have hc := hl c (by simp)
    refine ih (byteStep_lt hpw hr hc) (byteStep_lt hpw hs hc) (fun d hd => hl d (by simp [hd])) (ne_of_xor ?_)
    rw [← byteStep_xor, Nat.xor_self]
    unfold byteStep
    rw [Nat.xor_zero]
    exact bitSteps_ne hp hpw 8 (Nat.xor_lt_two_pow hr hs) (xor_ne h)

/-- Two bytes side by side, changed by m and m' (not both zero): the register is another one. -/
theorem two_ne {p v : Nat} (hp : p.testBit v = true) (hpw : p < 2 ^ (v + 1)) (hv : 8 ≤ v + 1) (hfar : ∀ m < 256, m ≠ 0 → 256 ≤ bitSteps p 8 m) {r c d m m' : Nat} (hm : m < 256) (hm' : m' < 256) (h : m ≠ 0 ∨ m' ≠ 0) :
    byteStep p (byteStep p r (c ^^^ m)) (d ^^^ m') ≠ byteStep p (byteStep p r c) d := by
  have hw : 256 ≤ 2 ^ (v + 1) := Nat.le_trans (by decide) (Nat.pow_le_pow_right (by decide) hv : 2 ^ 8 ≤ 2 ^ (v + 1))
  apply ne_of_xor
  rw [← byteStep_xor, ← byteStep_xor, Nat.xor_self, Nat.xor_comm (c ^^^ m) c, ← Nat.xor_assoc c c m, Nat.xor_self, Nat.zero_xor, Nat.xor_comm (d ^^^ m') d, ← Nat.xor_assoc d d m', Nat.xor_self, Nat.zero_xor]
  unfold byteStep
  rw [Nat.zero_xor]
  refine bitSteps_ne hp hpw 8 (Nat.xor_lt_two_pow (bitSteps_lt hpw 8 (by omega)) (by omega)) (xor_ne ?_)
  by_cases h0 : m = 0
  · subst h0
    rcases h with h | h
    · exact absurd rfl h
    · have : ∀ n, bitSteps p n 0 = 0 := by
        intro n
        induction n with
        | zero => rfl
        | succ n ih => simpa [bitSteps, bitStep] using ih
      rw [this]
      exact fun e => h e.symm
  · have := hfar m hm h0
    omega

theorem far_16 : ∀ m < 256, m ≠ 0 → 256 ≤ bitSteps 33800 8 m := by decide +kernel
theorem far_32 : ∀ m < 256, m ≠ 0 → 256 ≤ bitSteps 2197175160 8 m := by decide +kernel

/-- The whole: what stands before, two changed bytes, what stands behind. -/
theorem burst_ne {p v : Nat} (hp : p.testBit v = true) (hpw : p < 2 ^ (v + 1)) (hv : 8 ≤ v + 1) (hfar : ∀ m < 256, m ≠ 0 → 256 ≤ bitSteps p 8 m) {r c d m m' : Nat} (l k : List Nat) (hr : r < 2 ^ (v + 1)) (hl : ∀ x ∈ l, x < 256) (hk : ∀ x ∈ k, x < 256) (hc : c < 256) (hd : d < 256) (hm : m < 256) (hm' : m' < 256) (h : m ≠ 0 ∨ m' ≠ 0) :
    reg p r (l ++ (c ^^^ m) :: (d ^^^ m') :: k) ≠ reg p r (l ++ c :: d :: k) := by
  have hw : 256 ≤ 2 ^ (v + 1) := Nat.le_trans (by decide) (Nat.pow_le_pow_right (by decide) hv : 2 ^ 8 ≤ 2 ^ (v + 1))
  have h1 : reg p r l < 2 ^ (v + 1) := reg_lt hpw l hr (fun x hx => Nat.lt_of_lt_of_le (hl x hx) hw)
  have x8 : ∀ {a b : Nat}, a < 256 → b < 256 → a ^^^ b < 2 ^ (v + 1) := fun ha hb => Nat.lt_of_lt_of_le (Nat.xor_lt_two_pow (n := 8) ha hb) hw
  have h2 := two_ne hp hpw hv hfar hm hm' h (r := reg p r l) (c := c) (d := d)
  have h3 := byteStep_lt hpw (byteStep_lt hpw h1 (x8 hc hm)) (x8 hd hm')
  have h4 := byteStep_lt hpw (byteStep_lt hpw h1 (Nat.lt_of_lt_of_le hc hw)) (Nat.lt_of_lt_of_le hd hw)
  have h5 : ∀ x ∈ k, x < 2 ^ (v + 1) := fun x hx => Nat.lt_of_lt_of_le (hk x hx) hw
  have h6 := reg_ne hp hpw k h3 h4 h5 h2
  have e1 : reg p r (l ++ (c ^^^ m) :: (d ^^^ m') :: k) = reg p (byteStep p (byteStep p (reg p r l) (c ^^^ m)) (d ^^^ m')) k := reg_append p l _ r
  have e2 : reg p r (l ++ c :: d :: k) = reg p (byteStep p (byteStep p (reg p r l) c) d) k := reg_append p l _ r
  rw [e1, e2]
  exact h6

/-! ### The other way round: the highest bit first -/

/-- The low w bits of n, turned about. -/
def rev : Nat → Nat → Nat
  | 0, _ => 0
  | w + 1, n => 2 ^ w * (n % 2) + rev w (n / 2)

theorem rev_lt (w : Nat) : ∀ n, rev w n < 2 ^ w := by
  induction w with
  | zero => intro n; simp [rev]
  | succ w ih =>
    intro n
    have := ih (n / 2)
    rcases Nat.mod_two_eq_zero_or_one n with h | h <;> simp only [rev, h, Nat.pow_succ] <;> omega

theorem rev_testBit (w : Nat) : ∀ n i, (rev w n).testBit i = (decide (i < w) && n.testBit (w - 1 - i)) := by
  induction w with
  | zero => intro n i; simp [rev]
  | succ w ih =>
    intro n i
    have hlt := rev_lt w (n / 2)
    rw [rev, Nat.testBit_two_pow_mul_add _ hlt]
    by_cases hi : i < w
    · rw [if_pos hi, ih]
      have e1 : w + 1 - 1 - i = w - 1 - i + 1 := by omega
      rw [e1, Nat.testBit_succ]
      simp [hi, Nat.lt_succ_of_lt hi]
    · rw [if_neg hi]
      by_cases hw : i = w
      · subst hw
        rcases Nat.mod_two_eq_zero_or_one n with h | h <;> simp [h, Nat.testBit_zero]
      · have : n % 2 < 2 ^ (i - w) := Nat.lt_of_lt_of_le (Nat.mod_lt _ (by decide)) (Nat.pow_le_pow_right (by decide) (by omega) : 2 ^ 1 ≤ 2 ^ (i - w))
        rw [Nat.testBit_lt_two_pow this]
        simp
        omega

theorem rev_xor (w a b : Nat) : rev w (a ^^^ b) = rev w a ^^^ rev w b := by
  apply Nat.eq_of_testBit_eq
  intro i
  simp only [rev_testBit, Nat.testBit_xor]
  by_cases h : i < w <;> simp [h]

theorem rev_rev {w n : Nat} (h : n < 2 ^ w) : rev w (rev w n) = n := by
  apply Nat.eq_of_testBit_eq
  intro i
  simp only [rev_testBit]
  by_cases hi : i < w
  · have e : w - 1 - (w - 1 - i) = i := by omega
    have l : w - 1 - i < w := by omega
    simp [hi, e, l]
  · have e : n.testBit i = false := Nat.testBit_lt_two_pow (Nat.lt_of_lt_of_le h (Nat.pow_le_pow_right (by decide) (by omega)))
    simp [hi, e]

theorem rev_double (w n : Nat) : rev w (n * 2 % 2 ^ w) = rev w n / 2 := by
  apply Nat.eq_of_testBit_eq
  intro i
  rw [rev_testBit, Nat.testBit_mod_two_pow, ← Nat.testBit_succ, rev_testBit]
  by_cases h : i + 1 < w
  · have e : w - 1 - i = w - 1 - (i + 1) + 1 := by omega
    rw [e, Nat.testBit_succ, Nat.mul_div_cancel n (by decide)]
    have l1 : i < w := by omega
    have l2 : w - 1 - (i + 1) + 1 < w := by omega
    simp [h, l1, l2]
  · by_cases hi : i < w
    · have e : w - 1 - i = 0 := by omega
      rw [e]
      simp [h, Nat.testBit_zero]
    · simp [h, hi]

theorem rev_mod {v n : Nat} (h : n < 2 ^ (v + 1)) : rev (v + 1) n % 2 = n / 2 ^ v := by
  have hd : n / 2 ^ v < 2 := by
    rw [Nat.div_lt_iff_lt_mul (Nat.two_pow_pos v), Nat.mul_comm, ← Nat.pow_succ]
    exact h
  have h1 := rev_testBit (v + 1) n 0
  have h2 : n.testBit v = decide (n / 2 ^ v % 2 = 1) := by rw [Nat.testBit_eq_decide_div_mod_eq]
  simp only [Nat.testBit_zero, Nat.zero_lt_succ, decide_true, Bool.true_and, Nat.add_sub_cancel, Nat.sub_zero, h2] at h1
  have h3 := decide_eq_decide.1 h1
  generalize n / 2 ^ v = q at *
  omega

theorem ones_xor {w x : Nat} (h : x < 2 ^ w) : (2 ^ w - 1) ^^^ x = 2 ^ w - 1 - x := by
  apply Nat.eq_of_testBit_eq
  intro i
  have e : 2 ^ w - 1 - x = 2 ^ w - (x + 1) := by omega
  rw [e, Nat.testBit_two_pow_sub_succ h, Nat.testBit_xor, Nat.testBit_two_pow_sub_one]
  by_cases hi : i < w
  · simp [hi]
  · rw [Nat.testBit_lt_two_pow (Nat.lt_of_lt_of_le h (Nat.pow_le_pow_right (by decide) (by omega)))]
    simp [hi]

theorem rev_ones (w : Nat) : rev w (2 ^ w - 1) = 2 ^ w - 1 := by
  apply Nat.eq_of_testBit_eq
  intro i
  rw [rev_testBit, Nat.testBit_two_pow_sub_one, Nat.testBit_two_pow_sub_one]
  by_cases hi : i < w
  · have l : w - 1 - i < w := by omega
    simp [hi, l]
  · simp [hi]

/-- The complement, turned about. -/
theorem rev_not {w x : Nat} (h : x < 2 ^ w) : rev w (2 ^ w - 1 - x) = (2 ^ w - 1) ^^^ rev w x := by
  rw [← ones_xor h, rev_xor, rev_ones]

/-- Turned about one bit more. -/
theorem rev_succ (i n : Nat) : rev (i + 1) n = rev i n * 2 + n / 2 ^ i % 2 := by
  apply Nat.eq_of_testBit_eq
  intro j
  have hb : n / 2 ^ i % 2 < 2 ^ 1 := Nat.mod_lt _ (by decide)
  rw [Nat.mul_comm, show (2 : Nat) = 2 ^ 1 from rfl, Nat.testBit_two_pow_mul_add _ hb, rev_testBit]
  by_cases hj : j < 1
  · have : j = 0 := by omega
    subst this
    rw [if_pos hj]
    simp only [Nat.zero_lt_succ, decide_true, Bool.true_and, Nat.add_sub_cancel, Nat.sub_zero, Nat.testBit_zero]
    rw [Nat.testBit_eq_decide_div_mod_eq]
    simp
  · rw [if_neg hj, rev_testBit]
    have e : i - 1 - (j - 1) = i + 1 - 1 - j := by omega
    rw [e]
    by_cases h : j < i + 1
    · have l : j - 1 < i := by omega
      simp [h, l]
    · have l : ¬ j - 1 < i := by omega
      simp [h, l]

/-- One bit b goes in, the register's lowest first. -/
def loStep (p r b : Nat) : Nat := if r % 2 ≠ b then (r / 2) ^^^ p else r / 2
/-- The same, the register's highest first. -/
def hiStep (d w r b : Nat) : Nat := if r / 2 ^ (w - 1) ≠ b then (r * 2 % 2 ^ w) ^^^ d else r * 2 % 2 ^ w

theorem hiStep_lt {d w r b : Nat} (hd : d < 2 ^ w) : hiStep d w r b < 2 ^ w := by
  unfold hiStep
  have : r * 2 % 2 ^ w < 2 ^ w := Nat.mod_lt _ (Nat.two_pow_pos w)
  split
  · exact Nat.xor_lt_two_pow this hd
  · exact this

theorem rev_hiStep {d v r b : Nat} (hr : r < 2 ^ (v + 1)) : rev (v + 1) (hiStep d (v + 1) r b) = loStep (rev (v + 1) d) (rev (v + 1) r) b := by
  unfold hiStep loStep
  rw [rev_mod hr, Nat.add_sub_cancel]
  split
  · rw [rev_xor, rev_double]
  · rw [rev_double]

/-- So many bits of c, the lowest first. -/
def loBits (p : Nat) : Nat → Nat → Nat → Nat
  | 0, r, _ => r
  | n + 1, r, c => loBits p n (loStep p r (c % 2)) (c / 2)
def hiBits (d w : Nat) : Nat → Nat → Nat → Nat
  | 0, r, _ => r
  | n + 1, r, c => hiBits d w n (hiStep d w r (c % 2)) (c / 2)

theorem hiBits_lt {d w : Nat} (hd : d < 2 ^ w) (n : Nat) : ∀ {r} c, r < 2 ^ w → hiBits d w n r c < 2 ^ w := by
  induction n with
  | zero => intro r c h; exact h
  | succ n ih => intro r c h; exact ih _ (hiStep_lt hd)

theorem rev_hiBits {d v : Nat} (hd : d < 2 ^ (v + 1)) (n : Nat) : ∀ r c, r < 2 ^ (v + 1) → rev (v + 1) (hiBits d (v + 1) n r c) = loBits (rev (v + 1) d) n (rev (v + 1) r) c := by
  induction n with
  | zero => intro r c h; rfl
  | succ n ih =>
    intro r c h
    rw [hiBits, loBits, ih _ _ (hiStep_lt hd), rev_hiStep h]

theorem loStep_eq (p r b : Nat) (hb : b < 2) : loStep p r b = bitStep p (r ^^^ b) := by
  unfold loStep bitStep
  rw [xor_mod, xor_half]
  rcases Nat.mod_two_eq_zero_or_one r with h | h <;> obtain rfl | rfl : b = 0 ∨ b = 1 := by omega
  all_goals simp [h]

theorem bitStep_byte (p r c : Nat) : bitStep p (r ^^^ c) = loStep p r (c % 2) ^^^ c / 2 := by
  rw [loStep_eq p r _ (Nat.mod_lt _ (by decide)), bitStep_xor, bitStep_xor, Nat.xor_assoc]
  congr 1
  unfold bitStep
  rcases Nat.mod_two_eq_zero_or_one c with h | h
  · simp [h]
  · simp only [h, if_true, Nat.reduceMod, Nat.reduceDiv, Nat.zero_xor]
    rw [Nat.xor_comm]

theorem loBits_eq (p n : Nat) : ∀ r c, c < 2 ^ n → loBits p n r c = bitSteps p n (r ^^^ c) := by
  induction n with
  | zero =>
    intro r c h
    have : c = 0 := by simpa using h
    subst this
    simp [loBits, bitSteps]
  | succ n ih =>
    intro r c h
    rw [loBits, bitSteps, bitStep_byte]
    exact ih _ _ (by rw [Nat.pow_succ] at h; omega)

/-- One byte, the register's highest bit first, is the byte's step, turned about. -/
theorem rev_byte {d v r c : Nat} (hd : d < 2 ^ (v + 1)) (hr : r < 2 ^ (v + 1)) (hc : c < 256) : rev (v + 1) (hiBits d (v + 1) 8 r c) = byteStep (rev (v + 1) d) (rev (v + 1) r) c := by
  rw [rev_hiBits hd 8 r c hr, loBits_eq _ 8 _ _ hc]
  rfl

/-- Some bytes, the register's highest bit first. -/
def hiReg (d w : Nat) : Nat → List Nat → Nat
  | r, [] => r
  | r, c :: l => hiReg d w (hiBits d w 8 r c) l

theorem rev_hiReg {d v : Nat} (hd : d < 2 ^ (v + 1)) (l : List Nat) : ∀ r, r < 2 ^ (v + 1) → (∀ c ∈ l, c < 256) → rev (v + 1) (hiReg d (v + 1) r l) = reg (rev (v + 1) d) (rev (v + 1) r) l := by
  induction l with
  | nil => intro r h _; rfl
  | cons c l ih =>
    intro r h hl
    have e := ih (hiBits d (v + 1) 8 r c) (hiBits_lt hd 8 c h) (fun x hx => hl x (by simp [hx]))
    rw [rev_byte hd h (hl c (by simp))] at e
    exact e

theorem rev_16 : rev 16 4129 = 33800 := by decide
theorem rev_32 : rev 32 517762881 = 2197175160 := by decide

end Crc
end Go.Proofs.Ytgknkkhjlocokaa
