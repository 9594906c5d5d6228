/-
  Joined: ShaMath. Conditions: as each part says.
-/


/-
  Plain facts for the digests' layer: numbers as rows of digits of 32 bits (their product and how they compare), roots and their bits behind the point, and words of bits. Conditions: none.
-/
namespace Go.Proofs.Ytedoggejbhbebaa
namespace Sha

/-- The base of the digits. -/
def B : Nat := 4294967296

theorem B_pos : 0 < B := by decide

/-- The number that digits spell, the lowest first. -/
def valB : List Nat → Nat
  | [] => 0
  | d :: l => d + B * valB l

theorem valB_append (l m : List Nat) : valB (l ++ m) = valB l + B ^ l.length * valB m := by
  induction l with
  | nil => simp [valB]
  | cons d l ih => simp only [List.cons_append, valB, ih, List.length_cons, Nat.pow_succ, Nat.mul_add, Nat.add_assoc]; congr 2; rw [← Nat.mul_assoc, Nat.mul_comm B]

theorem valB_lt (l : List Nat) (h : ∀ d ∈ l, d < B) : valB l < B ^ l.length := by
  induction l with
  | nil => simp [valB]
  | cons d l ih =>
    have h1 := h d (by simp)
    have h2 := ih fun x hx => h x (by simp [hx])
    have h3 : B * (valB l + 1) ≤ B * B ^ l.length := Nat.mul_le_mul_left B h2
    rw [Nat.mul_add, Nat.mul_one] at h3
    rw [valB, List.length_cons, Nat.pow_succ, Nat.mul_comm (B ^ l.length)]
    omega

theorem valB_zero (n : Nat) : valB (List.replicate n 0) = 0 := by
  induction n with
  | zero => rfl
  | succ n ih => simp [List.replicate_succ, valB, ih]

/-- One digit set. -/
theorem valB_set (l : List Nat) : ∀ (j d x : Nat), l[j]? = some x → valB (l.set j d) + x * B ^ j = valB l + d * B ^ j := by
  induction l with
  | nil => intro j d x h; simp at h
  | cons c l ih =>
    intro j d x h
    cases j with
    | zero =>
      simp at h
      subst h
      simp only [List.set_cons_zero, valB, Nat.pow_zero, Nat.mul_one]
      omega
    | succ j =>
      have e := ih j d x (by simpa using h)
      simp only [List.set_cons_succ, valB, Nat.pow_succ]
      have e1 : x * (B ^ j * B) = B * (x * B ^ j) := by rw [← Nat.mul_assoc, Nat.mul_comm]
      have e2 : d * (B ^ j * B) = B * (d * B ^ j) := by rw [← Nat.mul_assoc, Nat.mul_comm]
      rw [e1, e2, Nat.add_assoc, ← Nat.mul_add, e, Nat.mul_add, Nat.add_assoc]

theorem valB_take (l : List Nat) (k x : Nat) (h : l[k]? = some x) : valB (l.take (k + 1)) = valB (l.take k) + x * B ^ k := by
  have hk : k < l.length := (List.getElem?_eq_some_iff.1 h).1
  have hx : l[k] = x := (List.getElem?_eq_some_iff.1 h).2
  rw [List.take_succ_eq_append_getElem hk, valB_append, List.length_take, Nat.min_eq_left (by omega), hx]
  simp only [valB, Nat.mul_zero, Nat.add_zero]
  rw [Nat.mul_comm]

/-! ### The product, as the reference makes it -/

/-- The row in the making, in front of the digit i of a: above what has been written it is 0. -/
structure Outer (a b : List Nat) (i : Nat) (ys : List Nat) : Prop where
  length : ys.length = a.length + b.length
  small : ∀ d ∈ ys, d < B
  above : ∀ j, i + b.length ≤ j → j < ys.length → ys[j]? = some 0
  val : valB ys = valB (a.take i) * valB b

/-- Inside: k digits of b have been taken. -/
structure Inner (a b : List Nat) (i k : Nat) (ys : List Nat) (carry : Nat) : Prop where
  length : ys.length = a.length + b.length
  small : ∀ d ∈ ys, d < B
  above : ∀ j, i + b.length ≤ j → j < ys.length → ys[j]? = some 0
  low : carry < B
  val : ∃ x, a[i]? = some x ∧ valB ys + carry * B ^ (i + k) = valB (a.take i) * valB b + x * valB (b.take k) * B ^ i

theorem Outer.start (a b : List Nat) : Outer a b 0 (List.replicate (a.length + b.length) 0) := by
  refine ⟨by simp, ?_, ?_, ?_⟩
  · intro d hd
    rw [List.eq_of_mem_replicate hd]
    exact B_pos
  · intro j _ hj
    rw [List.length_replicate] at hj
    simp [hj]
  · rw [valB_zero]
    simp [valB]

theorem Outer.inner {a b : List Nat} {i : Nat} {ys : List Nat} (h : Outer a b i ys) (hi : i < a.length) : Inner a b i 0 ys 0 :=
  ⟨h.length, h.small, h.above, B_pos, a[i], List.getElem?_eq_getElem hi, by rw [h.val]; simp [valB]⟩

/-- What is reckoned in a step fits. -/
theorem step_lt {x y z c : Nat} (hx : x < B) (hy : y < B) (hz : z < B) (hc : c < B) : x * y + z + c < B * B := by
  have h : x * y ≤ (B - 1) * (B - 1) := Nat.mul_le_mul (by omega) (by omega)
  have e : (B - 1) * (B - 1) + (B - 1) + (B - 1) < B * B := by decide
  omega

theorem small_set {ys : List Nat} {j d : Nat} (h : ∀ d ∈ ys, d < B) (hd : d < B) : ∀ x ∈ ys.set j d, x < B := by
  intro x hx
  rcases List.mem_or_eq_of_mem_set hx with hx | rfl
  · exact h x hx
  · exact hd

theorem Inner.step {a b : List Nat} {i k : Nat} {ys : List Nat} {carry x y z : Nat} (h : Inner a b i k ys carry) (hxs : ∀ d ∈ a, d < B) (hys : ∀ d ∈ b, d < B) (hx : a[i]? = some x) (hy : b[k]? = some y) (hz : ys[i + k]? = some z) :
    Inner a b i (k + 1) (ys.set (i + k) ((x * y + z + carry) % B)) ((x * y + z + carry) / B) := by
  obtain ⟨x', hx', hv⟩ := h.val
  obtain rfl : x' = x := Option.some.inj (hx'.symm.trans hx)
  have hxB := hxs _ (List.mem_of_getElem? hx)
  have hyB := hys _ (List.mem_of_getElem? hy)
  have hzB := h.small _ (List.mem_of_getElem? hz)
  have hk : k < b.length := (List.getElem?_eq_some_iff.1 hy).1
  refine ⟨by rw [List.length_set]; exact h.length, small_set h.small (Nat.mod_lt _ B_pos), ?_, ?_, x', hx, ?_⟩
  · intro j hj hl
    rw [List.length_set] at hl
    rw [List.getElem?_set, if_neg (by omega)]
    exact h.above j hj hl
  · rw [Nat.div_lt_iff_lt_mul B_pos]
    exact step_lt hxB hyB hzB h.low
  · have e1 := valB_set ys (i + k) ((x' * y + z + carry) % B) z hz
    have e2 := valB_take b k y hy
    have e3 := Nat.div_add_mod (x' * y + z + carry) B
    generalize (x' * y + z + carry) / B = q at *
    generalize (x' * y + z + carry) % B = r at *
    generalize valB (ys.set (i + k) r) = V at *
    generalize valB ys = U at *
    rw [e2, Nat.mul_add, Nat.add_mul]
    have e4 : x' * (y * B ^ k) * B ^ i = x' * y * B ^ (i + k) := by
      rw [Nat.pow_add, ← Nat.mul_assoc x' y, Nat.mul_assoc (x' * y), Nat.mul_comm (B ^ k)]
    rw [e4, ← Nat.add_assoc (valB (a.take i) * valB b), ← hv]
    have e5 : q * B ^ (i + (k + 1)) = B * q * B ^ (i + k) := by
      rw [← Nat.add_assoc, Nat.pow_succ, Nat.mul_comm B q, Nat.mul_assoc, Nat.mul_comm B]
    rw [e5]
    have e6 : B * q * B ^ (i + k) + r * B ^ (i + k) = (x' * y + z + carry) * B ^ (i + k) := by rw [← Nat.add_mul, e3]
    rw [Nat.add_mul, Nat.add_mul] at e6
    omega

/-- The last carry is laid behind. -/
theorem Inner.finish {a b : List Nat} {i : Nat} {ys : List Nat} {carry : Nat} (h : Inner a b i b.length ys carry) (hi : i < a.length) : Outer a b (i + 1) (ys.set (i + b.length) carry) := by
  obtain ⟨x, hx, hv⟩ := h.val
  have hl : i + b.length < ys.length := by rw [h.length]; omega
  refine ⟨by rw [List.length_set]; exact h.length, small_set h.small h.low, ?_, ?_⟩
  · intro j hj hjl
    rw [List.length_set] at hjl
    rw [List.getElem?_set, if_neg (by omega)]
    exact h.above j (by omega) hjl
  · have e1 := valB_set ys (i + b.length) carry 0 (h.above _ (Nat.le_refl _) hl)
    rw [Nat.zero_mul, Nat.add_zero] at e1
    rw [List.take_length] at hv
    rw [e1, hv, valB_take a i x hx, Nat.add_mul]
    congr 1
    rw [Nat.mul_assoc, Nat.mul_comm (valB b), ← Nat.mul_assoc]

theorem Outer.all {a b : List Nat} {ys : List Nat} (h : Outer a b a.length ys) : valB ys = valB a * valB b := by
  have := h.val
  rwa [List.take_length] at this

/-! ### How two rows compare, from the top -/

theorem valB_parts (l : List Nat) (i x : Nat) (h : l[i]? = some x) : valB l = valB (l.take i) + B ^ i * (x + B * valB (l.drop (i + 1))) := by
  have hi : i < l.length := (List.getElem?_eq_some_iff.1 h).1
  have hx : l[i] = x := (List.getElem?_eq_some_iff.1 h).2
  have e : l = l.take i ++ x :: l.drop (i + 1) := by rw [← hx, List.getElem_cons_drop, List.take_append_drop]
  have e2 := valB_append (l.take i) (x :: l.drop (i + 1))
  rw [← e, List.length_take, Nat.min_eq_left (by omega)] at e2
  exact e2

theorem drop_same {a c : List Nat} {i : Nat} (hl : a.length = c.length) (h : ∀ j, i < j → j < a.length → a[j]? = c[j]?) : a.drop (i + 1) = c.drop (i + 1) := by
  apply List.ext_getElem?
  intro j
  rw [List.getElem?_drop, List.getElem?_drop]
  by_cases hj : i + 1 + j < a.length
  · exact h _ (by omega) hj
  · rw [List.getElem?_eq_none (by omega), List.getElem?_eq_none (by omega)]

theorem cmp_lt {a c : List Nat} {i x y : Nat} (ha : ∀ d ∈ a, d < B) (hl : a.length = c.length) (h : ∀ j, i < j → j < a.length → a[j]? = c[j]?) (hx : a[i]? = some x) (hy : c[i]? = some y) (hxy : x < y) : valB a < valB c := by
  have hi : i < a.length := (List.getElem?_eq_some_iff.1 hx).1
  have ht := valB_lt (a.take i) (fun d hd => ha d (List.mem_of_mem_take hd))
  rw [List.length_take, Nat.min_eq_left (by omega)] at ht
  rw [valB_parts a i x hx, valB_parts c i y hy, drop_same hl h]
  have hm : B ^ i * (x + B * valB (c.drop (i + 1)) + 1) ≤ B ^ i * (y + B * valB (c.drop (i + 1))) := Nat.mul_le_mul_left _ (by omega)
  rw [Nat.mul_add (B ^ i) (x + B * valB (c.drop (i + 1))) 1, Nat.mul_one] at hm
  omega

/-- A number with so many noughts behind it, in so many digits. -/
def noughted (len n p : Nat) : List Nat := (List.replicate len 0).set n p

theorem noughted_length (len n p : Nat) : (noughted len n p).length = len := by simp [noughted]

theorem noughted_at {len n p j : Nat} (hj : j < len) : (noughted len n p)[j]? = some (if j = n then p else 0) := by
  unfold noughted
  rw [List.getElem?_set]
  by_cases e : n = j
  · subst e
    simp [hj]
  · rw [if_neg e, if_neg (fun h => e h.symm)]
    simp [hj]

theorem noughted_val {len n p : Nat} (hn : n < len) : valB (noughted len n p) = p * B ^ n := by
  have h := valB_set (List.replicate len 0) n p 0 (by simp [hn])
  rw [Nat.zero_mul, Nat.add_zero, valB_zero, Nat.zero_add] at h
  exact h

theorem noughted_small {len n p : Nat} (hp : p < B) : ∀ d ∈ noughted len n p, d < B :=
  small_set (fun d hd => by rw [List.eq_of_mem_replicate hd]; exact B_pos) hp

/-- The first digit from the top that differs is smaller. -/
theorem most_lt {a : List Nat} {n p i x : Nat} (ha : ∀ d ∈ a, d < B) (hn : n < a.length) (h : ∀ j, i < j → j < a.length → a[j]? = some (if j = n then p else 0)) (hx : a[i]? = some x) (hxy : x < if i = n then p else 0) : valB a ≤ p * B ^ n := by
  have hi : i < a.length := (List.getElem?_eq_some_iff.1 hx).1
  rw [← noughted_val (p := p) hn]
  exact Nat.le_of_lt (cmp_lt ha (noughted_length _ _ _).symm (fun j h1 h2 => by rw [h j h1 h2, noughted_at h2]) hx (noughted_at hi) hxy)

/-- It is greater. -/
theorem most_gt {a : List Nat} {n p i x : Nat} (hp : p < B) (hn : n < a.length) (h : ∀ j, i < j → j < a.length → a[j]? = some (if j = n then p else 0)) (hx : a[i]? = some x) (hxy : (if i = n then p else 0) < x) : ¬ valB a ≤ p * B ^ n := by
  have hi : i < a.length := (List.getElem?_eq_some_iff.1 hx).1
  rw [← noughted_val (p := p) hn]
  exact Nat.not_le.2 (cmp_lt (noughted_small hp) (noughted_length _ _ _) (fun j h1 h2 => by rw [noughted_length] at h2; rw [h j h1 h2, noughted_at h2]) (noughted_at hi) hx hxy)

/-- None differs. -/
theorem most_eq {a : List Nat} {n p : Nat} (hn : n < a.length) (h : ∀ j, j < a.length → a[j]? = some (if j = n then p else 0)) : valB a ≤ p * B ^ n := by
  have e : a = noughted a.length n p := by
    apply List.ext_getElem?
    intro j
    by_cases hj : j < a.length
    · rw [h j hj, noughted_at hj]
    · rw [List.getElem?_eq_none (by omega), List.getElem?_eq_none (by rw [noughted_length]; omega)]
  have e2 := noughted_val (len := a.length) (p := p) hn
  rw [← e] at e2
  omega

/-! ### Roots -/

/-- The first 64 bits behind the point of p's root are r: W is its whole part. -/
def IsR (p r e W : Nat) : Prop := (W * 18446744073709551616 + r) ^ e ≤ p * 18446744073709551616 ^ e ∧ p * 18446744073709551616 ^ e < (W * 18446744073709551616 + r + 1) ^ e

instance (p r e W : Nat) : Decidable (IsR p r e W) := inferInstanceAs (Decidable (_ ∧ _))

theorem isR_one {p r s e W : Nat} (h : IsR p r e W) (k : IsR p s e W) : r = s := by
  rcases Nat.lt_trichotomy r s with hl | rfl | hl
  · have := Nat.pow_le_pow_left (show W * 18446744073709551616 + r + 1 ≤ W * 18446744073709551616 + s by omega) e
    have := h.2
    have := k.1
    omega
  · rfl
  · have := Nat.pow_le_pow_left (show W * 18446744073709551616 + s + 1 ≤ W * 18446744073709551616 + r by omega) e
    have := k.2
    have := h.1
    omega

/-- The reference's search of the whole part: the numbers below k have been tried. -/
def wholeTo (p e : Nat) : Nat → Nat
  | 0 => 0
  | k + 1 => if k ≠ 0 ∧ k ^ e ≤ p then k else wholeTo p e k

theorem whole_2 : ∀ p < 1001, wholeTo p 2 40 ^ 2 ≤ p ∧ p < (wholeTo p 2 40 + 1) ^ 2 ∧ wholeTo p 2 40 < 32 := by decide +kernel
theorem whole_3 : ∀ p < 1001, wholeTo p 3 40 ^ 3 ≤ p ∧ p < (wholeTo p 3 40 + 1) ^ 3 ∧ wholeTo p 3 40 < 11 := by decide +kernel

theorem valB_three (r W : Nat) : valB [r % B, r / B, W] = W * 18446744073709551616 + r := by
  have := Nat.div_add_mod r B
  simp only [valB, Nat.mul_zero, Nat.add_zero]
  unfold B at *
  omega

theorem B_4 (p : Nat) : p * B ^ 4 = p * 18446744073709551616 ^ 2 := rfl
theorem B_6 (p : Nat) : p * B ^ 6 = p * 18446744073709551616 ^ 3 := rfl

/-! ### Words of w bits -/

/-- Turned right by n. -/
def rotr (w x n : Nat) : Nat := x / 2 ^ n ||| x * 2 ^ (w - n) % 2 ^ w

theorem rotr_lt {w x n : Nat} (hx : x < 2 ^ w) : rotr w x n < 2 ^ w :=
  Nat.or_lt_two_pow (Nat.lt_of_le_of_lt (Nat.div_le_self _ _) hx) (Nat.mod_lt _ (Nat.two_pow_pos w))

/-- Cut off at the end, as the reference does it. -/
theorem rotr_cut {w x n : Nat} (hx : x < 2 ^ w) : (x / 2 ^ n ||| x * 2 ^ (w - n)) % 2 ^ w = rotr w x n := by
  rw [Nat.or_mod_two_pow, Nat.mod_eq_of_lt (Nat.lt_of_le_of_lt (Nat.div_le_self _ _) hx)]
  rfl

/-- Choose by e. -/
def ch (w e f g : Nat) : Nat := (e &&& f) ||| ((2 ^ w - 1 - e) &&& g)
/-- Most of three. -/
def maj (a b c : Nat) : Nat := ((a &&& b) ||| (a &&& c)) ||| (b &&& c)

theorem not_testBit {w e i : Nat} (he : e < 2 ^ w) : (2 ^ w - 1 - e).testBit i = (decide (i < w) && !e.testBit i) := by
  rw [show 2 ^ w - 1 - e = 2 ^ w - (e + 1) by omega, Nat.testBit_two_pow_sub_succ he]

theorem ch_xor {w e f g : Nat} (he : e < 2 ^ w) : ch w e f g = (e &&& f) ^^^ ((2 ^ w - 1 - e) &&& g) := by
  apply Nat.eq_of_testBit_eq
  intro i
  unfold ch
  rw [Nat.testBit_or, Nat.testBit_xor, Nat.testBit_and, Nat.testBit_and, not_testBit he]
  cases e.testBit i <;> cases f.testBit i <;> cases g.testBit i <;> cases decide (i < w) <;> rfl

theorem ch_pick {w e f g : Nat} (he : e < 2 ^ w) (hg : g < 2 ^ w) : ch w e f g = g ^^^ (e &&& (f ^^^ g)) := by
  apply Nat.eq_of_testBit_eq
  intro i
  unfold ch
  rw [Nat.testBit_or, Nat.testBit_xor, Nat.testBit_and, Nat.testBit_and, Nat.testBit_and, Nat.testBit_xor, not_testBit he]
  by_cases hi : i < w
  · rw [decide_eq_true hi]
    cases e.testBit i <;> cases f.testBit i <;> cases g.testBit i <;> rfl
  · have h1 : e.testBit i = false := Nat.testBit_lt_two_pow (Nat.lt_of_lt_of_le he (Nat.pow_le_pow_right (by decide) (by omega)))
    have h2 : g.testBit i = false := Nat.testBit_lt_two_pow (Nat.lt_of_lt_of_le hg (Nat.pow_le_pow_right (by decide) (by omega)))
    rw [h1, h2]
    cases f.testBit i <;> simp

theorem ch_lt {w e f g : Nat} (hf : f < 2 ^ w) (hg : g < 2 ^ w) : ch w e f g < 2 ^ w :=
  Nat.or_lt_two_pow (Nat.and_lt_two_pow _ hf) (Nat.and_lt_two_pow _ hg)

theorem maj_xor (a b c : Nat) : maj a b c = ((a &&& b) ^^^ (a &&& c)) ^^^ (b &&& c) := by
  apply Nat.eq_of_testBit_eq
  intro i
  unfold maj
  simp only [Nat.testBit_or, Nat.testBit_xor, Nat.testBit_and]
  cases a.testBit i <;> cases b.testBit i <;> cases c.testBit i <;> rfl

theorem maj_pick (a b c : Nat) : maj a b c = (a &&& b) ||| (c &&& (a ||| b)) := by
  apply Nat.eq_of_testBit_eq
  intro i
  unfold maj
  simp only [Nat.testBit_or, Nat.testBit_and]
  cases a.testBit i <;> cases b.testBit i <;> cases c.testBit i <;> rfl

theorem maj_pick' (a b c : Nat) : maj a b c = (a &&& (b ||| c)) ||| (b &&& c) := by
  apply Nat.eq_of_testBit_eq
  intro i
  unfold maj
  simp only [Nat.testBit_or, Nat.testBit_and]
  cases a.testBit i <;> cases b.testBit i <;> cases c.testBit i <;> rfl

theorem maj_lt {w a b c : Nat} (hb : b < 2 ^ w) (hc : c < 2 ^ w) : maj a b c < 2 ^ w :=
  Nat.or_lt_two_pow (Nat.or_lt_two_pow (Nat.and_lt_two_pow _ hb) (Nat.and_lt_two_pow _ hc)) (Nat.and_lt_two_pow _ hc)

end Sha
end Go.Proofs.Ytedoggejbhbebaa
