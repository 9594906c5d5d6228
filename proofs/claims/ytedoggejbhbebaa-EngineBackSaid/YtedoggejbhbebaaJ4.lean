/-
  Joined: AesMath. Conditions: as each part says.
-/
import Derived.Test.YtedoggejbhbebaaJ3

/-
  The block cipher as plain functions on rows of sixteen numbers, and that what is done is undone, and the other way round. Conditions: the numbers are bytes.
-/
namespace Go.Proofs.Ytedoggejbhbebaa
namespace Aes
open Gf

/-- The product of bytes. -/
def times (a b : Nat) : Nat := mul 8 27 a b

theorem times_lt {a : Nat} (ha : a < 256) (b : Nat) : times a b < 256 := mul_lt 8 27 p8 ha b
theorem times_add (a b c : Nat) : times a (b ^^^ c) = times a b ^^^ times a c := mul_add 8 27 a b c
theorem add_times (a b c : Nat) : times (a ^^^ b) c = times a c ^^^ times b c := add_mul 8 27 a b c
theorem times_assoc {a b : Nat} (ha : a < 256) (hb : b < 256) (c : Nat) : times (times a b) c = times a (times b c) := mul_assoc 8 27 p8 ha hb
theorem times_comm {a b : Nat} (ha : a < 256) (hb : b < 256) : times a b = times b a := mul_comm 8 27 ha hb
theorem times_one {a : Nat} (ha : a < 256) : times a 1 = a := mul_one 8 27 (by decide) ha
theorem times_zero (a : Nat) : times a 0 = 0 := mul_zero 8 27 a
theorem times_eq_zero {a b : Nat} (ha : a < 256) (hb : b < 256) : times a b = 0 ↔ a = 0 ∨ b = 0 := by
  constructor
  · exact zero8 ha hb
  · rintro (rfl | rfl)
    · exact zero_mul 8 27 b
    · exact mul_zero 8 27 a

/-! ### The substitution -/

/-- The 254th power: so many squares of a, their product. -/
def powers : Nat → Nat → Nat × Nat
  | 0, a => (a, 1)
  | k + 1, a => (times (powers k a).1 (powers k a).1, times (powers k a).2 (times (powers k a).1 (powers k a).1))
def inverse (a : Nat) : Nat := (powers 7 a).2
def bitOf (x i : Nat) : Nat := x / 2 ^ i % 2
/-- One bit of what stands for a byte whose inverse is x. -/
def subBit (x i : Nat) : Nat := (bitOf x i + bitOf x ((i + 4) % 8) + bitOf x ((i + 5) % 8) + bitOf x ((i + 6) % 8) + bitOf x ((i + 7) % 8) + bitOf 99 i) % 2
/-- The first k bits. -/
def subTo (x : Nat) : Nat → Nat
  | 0 => 0
  | k + 1 => subTo x k + subBit x k * 2 ^ k
def sub (a : Nat) : Nat := subTo (inverse a) 8

/-- All bytes substituted. -/
def subs : List Nat := [99, 124, 119, 123, 242, 107, 111, 197, 48, 1, 103, 43, 254, 215, 171, 118,
  202, 130, 201, 125, 250, 89, 71, 240, 173, 212, 162, 175, 156, 164, 114, 192,
  183, 253, 147, 38, 54, 63, 247, 204, 52, 165, 229, 241, 113, 216, 49, 21,
  4, 199, 35, 195, 24, 150, 5, 154, 7, 18, 128, 226, 235, 39, 178, 117,
  9, 131, 44, 26, 27, 110, 90, 160, 82, 59, 214, 179, 41, 227, 47, 132,
  83, 209, 0, 237, 32, 252, 177, 91, 106, 203, 190, 57, 74, 76, 88, 207,
  208, 239, 170, 251, 67, 77, 51, 133, 69, 249, 2, 127, 80, 60, 159, 168,
  81, 163, 64, 143, 146, 157, 56, 245, 188, 182, 218, 33, 16, 255, 243, 210,
  205, 12, 19, 236, 95, 151, 68, 23, 196, 167, 126, 61, 100, 93, 25, 115,
  96, 129, 79, 220, 34, 42, 144, 136, 70, 238, 184, 20, 222, 94, 11, 219,
  224, 50, 58, 10, 73, 6, 36, 92, 194, 211, 172, 98, 145, 149, 228, 121,
  231, 200, 55, 109, 141, 213, 78, 169, 108, 86, 244, 234, 101, 122, 174, 8,
  186, 120, 37, 46, 28, 166, 180, 198, 232, 221, 116, 31, 75, 189, 139, 138,
  112, 62, 181, 102, 72, 3, 246, 14, 97, 53, 87, 185, 134, 193, 29, 158,
  225, 248, 152, 17, 105, 217, 142, 148, 155, 30, 135, 233, 206, 85, 40, 223,
  140, 161, 137, 13, 191, 230, 66, 104, 65, 153, 45, 15, 176, 84, 187, 22]
def unsub (y : Nat) : Nat := subs.idxOf y

theorem subs_eq : (List.range 256).map sub = subs := by decide +kernel
theorem subs_at (a : Nat) (h : a < 256) : subs[a]? = some (sub a) := by
  rw [← subs_eq, List.getElem?_map, List.getElem?_range h]
  rfl
theorem table : ∀ a < 256, subs.getD a 0 < 256 ∧ unsub (subs.getD a 0) = a ∧ unsub a < 256 ∧ subs.getD (unsub a) 0 = a := by decide +kernel
theorem subs_getD (a : Nat) (h : a < 256) : subs.getD a 0 = sub a := by rw [List.getD_eq_getElem?_getD, subs_at a h]; rfl

theorem sub_lt (a : Nat) (h : a < 256) : sub a < 256 := by rw [← subs_getD a h]; exact (table a h).1
theorem unsub_sub (a : Nat) (h : a < 256) : unsub (sub a) = a := by rw [← subs_getD a h]; exact (table a h).2.1
theorem unsub_lt (y : Nat) (h : y < 256) : unsub y < 256 := (table y h).2.2.1
theorem sub_unsub (y : Nat) (h : y < 256) : sub (unsub y) = y := by rw [← subs_getD _ (unsub_lt y h)]; exact (table y h).2.2.2
theorem sub_zero : sub 0 = 99 := (subs_getD 0 (by decide)).symm

theorem sub_inj {a b : Nat} (ha : a < 256) (hb : b < 256) (h : sub a = sub b) : a = b := by
  rw [← unsub_sub a ha, ← unsub_sub b hb, h]

/-! ### Rows and columns -/

/-- All sixteen are bytes. -/
def Bytes (s : Nat → Nat) : Prop := ∀ i < 16, s i < 256

def shifted (s : Nat → Nat) (i : Nat) : Nat := s ((i + 4 * (i % 4)) % 16)
def unshifted (s : Nat → Nat) (i : Nat) : Nat := s ((i + 12 * (i % 4)) % 16)

theorem unshifted_shifted (s : Nat → Nat) (i : Nat) (h : i < 16) : unshifted (shifted s) i = s i := by
  unfold unshifted shifted
  congr 1
  omega
theorem shifted_unshifted (s : Nat → Nat) (i : Nat) (h : i < 16) : shifted (unshifted s) i = s i := by
  unfold shifted unshifted
  congr 1
  omega

/-- One byte of a column, from itself on downward. -/
def mix4 (a b c d : Nat) : Nat := ((times a 2 ^^^ times b 3) ^^^ c) ^^^ d
def unmix4 (a b c d : Nat) : Nat := ((times a 14 ^^^ times b 11) ^^^ times c 13) ^^^ times d 9

theorem mix4_lt {a b c d : Nat} (ha : a < 256) (hb : b < 256) (hc : c < 256) (hd : d < 256) : mix4 a b c d < 256 :=
  Nat.xor_lt_two_pow (n := 8) (Nat.xor_lt_two_pow (n := 8) (Nat.xor_lt_two_pow (n := 8) (times_lt ha 2) (times_lt hb 3)) hc) hd
theorem unmix4_lt {a b c d : Nat} (ha : a < 256) (hb : b < 256) (hc : c < 256) (hd : d < 256) : unmix4 a b c d < 256 :=
  Nat.xor_lt_two_pow (n := 8) (Nat.xor_lt_two_pow (n := 8) (Nat.xor_lt_two_pow (n := 8) (times_lt ha 14) (times_lt hb 11)) (times_lt hc 13)) (times_lt hd 9)

theorem unmix_mix4 {a b c d : Nat} (ha : a < 256) (hb : b < 256) (hc : c < 256) (hd : d < 256) :
    unmix4 (mix4 a b c d) (mix4 b c d a) (mix4 c d a b) (mix4 d a b c) = a := by
  have e0 : times a (((times 2 14 ^^^ 11) ^^^ 13) ^^^ times 3 9) = a := by
    rw [show ((times 2 14 ^^^ 11) ^^^ 13) ^^^ times 3 9 = 1 from by decide +kernel]; exact times_one ha
  have e1 : times b (((times 3 14 ^^^ times 2 11) ^^^ 13) ^^^ 9) = 0 := by
    rw [show ((times 3 14 ^^^ times 2 11) ^^^ 13) ^^^ 9 = 0 from by decide +kernel]; exact times_zero b
  have e2 : times c (((14 ^^^ times 3 11) ^^^ times 2 13) ^^^ 9) = 0 := by
    rw [show ((14 ^^^ times 3 11) ^^^ times 2 13) ^^^ 9 = 0 from by decide +kernel]; exact times_zero c
  have e3 : times d (((14 ^^^ 11) ^^^ times 3 13) ^^^ times 2 9) = 0 := by
    rw [show ((14 ^^^ 11) ^^^ times 3 13) ^^^ times 2 9 = 0 from by decide +kernel]; exact times_zero d
  have whole : unmix4 (mix4 a b c d) (mix4 b c d a) (mix4 c d a b) (mix4 d a b c) = times a (((times 2 14 ^^^ 11) ^^^ 13) ^^^ times 3 9) ^^^ (times b (((times 3 14 ^^^ times 2 11) ^^^ 13) ^^^ 9) ^^^ (times c (((14 ^^^ times 3 11) ^^^ times 2 13) ^^^ 9) ^^^ times d (((14 ^^^ 11) ^^^ times 3 13) ^^^ times 2 9))) := by
    unfold unmix4 mix4
    simp only [add_times, times_add, times_assoc ha (show 2 < 256 by decide), times_assoc ha (show 3 < 256 by decide), times_assoc hb (show 2 < 256 by decide), times_assoc hb (show 3 < 256 by decide), times_assoc hc (show 2 < 256 by decide), times_assoc hc (show 3 < 256 by decide), times_assoc hd (show 2 < 256 by decide), times_assoc hd (show 3 < 256 by decide)]
    ac_rfl
  rw [whole, e0, e1, e2, e3]
  simp

theorem mix_unmix4 {a b c d : Nat} (ha : a < 256) (hb : b < 256) (hc : c < 256) (hd : d < 256) :
    mix4 (unmix4 a b c d) (unmix4 b c d a) (unmix4 c d a b) (unmix4 d a b c) = a := by
  have l14 : 14 < 256 := by decide
  have l11 : 11 < 256 := by decide
  have l13 : 13 < 256 := by decide
  have l9 : 9 < 256 := by decide
  have e0 : times a (((times 14 2 ^^^ times 9 3) ^^^ 13) ^^^ 11) = a := by
    rw [show ((times 14 2 ^^^ times 9 3) ^^^ 13) ^^^ 11 = 1 from by decide +kernel]; exact times_one ha
  have e1 : times b (((times 11 2 ^^^ times 14 3) ^^^ 9) ^^^ 13) = 0 := by
    rw [show ((times 11 2 ^^^ times 14 3) ^^^ 9) ^^^ 13 = 0 from by decide +kernel]; exact times_zero b
  have e2 : times c (((times 13 2 ^^^ times 11 3) ^^^ 14) ^^^ 9) = 0 := by
    rw [show ((times 13 2 ^^^ times 11 3) ^^^ 14) ^^^ 9 = 0 from by decide +kernel]; exact times_zero c
  have e3 : times d (((times 9 2 ^^^ times 13 3) ^^^ 11) ^^^ 14) = 0 := by
    rw [show ((times 9 2 ^^^ times 13 3) ^^^ 11) ^^^ 14 = 0 from by decide +kernel]; exact times_zero d
  have whole : mix4 (unmix4 a b c d) (unmix4 b c d a) (unmix4 c d a b) (unmix4 d a b c) = times a (((times 14 2 ^^^ times 9 3) ^^^ 13) ^^^ 11) ^^^ (times b (((times 11 2 ^^^ times 14 3) ^^^ 9) ^^^ 13) ^^^ (times c (((times 13 2 ^^^ times 11 3) ^^^ 14) ^^^ 9) ^^^ times d (((times 9 2 ^^^ times 13 3) ^^^ 11) ^^^ 14))) := by
    unfold unmix4 mix4
    simp only [add_times, times_add, times_assoc ha l14, times_assoc ha l9, times_assoc hb l14, times_assoc hb l11, times_assoc hc l11, times_assoc hc l13, times_assoc hd l13, times_assoc hd l9]
    ac_rfl
  rw [whole, e0, e1, e2, e3]
  simp

/-- The place k further down in the column of i. -/
def down (i k : Nat) : Nat := i / 4 * 4 + (i % 4 + k) % 4

theorem down_lt {i k : Nat} (h : i < 16) : down i k < 16 := by unfold down; omega
theorem down_down (i j k : Nat) : down (down i j) k = down i (j + k) := by unfold down; omega
theorem down_zero (i : Nat) : down i 0 = i := by unfold down; omega
theorem down_four (i k : Nat) : down i (4 + k) = down i k := by unfold down; omega

def mixed (x : Nat → Nat) (i : Nat) : Nat := mix4 (x i) (x (down i 1)) (x (down i 2)) (x (down i 3))
def unmixed (x : Nat → Nat) (i : Nat) : Nat := unmix4 (x i) (x (down i 1)) (x (down i 2)) (x (down i 3))

theorem mixed_bytes {x : Nat → Nat} (h : Bytes x) : Bytes (mixed x) := fun i hi => mix4_lt (h i hi) (h _ (down_lt hi)) (h _ (down_lt hi)) (h _ (down_lt hi))
theorem unmixed_bytes {x : Nat → Nat} (h : Bytes x) : Bytes (unmixed x) := fun i hi => unmix4_lt (h i hi) (h _ (down_lt hi)) (h _ (down_lt hi)) (h _ (down_lt hi))

theorem around (i : Nat) : down (down i 1) 1 = down i 2 ∧ down (down i 1) 2 = down i 3 ∧ down (down i 1) 3 = i ∧ down (down i 2) 1 = down i 3 ∧ down (down i 2) 2 = i ∧ down (down i 2) 3 = down i 1 ∧ down (down i 3) 1 = i ∧ down (down i 3) 2 = down i 1 ∧ down (down i 3) 3 = down i 2 := by
  refine ⟨down_down i 1 1, down_down i 1 2, ?_, down_down i 2 1, ?_, ?_, ?_, ?_, ?_⟩ <;> (unfold down; omega)

theorem unmixed_mixed {x : Nat → Nat} (h : Bytes x) (i : Nat) (hi : i < 16) : unmixed (mixed x) i = x i := by
  obtain ⟨a1, a2, a3, b1, b2, b3, c1, c2, c3⟩ := around i
  unfold unmixed mixed
  rw [a1, a2, a3, b1, b2, b3, c1, c2, c3]
  exact unmix_mix4 (h i hi) (h _ (down_lt hi)) (h _ (down_lt hi)) (h _ (down_lt hi))

theorem mixed_unmixed {x : Nat → Nat} (h : Bytes x) (i : Nat) (hi : i < 16) : mixed (unmixed x) i = x i := by
  obtain ⟨a1, a2, a3, b1, b2, b3, c1, c2, c3⟩ := around i
  unfold mixed unmixed
  rw [a1, a2, a3, b1, b2, b3, c1, c2, c3]
  exact mix_unmix4 (h i hi) (h _ (down_lt hi)) (h _ (down_lt hi)) (h _ (down_lt hi))

/-! ### The cipher: w has the keys' bytes, sixteen a round -/

def added (w : Nat → Nat) (r : Nat) (s : Nat → Nat) (i : Nat) : Nat := s i ^^^ w (16 * r + i)

/-- The bytes substituted and shifted. -/
def subbed (s : Nat → Nat) : Nat → Nat := shifted fun i => sub (s i)
def unsubbed (s : Nat → Nat) (i : Nat) : Nat := unsub (unshifted s i)

/-- Behind the round r of n. -/
def roundOf (w : Nat → Nat) (n r : Nat) (s : Nat → Nat) : Nat → Nat := added w r (if r < n then mixed (subbed s) else subbed s)
/-- The first r rounds of n. -/
def doneTo (w : Nat → Nat) (n : Nat) (b : Nat → Nat) : Nat → Nat → Nat
  | 0 => added w 0 b
  | r + 1 => roundOf w n (r + 1) (doneTo w n b r)
/-- A round undone. -/
def unroundOf (w : Nat → Nat) (n r : Nat) (s : Nat → Nat) : Nat → Nat := unsubbed (if r < n then unmixed (added w r s) else added w r s)
/-- The last rounds undone, down to the round r: k are. -/
def undoneTo (w : Nat → Nat) (n : Nat) (b : Nat → Nat) : Nat → Nat → Nat
  | 0 => b
  | k + 1 => unroundOf w n (n - k) (undoneTo w n b k)

def done (w : Nat → Nat) (n : Nat) (b : Nat → Nat) : Nat → Nat := doneTo w n b n
def undone (w : Nat → Nat) (n : Nat) (b : Nat → Nat) : Nat → Nat := added w 0 (undoneTo w n b n)

/-- The same sixteen. -/
def Same (s t : Nat → Nat) : Prop := ∀ i < 16, s i = t i

theorem Same.refl (s : Nat → Nat) : Same s s := fun _ _ => rfl
theorem Same.trans {s t u : Nat → Nat} (h : Same s t) (k : Same t u) : Same s u := fun i hi => (h i hi).trans (k i hi)
theorem Same.bytes {s t : Nat → Nat} (h : Same s t) (k : Bytes t) : Bytes s := fun i hi => by rw [h i hi]; exact k i hi

/-- The keys are bytes. -/
def Keys (w : Nat → Nat) (n : Nat) : Prop := ∀ j < 16 * (n + 1), w j < 256

theorem added_bytes {w s : Nat → Nat} {n r : Nat} (hw : Keys w n) (hr : r ≤ n) (h : Bytes s) : Bytes (added w r s) :=
  fun i hi => Nat.xor_lt_two_pow (n := 8) (h i hi) (hw _ (by omega))
theorem shifted_bytes {s : Nat → Nat} (h : Bytes s) : Bytes (shifted s) := fun i _ => h _ (Nat.mod_lt _ (by decide))
theorem unshifted_bytes {s : Nat → Nat} (h : Bytes s) : Bytes (unshifted s) := fun i _ => h _ (Nat.mod_lt _ (by decide))
theorem subbed_bytes {s : Nat → Nat} (h : Bytes s) : Bytes (subbed s) := shifted_bytes fun i hi => sub_lt _ (h i hi)
theorem unsubbed_bytes {s : Nat → Nat} (h : Bytes s) : Bytes (unsubbed s) := fun i hi => unsub_lt _ (unshifted_bytes h i hi)

theorem added_added (w s : Nat → Nat) (r : Nat) : Same (added w r (added w r s)) s := fun i _ => by
  unfold added
  rw [Nat.xor_assoc, Nat.xor_self, Nat.xor_zero]

theorem unsubbed_subbed {s : Nat → Nat} (h : Bytes s) : Same (unsubbed (subbed s)) s := fun i hi => by
  unfold unsubbed subbed
  rw [unshifted_shifted _ i hi]
  exact unsub_sub _ (h i hi)

theorem subbed_unsubbed {s : Nat → Nat} (h : Bytes s) : Same (subbed (unsubbed s)) s := fun i hi => by
  have e : subbed (unsubbed s) i = shifted (unshifted s) i := by
    unfold subbed
    show sub (unsubbed s ((i + 4 * (i % 4)) % 16)) = _
    unfold unsubbed
    exact sub_unsub _ (unshifted_bytes h _ (Nat.mod_lt _ (by decide)))
  rw [e, shifted_unshifted _ i hi]

/-! #### Each step takes the same to the same -/

theorem added_same {w s t : Nat → Nat} {r : Nat} (h : Same s t) : Same (added w r s) (added w r t) := fun i hi => by unfold added; rw [h i hi]
theorem mixed_same {s t : Nat → Nat} (h : Same s t) : Same (mixed s) (mixed t) := fun i hi => by
  unfold mixed; rw [h i hi, h _ (down_lt hi), h _ (down_lt hi), h _ (down_lt hi)]
theorem unmixed_same {s t : Nat → Nat} (h : Same s t) : Same (unmixed s) (unmixed t) := fun i hi => by
  unfold unmixed; rw [h i hi, h _ (down_lt hi), h _ (down_lt hi), h _ (down_lt hi)]
theorem subbed_same {s t : Nat → Nat} (h : Same s t) : Same (subbed s) (subbed t) := fun i _ => by
  exact congrArg sub (h _ (Nat.mod_lt _ (by decide)))
theorem unsubbed_same {s t : Nat → Nat} (h : Same s t) : Same (unsubbed s) (unsubbed t) := fun i _ => by
  unfold unsubbed unshifted; rw [h _ (Nat.mod_lt _ (by decide))]

theorem roundOf_same {w s t : Nat → Nat} {n r : Nat} (h : Same s t) : Same (roundOf w n r s) (roundOf w n r t) := by
  unfold roundOf
  split
  · exact added_same (mixed_same (subbed_same h))
  · exact added_same (subbed_same h)
theorem unroundOf_same {w s t : Nat → Nat} {n r : Nat} (h : Same s t) : Same (unroundOf w n r s) (unroundOf w n r t) := by
  unfold unroundOf
  split
  · exact unsubbed_same (unmixed_same (added_same h))
  · exact unsubbed_same (added_same h)

theorem roundOf_bytes {w s : Nat → Nat} {n r : Nat} (hw : Keys w n) (hr : r ≤ n) (h : Bytes s) : Bytes (roundOf w n r s) := by
  unfold roundOf
  split
  · exact added_bytes hw hr (mixed_bytes (subbed_bytes h))
  · exact added_bytes hw hr (subbed_bytes h)
theorem unroundOf_bytes {w s : Nat → Nat} {n r : Nat} (hw : Keys w n) (hr : r ≤ n) (h : Bytes s) : Bytes (unroundOf w n r s) := by
  unfold unroundOf
  split
  · exact unsubbed_bytes (unmixed_bytes (added_bytes hw hr h))
  · exact unsubbed_bytes (added_bytes hw hr h)

/-- A round is undone. -/
theorem unround_round {w s : Nat → Nat} {n r : Nat} (h : Bytes s) : Same (unroundOf w n r (roundOf w n r s)) s := by
  unfold unroundOf roundOf
  by_cases hr : r < n
  · rw [if_pos hr, if_pos hr]
    have h1 := unmixed_same (added_added w (mixed (subbed s)) r)
    have h2 : Same (unmixed (mixed (subbed s))) (subbed s) := fun i hi => unmixed_mixed (subbed_bytes h) i hi
    exact (unsubbed_same (h1.trans h2)).trans (unsubbed_subbed h)
  · rw [if_neg hr, if_neg hr]
    exact (unsubbed_same (added_added w (subbed s) r)).trans (unsubbed_subbed h)

/-- A round is done again. -/
theorem round_unround {w s : Nat → Nat} {n r : Nat} (hw : Keys w n) (hr' : r ≤ n) (h : Bytes s) : Same (roundOf w n r (unroundOf w n r s)) s := by
  unfold unroundOf roundOf
  by_cases hr : r < n
  · rw [if_pos hr, if_pos hr]
    have hb := added_bytes (r := r) hw hr' h
    have h1 := subbed_unsubbed (unmixed_bytes hb)
    have h2 : Same (mixed (unmixed (added w r s))) (added w r s) := fun i hi => mixed_unmixed hb i hi
    exact (added_same ((mixed_same h1).trans h2)).trans (added_added w s r)
  · rw [if_neg hr, if_neg hr]
    exact (added_same (subbed_unsubbed (added_bytes hw hr' h))).trans (added_added w s r)

theorem doneTo_bytes {w b : Nat → Nat} {n : Nat} (hw : Keys w n) (h : Bytes b) (r : Nat) : r ≤ n → Bytes (doneTo w n b r) := by
  induction r with
  | zero => intro _; exact added_bytes hw (Nat.zero_le _) h
  | succ r ih => intro hr; exact roundOf_bytes hw hr (ih (by omega))

theorem undoneTo_bytes {w b : Nat → Nat} {n : Nat} (hw : Keys w n) (h : Bytes b) (k : Nat) : Bytes (undoneTo w n b k) := by
  induction k with
  | zero => exact h
  | succ k ih => exact unroundOf_bytes hw (by omega) ih

/-- What is done is undone. -/
theorem undone_done {w b : Nat → Nat} {n : Nat} (hw : Keys w n) (h : Bytes b) : Same (undone w n (done w n b)) b := by
  have key : ∀ k, k ≤ n → Same (undoneTo w n (done w n b) k) (doneTo w n b (n - k)) := by
    intro k
    induction k with
    | zero => intro _; exact Same.refl _
    | succ k ih =>
      intro hk
      have e : n - k = (n - (k + 1)) + 1 := by omega
      have h1 := unroundOf_same (w := w) (n := n) (r := n - k) (ih (by omega))
      have h2 : doneTo w n b (n - k) = roundOf w n (n - k) (doneTo w n b (n - (k + 1))) := by
        conv => lhs; rw [e]
        rw [doneTo, ← e]
      rw [h2] at h1
      exact h1.trans (unround_round (doneTo_bytes hw h _ (by omega)))
  have h1 := key n (Nat.le_refl _)
  rw [Nat.sub_self] at h1
  exact (added_same h1).trans (added_added w b 0)

/-- What is undone is done again. -/
theorem done_undone {w b : Nat → Nat} {n : Nat} (hw : Keys w n) (h : Bytes b) : Same (done w n (undone w n b)) b := by
  have key : ∀ r, r ≤ n → Same (doneTo w n (undone w n b) r) (undoneTo w n b (n - r)) := by
    intro r
    induction r with
    | zero => intro _; exact added_added w (undoneTo w n b n) 0
    | succ r ih =>
      intro hr
      have e : n - r = (n - (r + 1)) + 1 := by omega
      have e2 : n - (n - (r + 1)) = r + 1 := by omega
      have h1 := roundOf_same (w := w) (n := n) (r := r + 1) (ih (by omega))
      have h2 : undoneTo w n b (n - r) = unroundOf w n (r + 1) (undoneTo w n b (n - (r + 1))) := by
        rw [e, undoneTo, e2]
      rw [h2] at h1
      exact h1.trans (round_unround hw hr (undoneTo_bytes hw h _))
  have h1 := key n (Nat.le_refl _)
  rw [Nat.sub_self] at h1
  exact h1

end Aes
end Go.Proofs.Ytedoggejbhbebaa
