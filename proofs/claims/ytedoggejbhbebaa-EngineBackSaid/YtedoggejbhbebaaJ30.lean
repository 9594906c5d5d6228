/-
  Joined: GcmSeal. Conditions: as each part says.
-/
import Derived.Test.YtedoggejbhbebaaJ29

/-
  The hash of two texts, the counters, sealing and the tag as plain functions on rows of bytes; what is sealed is opened, and of two texts the seals differ where the texts do. Conditions: the numbers are bytes, a cipher gives sixteen.
-/
namespace Go.Proofs.Ytedoggejbhbebaa
namespace Gcm
open Gf

/-- All are bytes. -/
def Small (l : List Nat) : Prop := ∀ c ∈ l, c < 256
theorem Small.append {l m : List Nat} (h : Small l) (k : Small m) : Small (l ++ m) := fun c hc => (List.mem_append.1 hc).elim (h c) (k c)
theorem Small.take {l : List Nat} (h : Small l) (n : Nat) : Small (l.take n) := fun c hc => h c (List.mem_of_mem_take hc)
theorem Small.drop {l : List Nat} (h : Small l) (n : Nat) : Small (l.drop n) := fun c hc => h c (List.mem_of_mem_drop hc)
theorem small_zeros (n : Nat) : Small (List.replicate n 0) := fun c hc => by rw [List.eq_of_mem_replicate hc]; decide
theorem Small.get {l : List Nat} (h : Small l) (i : Nat) : l.getD i 0 < 256 := by
  rw [List.getD_eq_getElem?_getD]
  cases e : l[i]? with
  | none => decide
  | some c => exact h c (List.mem_of_getElem? e)
theorem Small.big {l : List Nat} (h : Small l) (hl : l.length = 16) : big l < 2 ^ 128 := by
  have := big_lt l h
  rw [hl] at this
  exact this

/-! ### Whole blocks -/

/-- With noughts, up to whole blocks. -/
def filledL (l : List Nat) : List Nat := l ++ List.replicate ((16 - l.length % 16) % 16) 0
/-- So many blocks. -/
def blocksOf (n : Nat) : Nat := (n + 15) / 16

theorem filledL_length (l : List Nat) : (filledL l).length = 16 * blocksOf l.length := by
  unfold filledL blocksOf
  rw [List.length_append, List.length_replicate]
  omega
theorem filledL_small {l : List Nat} (h : Small l) : Small (filledL l) := h.append (small_zeros _)
theorem filledL_full {l : List Nat} (h : l.length % 16 = 0) : filledL l = l := by simp [filledL, h]
theorem filledL_snoc {l : List Nat} (h : l.length % 16 ≠ 0) : filledL (l ++ [0]) = filledL l := by
  unfold filledL
  rw [List.length_append, List.length_singleton, List.append_assoc]
  have e : (16 - l.length % 16) % 16 = (16 - (l.length + 1) % 16) % 16 + 1 := by omega
  rw [e, List.replicate_succ]
  rfl
theorem filledL_zeros {l : List Nat} (n : Nat) (h : l.length % 16 + n ≤ 16) (h0 : l.length % 16 ≠ 0 ∨ n = 0) : filledL (l ++ List.replicate n 0) = filledL l := by
  unfold filledL
  rw [List.length_append, List.length_replicate, List.append_assoc, List.replicate_append_replicate]
  have e : n + (16 - (l.length + n) % 16) % 16 = (16 - l.length % 16) % 16 := by omega
  rw [e]

def blockAt (l : List Nat) (k : Nat) : List Nat := (l.drop (16 * k)).take 16
theorem blockAt_length (l : List Nat) (k : Nat) : (blockAt l k).length = min 16 (l.length - 16 * k) := by simp [blockAt]
theorem blockAt_small {l : List Nat} (h : Small l) (k : Nat) : Small (blockAt l k) := (h.drop _).take _

theorem blockAt_filled (l : List Nat) (k : Nat) (h : k < blocksOf l.length) : blockAt (filledL l) k = blockAt l k ++ List.replicate (16 - (blockAt l k).length) 0 := by
  unfold blocksOf at h
  rw [blockAt_length]
  unfold blockAt filledL
  rw [List.drop_append, List.take_append, List.length_drop, List.drop_replicate, List.take_replicate]
  congr 2
  omega

/-- A block's number, whatever stands behind it being noughts. -/
theorem big_filled (l : List Nat) (n : Nat) : big (l ++ List.replicate n 0) = big l * 256 ^ n := by
  rw [big_append, big_zeros, List.length_replicate, Nat.add_zero]

theorem blockAt_append_left {l r : List Nat} {m k : Nat} (hl : l.length = 16 * m) (hk : k < m) : blockAt (l ++ r) k = blockAt l k := by
  unfold blockAt
  rw [List.drop_append_of_le_length (by omega), List.take_append_of_le_length (by rw [List.length_drop]; omega)]
theorem blockAt_append_right {l r : List Nat} {m k : Nat} (hl : l.length = 16 * m) : blockAt (l ++ r) (m + k) = blockAt r k := by
  unfold blockAt
  rw [List.drop_append, List.drop_eq_nil_of_le (by omega), List.nil_append]
  congr 2
  omega

/-! ### The hash -/

/-- From s on, k blocks of l. -/
def hashFrom (h : Nat) (l : List Nat) (s : Nat) : Nat → Nat
  | 0 => s
  | k + 1 => times128 (hashFrom h l s k ^^^ big (blockAt l k)) h

theorem hashFrom_lt {h s : Nat} {l : List Nat} (hh : h < 2 ^ 128) (hl : Small l) (hs : s < 2 ^ 128) (k : Nat) : hashFrom h l s k < 2 ^ 128 := by
  induction k with
  | zero => exact hs
  | succ k ih =>
    refine times128_lt (Nat.xor_lt_two_pow ih ?_) hh
    refine Nat.lt_of_lt_of_le (big_lt _ (blockAt_small hl k)) ?_
    rw [blockAt_length, pow256]
    exact Nat.pow_le_pow_right (by decide) (by omega)

theorem hashFrom_congr {h s : Nat} {l r : List Nat} {k : Nat} (e : ∀ j < k, blockAt l j = blockAt r j) : hashFrom h l s k = hashFrom h r s k := by
  induction k with
  | zero => rfl
  | succ k ih => rw [hashFrom, hashFrom, ih fun j hj => e j (Nat.lt_succ_of_lt hj), e k (Nat.lt_succ_self k)]

theorem hashFrom_append {h s : Nat} {l r : List Nat} {m : Nat} (hl : l.length = 16 * m) (k : Nat) : hashFrom h (l ++ r) s (m + k) = hashFrom h r (hashFrom h l s m) k := by
  induction k with
  | zero => exact hashFrom_congr fun j hj => blockAt_append_left hl hj
  | succ k ih => rw [← Nat.add_assoc, hashFrom, hashFrom, ih, blockAt_append_right hl]

/-- The last block: both sizes in bits. -/
def sizes (a b : Nat) : List Nat := bytes 8 (8 * a) ++ bytes 8 (8 * b)
theorem sizes_length (a b : Nat) : (sizes a b).length = 16 := by rw [sizes, List.length_append, bytes_length, bytes_length]
theorem sizes_small (a b : Nat) : Small (sizes a b) := Small.append (bytes_lt 8 _) (bytes_lt 8 _)
theorem big_sizes {a b : Nat} (ha : 8 * a < 2 ^ 64) (hb : 8 * b < 2 ^ 64) : big (sizes a b) = whole (8 * a) (8 * b) := by
  rw [sizes, big_append, bytes_length, big_bytes (by rw [pow256]; exact ha), big_bytes (by rw [pow256]; exact hb), pow256]
  rfl

def allL (w t : List Nat) : List Nat := filledL w ++ filledL t ++ sizes w.length t.length
theorem allL_length (w t : List Nat) : (allL w t).length = 16 * (blocksOf w.length + blocksOf t.length + 1) := by
  rw [allL, List.length_append, List.length_append, filledL_length, filledL_length, sizes_length]
  omega
theorem allL_small {w t : List Nat} (hw : Small w) (ht : Small t) : Small (allL w t) := ((filledL_small hw).append (filledL_small ht)).append (sizes_small _ _)

def hashN (h : Nat) (w t : List Nat) : Nat := hashFrom h (allL w t) 0 (blocksOf w.length + blocksOf t.length + 1)
def hashL (h w t : List Nat) : List Nat := bytes 16 (hashN (big h) w t)

theorem hashL_length (h w t : List Nat) : (hashL h w t).length = 16 := bytes_length _ _
theorem hashL_small (h w t : List Nat) : Small (hashL h w t) := bytes_lt _ _
theorem hashN_lt {h : Nat} {w t : List Nat} (hh : h < 2 ^ 128) (hw : Small w) (ht : Small t) : hashN h w t < 2 ^ 128 := hashFrom_lt hh (allL_small hw ht) (by decide) _

/-- The hash in three parts. -/
theorem hashN_parts {h : Nat} {w t : List Nat} (hw : 8 * w.length < 2 ^ 64) (ht : 8 * t.length < 2 ^ 64) :
    hashN h w t = times128 (hashFrom h (filledL t) (hashFrom h (filledL w) 0 (blocksOf w.length)) (blocksOf t.length) ^^^ whole (8 * w.length) (8 * t.length)) h := by
  have hl : (filledL w ++ filledL t).length = 16 * (blocksOf w.length + blocksOf t.length) := by rw [List.length_append, filledL_length, filledL_length]; omega
  rw [hashN, allL, hashFrom_append hl 1, hashFrom, hashFrom, hashFrom_append (filledL_length w)]
  have e : blockAt (sizes w.length t.length) 0 = sizes w.length t.length := by
    unfold blockAt
    rw [Nat.mul_zero, List.drop_zero, List.take_of_length_le (Nat.le_of_eq (sizes_length _ _))]
  rw [e, big_sizes hw ht]

/-! ### Counters -/

/-- The first counter, with n more. -/
def counterL (first : List Nat) (n : Nat) : List Nat := first.take 12 ++ bytes 4 (big (first.drop 12) + n)

theorem counterL_length {f : List Nat} (hf : f.length = 16) (n : Nat) : (counterL f n).length = 16 := by
  rw [counterL, List.length_append, bytes_length, List.length_take, hf]
  rfl
theorem counterL_small {f : List Nat} (hf : Small f) (n : Nat) : Small (counterL f n) := (hf.take 12).append (bytes_lt 4 _)
theorem counterL_zero {f : List Nat} (hf : f.length = 16) (hs : Small f) : counterL f 0 = f := by
  have e := bytes_big (f.drop 12) (hs.drop 12)
  rw [List.length_drop, hf] at e
  rw [counterL, Nat.add_zero, show (4 : Nat) = 16 - 12 from rfl, e, List.take_append_drop]
theorem bytes_mod (k a : Nat) : bytes k (a % 256 ^ k) = bytes k a := by
  have e := bytes_add k (a % 256 ^ k) (a / 256 ^ k)
  rw [Nat.div_add_mod'] at e
  exact e.symm
theorem bytes_mod_add (k a n : Nat) : bytes k (a % 256 ^ k + n) = bytes k (a + n) := by
  have e : a + n = a / 256 ^ k * 256 ^ k + (a % 256 ^ k + n) := by rw [← Nat.add_assoc, Nat.div_add_mod']
  rw [e, bytes_add]
theorem counterL_add {f : List Nat} (hf : f.length = 16) (m n : Nat) : counterL (counterL f m) n = counterL f (m + n) := by
  have h12 : (f.take 12).length = 12 := by rw [List.length_take, hf]; rfl
  rw [counterL, counterL, List.take_append_of_le_length (by omega), List.take_take, List.drop_append, List.drop_eq_nil_of_le (by omega), h12, List.nil_append, counterL]
  simp only [Nat.min_self, Nat.sub_self, List.drop_zero]
  rw [big_bytes_mod, bytes_mod_add, Nat.add_assoc]
theorem bytes_four (n : Nat) : bytes 4 n = [n / 16777216 % 256, n / 65536 % 256, n / 256 % 256, n % 256] := by
  simp [bytes]
theorem bytes_four_mod (n : Nat) : bytes 4 n = [n % 4294967296 / 16777216, n % 4294967296 / 65536 % 256, n % 4294967296 / 256 % 256, n % 4294967296 % 256] := by
  rw [bytes_four, List.cons.injEq, List.cons.injEq, List.cons.injEq, List.cons.injEq]
  refine ⟨?_, ?_, ?_, ?_, rfl⟩ <;> omega

/-! ### Sealing -/

section
variable (D : List Nat → List Nat)

/-- k blocks of the text, with the stream. -/
def turnTo (f t : List Nat) : Nat → List Nat
  | 0 => []
  | k + 1 => turnTo f t k ++ orL (t.drop (16 * k)) (D (counterL f (1 + k)))
def turnL (f t : List Nat) : List Nat := turnTo D f t (blocksOf t.length)

/-- The stream's byte j. -/
def streamAt (f : List Nat) (j : Nat) : Nat := (D (counterL f (1 + j / 16))).getD (j % 16) 0

variable {D} (hD : ∀ b, b.length = 16 → Small b → (D b).length = 16 ∧ Small (D b))
include hD

theorem turnTo_eq {f t : List Nat} (hf : f.length = 16) (hs : Small f) (k : Nat) : turnTo D f t k = (List.range (min (16 * k) t.length)).map fun j => t.getD j 0 ^^^ streamAt D f j := by
  induction k with
  | zero => simp [turnTo]
  | succ k ih =>
    rw [turnTo, ih]
    have l := (hD _ (counterL_length hf (1 + k)) (counterL_small hs (1 + k))).1
    apply List.ext_getElem?
    intro i
    by_cases h1 : i < min (16 * k) t.length
    · rw [List.getElem?_append_left (by simpa using h1), List.getElem?_map, List.getElem?_map, List.getElem?_range h1, List.getElem?_range (by omega)]
    · rw [List.getElem?_append_right (by simp; omega), List.length_map, List.length_range]
      by_cases h2 : i < min (16 * (k + 1)) t.length
      · have e0 : min (16 * k) t.length = 16 * k := by omega
        rw [List.getElem?_map, List.getElem?_range h2, e0, orL, List.getElem?_zipWith, List.getElem?_drop]
        have e1 : 16 * k + (i - 16 * k) = i := by omega
        have e2 : i / 16 = k := by omega
        have e3 : i % 16 = i - 16 * k := by omega
        simp only [Option.map_some]
        rw [e1, streamAt, e2, e3, List.getD_eq_getElem?_getD, List.getD_eq_getElem?_getD, List.getElem?_eq_getElem (by omega : i < t.length),
          List.getElem?_eq_getElem (by omega : i - 16 * k < (D (counterL f (1 + k))).length)]
        rfl
      · rw [List.getElem?_eq_none (by rw [orL_length, List.length_drop, l]; omega), List.getElem?_eq_none (by simp; omega)]

theorem turnL_eq {f t : List Nat} (hf : f.length = 16) (hs : Small f) : turnL D f t = (List.range t.length).map fun j => t.getD j 0 ^^^ streamAt D f j := by
  rw [turnL, turnTo_eq hD hf hs]
  have e : min (16 * blocksOf t.length) t.length = t.length := by unfold blocksOf; omega
  rw [e]

theorem turnL_length {f t : List Nat} (hf : f.length = 16) (hs : Small f) : (turnL D f t).length = t.length := by
  rw [turnL_eq hD hf hs, List.length_map, List.length_range]

theorem turnL_getD {f t : List Nat} (hf : f.length = 16) (hs : Small f) (j : Nat) (h : j < t.length) : (turnL D f t).getD j 0 = t.getD j 0 ^^^ streamAt D f j := by
  rw [turnL_eq hD hf hs, List.getD_eq_getElem?_getD, List.getElem?_map, List.getElem?_range h]
  rfl

theorem streamAt_lt {f : List Nat} (hf : f.length = 16) (hs : Small f) (j : Nat) : streamAt D f j < 256 := (hD _ (counterL_length hf _) (counterL_small hs _)).2.get _

theorem turnL_small {f t : List Nat} (hf : f.length = 16) (hs : Small f) (ht : Small t) : Small (turnL D f t) := by
  intro c hc
  rw [turnL_eq hD hf hs] at hc
  obtain ⟨j, _, rfl⟩ := List.mem_map.1 hc
  exact Nat.xor_lt_two_pow (n := 8) (ht.get j) (streamAt_lt hD hf hs j)

/-- What is turned twice is what it was. -/
theorem turnL_turnL {f t : List Nat} (hf : f.length = 16) (hs : Small f) : turnL D f (turnL D f t) = t := by
  rw [turnL_eq hD hf hs, turnL_length hD hf hs]
  apply List.ext_getElem?
  intro i
  by_cases h : i < t.length
  · rw [List.getElem?_map, List.getElem?_range h]
    simp only [Option.map_some]
    rw [turnL_getD hD hf hs i h, Nat.xor_assoc, Nat.xor_self, Nat.xor_zero, List.getD_eq_getElem?_getD, List.getElem?_eq_getElem h]
    rfl
  · rw [List.getElem?_eq_none (by simp; omega), List.getElem?_eq_none (by omega)]

/-- Two seals of one stream differ where the texts do. -/
theorem turnL_two {f t u : List Nat} (hf : f.length = 16) (hs : Small f) (j : Nat) (h1 : j < t.length) (h2 : j < u.length) : (turnL D f t).getD j 0 ^^^ (turnL D f u).getD j 0 = t.getD j 0 ^^^ u.getD j 0 := by
  rw [turnL_getD hD hf hs j h1, turnL_getD hD hf hs j h2]
  rw [Nat.xor_assoc, Nat.xor_comm (u.getD j 0), ← Nat.xor_assoc (streamAt D f j), Nat.xor_self, Nat.zero_xor]

end

def zeros16 : List Nat := List.replicate 16 0
def firstL (h nonce : List Nat) : List Nat := if nonce.length = 12 then nonce ++ [0, 0, 0, 1] else hashL h [] nonce
def tagL (D : List Nat → List Nat) (h f w s : List Nat) : List Nat := orL (hashL h w s) (D f)
/-- What is sealed, and its tag. -/
def sealL (D : List Nat → List Nat) (nonce w t : List Nat) : List Nat × List Nat :=
  (turnL D (firstL (D zeros16) nonce) t, tagL D (D zeros16) (firstL (D zeros16) nonce) w (turnL D (firstL (D zeros16) nonce) t))
/-- What is opened, and the tag that there should be. -/
def openL (D : List Nat → List Nat) (nonce w s : List Nat) : List Nat × List Nat :=
  (turnL D (firstL (D zeros16) nonce) s, tagL D (D zeros16) (firstL (D zeros16) nonce) w s)

theorem firstL_length (h nonce : List Nat) : (firstL h nonce).length = 16 := by
  unfold firstL
  by_cases e : nonce.length = 12
  · rw [if_pos e, List.length_append, e]; rfl
  · rw [if_neg e]; exact hashL_length _ _ _
theorem firstL_small {h nonce : List Nat} (hn : Small nonce) : Small (firstL h nonce) := by
  unfold firstL
  by_cases e : nonce.length = 12
  · rw [if_pos e]; exact hn.append (by intro c hc; simp at hc; omega)
  · rw [if_neg e]; exact hashL_small _ _ _

section
variable {D : List Nat → List Nat} (hD : ∀ b, b.length = 16 → Small b → (D b).length = 16 ∧ Small (D b))
include hD

theorem tagL_length {h f w s : List Nat} (hf : f.length = 16) (hs : Small f) : (tagL D h f w s).length = 16 := by
  rw [tagL, orL_length, hashL_length, (hD f hf hs).1]
  rfl
theorem tagL_small {h f w s : List Nat} (hf : f.length = 16) (hs : Small f) : Small (tagL D h f w s) := orL_lt (hashL_small _ _ _) (hD f hf hs).2

/-- What is sealed is opened. -/
theorem openL_sealL {nonce w t : List Nat} (hn : Small nonce) : openL D nonce w (sealL D nonce w t).1 = (t, (sealL D nonce w t).2) := by
  unfold openL sealL
  simp only
  rw [turnL_turnL hD (firstL_length _ _) (firstL_small hn)]

theorem sealL_sizes {nonce w t : List Nat} (hn : Small nonce) : (sealL D nonce w t).1.length = t.length ∧ (sealL D nonce w t).2.length = 16 :=
  ⟨turnL_length hD (firstL_length _ _) (firstL_small hn), tagL_length hD (firstL_length _ _) (firstL_small hn)⟩

theorem sealL_small {nonce w t : List Nat} (hn : Small nonce) (ht : Small t) : Small (sealL D nonce w t).1 ∧ Small (sealL D nonce w t).2 :=
  ⟨turnL_small hD (firstL_length _ _) (firstL_small hn) ht, tagL_small hD (firstL_length _ _) (firstL_small hn)⟩
end

/-- With one bit otherwise, a row is another. -/
theorem flip_ne {l : List Nat} {i k : Nat} (hi : i < l.length) : l.set i (l.getD i 0 ^^^ 2 ^ k) ≠ l := by
  intro h
  have e : (l.set i (l.getD i 0 ^^^ 2 ^ k))[i]? = l[i]? := by rw [h]
  rw [List.getElem?_set_self hi, List.getD_eq_getElem?_getD, List.getElem?_eq_getElem hi, Option.some.injEq, Option.getD_some] at e
  have e2 := congrArg (fun x => x ^^^ l[i]) e
  simp only [Nat.xor_self] at e2
  rw [Nat.xor_comm, ← Nat.xor_assoc, Nat.xor_self, Nat.zero_xor] at e2
  exact absurd e2 (Nat.ne_of_gt (Nat.two_pow_pos k))

/-! ### Two published answers: a key of noughts, a nonce of noughts -/

/-- The first published case: with the cipher's answers given, the tag of nothing is the first counter's cipher, of one block of noughts the seal is the second's, and the tag as published. -/
theorem case_two : let H : List Nat := [0x66, 0xe9, 0x4b, 0xd4, 0xef, 0x8a, 0x2c, 0x3b, 0x88, 0x4c, 0xfa, 0x59, 0xca, 0x34, 0x2b, 0x2e]
    let E0 : List Nat := [0x58, 0xe2, 0xfc, 0xce, 0xfa, 0x7e, 0x30, 0x61, 0x36, 0x7f, 0x1d, 0x57, 0xa4, 0xe7, 0x45, 0x5a]
    let E1 : List Nat := [0x03, 0x88, 0xda, 0xce, 0x60, 0xb6, 0xa3, 0x92, 0xf3, 0x28, 0xc2, 0xb9, 0x71, 0xb2, 0xfe, 0x78]
    let D : List Nat → List Nat := fun b => if b = zeros16 then H else if b = List.replicate 15 0 ++ [1] then E0 else if b = List.replicate 15 0 ++ [2] then E1 else zeros16
    sealL D (List.replicate 12 0) [] zeros16 = (E1, [0xab, 0x6e, 0x47, 0xd4, 0x2c, 0xec, 0x13, 0xbd, 0xf5, 0x3a, 0x67, 0xb2, 0x12, 0x57, 0xbd, 0xdf]) := by
  decide +kernel

end Gcm
end Go.Proofs.Ytedoggejbhbebaa
