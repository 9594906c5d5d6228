/-
  Joined: AesKeys, Aa, Ad. Conditions: as each part says.
-/
import Derived.Test.YtedoggejbhbebaaJ4
import Derived.Test.YtedoggejbhbebaaRows
import Derived.WalkKit
import Derived.ProofKit
import Derived.OpenShut
import Derived.WalkSpells
import Derived.WalkLawsBesides
import Derived.Outline
import Derived.Lib.Hide
import Derived.Laws.BitsAllLaws
import Derived.Laws.Externs
import Derived.RegionTactic
import Derived.ChangeAlike
import Derived.Deep.WholeRow
import Derived.Great.BuildSlice
import Derived.Deep.QuietTactic
import Derived.BigQuiet

/-
  The key's words as plain functions of its bytes. Conditions: none.
-/
namespace Go.Proofs.Ytedoggejbhbebaa
namespace Aes

/-- The powers of 2. -/
def pw : Nat → Nat
  | 0 => 1
  | j + 1 => times (pw j) 2
theorem pw_lt (j : Nat) : pw j < 256 := by
  induction j with
  | zero => decide
  | succ j ih => exact times_lt ih 2

/-- What word i makes of the four bytes ahead of it. -/
def turned (n i a b c d : Nat) : List Nat :=
  if i % n = 0 then [sub b ^^^ pw (i / n - 1), sub c, sub d, sub a] else if n = 8 ∧ i % n = 4 then [sub a, sub b, sub c, sub d] else [a, b, c, d]
theorem turned_length (n i a b c d : Nat) : (turned n i a b c d).length = 4 := by
  unfold turned
  split
  · rfl
  · split <;> rfl
theorem turned_lt {n i a b c d : Nat} (ha : a < 256) (hb : b < 256) (hc : c < 256) (hd : d < 256) : ∀ x ∈ turned n i a b c d, x < 256 := by
  unfold turned
  split
  · intro x hx
    simp only [List.mem_cons, List.not_mem_nil, or_false] at hx
    rcases hx with rfl | rfl | rfl | rfl
    · exact Nat.xor_lt_two_pow (n := 8) (sub_lt b hb) (pw_lt _)
    · exact sub_lt c hc
    · exact sub_lt d hd
    · exact sub_lt a ha
  · split
    · intro x hx
      simp only [List.mem_cons, List.not_mem_nil, or_false] at hx
      rcases hx with rfl | rfl | rfl | rfl
      · exact sub_lt _ ha
      · exact sub_lt _ hb
      · exact sub_lt _ hc
      · exact sub_lt _ hd
    · intro x hx
      simp only [List.mem_cons, List.not_mem_nil, or_false] at hx
      rcases hx with rfl | rfl | rfl | rfl <;> assumption

/-- The four bytes of word i, from all bytes ahead of it. -/
def nextFour (n i : Nat) (l : List Nat) : List Nat :=
  (List.range 4).map fun k => l.getD (4 * (i - n) + k) 0 ^^^ (turned n i (l.getD (4 * i - 4) 0) (l.getD (4 * i - 3) 0) (l.getD (4 * i - 2) 0) (l.getD (4 * i - 1) 0)).getD k 0
theorem nextFour_length (n i : Nat) (l : List Nat) : (nextFour n i l).length = 4 := by simp [nextFour]

theorem getD_lt {l : List Nat} (h : ∀ c ∈ l, c < 256) (i : Nat) : l.getD i 0 < 256 := by
  rw [List.getD_eq_getElem?_getD]
  by_cases hi : i < l.length
  · rw [List.getElem?_eq_getElem hi]; exact h _ (List.getElem_mem hi)
  · rw [List.getElem?_eq_none (by omega)]; decide
theorem nextFour_lt {n i : Nat} {l : List Nat} (h : ∀ c ∈ l, c < 256) : ∀ c ∈ nextFour n i l, c < 256 := by
  intro c hc
  unfold nextFour at hc
  obtain ⟨k, -, rfl⟩ := List.mem_map.1 hc
  exact Nat.xor_lt_two_pow (n := 8) (getD_lt h _) (getD_lt (turned_lt (getD_lt h _) (getD_lt h _) (getD_lt h _) (getD_lt h _)) k)

/-- The key and k words behind it, byte by byte. -/
def wordsTo (n : Nat) (key : List Nat) : Nat → List Nat
  | 0 => key
  | k + 1 => wordsTo n key k ++ nextFour n (n + k) (wordsTo n key k)

theorem wordsTo_length (n : Nat) (key : List Nat) (hk : key.length = 4 * n) (k : Nat) : (wordsTo n key k).length = 4 * (n + k) := by
  induction k with
  | zero => exact hk
  | succ k ih => rw [wordsTo, List.length_append, ih, nextFour_length]; omega
theorem wordsTo_lt {n : Nat} {key : List Nat} (h : ∀ c ∈ key, c < 256) (k : Nat) : ∀ c ∈ wordsTo n key k, c < 256 := by
  induction k with
  | zero => exact h
  | succ k ih =>
    intro c hc
    rw [wordsTo] at hc
    rcases List.mem_append.1 hc with hc | hc
    · exact ih c hc
    · exact nextFour_lt ih c hc
/-- What stands there stays. -/
theorem wordsTo_stays (n : Nat) (key : List Nat) (hk : key.length = 4 * n) (k m j : Nat) (hj : j < 4 * (n + k)) : (wordsTo n key (k + m)).getD j 0 = (wordsTo n key k).getD j 0 := by
  induction m with
  | zero => rfl
  | succ m ih =>
    rw [← ih, ← Nat.add_assoc, wordsTo, List.getD_eq_getElem?_getD, List.getElem?_append_left (by rw [wordsTo_length n key hk]; omega), ← List.getD_eq_getElem?_getD]

/-- All words' bytes: 4 (n + 7) words. -/
def allWords (n : Nat) (key : List Nat) : List Nat := wordsTo n key (3 * n + 28)
def wordAt (n : Nat) (key : List Nat) (j : Nat) : Nat := (allWords n key).getD j 0
theorem allWords_length (n : Nat) (key : List Nat) (hk : key.length = 4 * n) : (allWords n key).length = 16 * (n + 7) := by
  unfold allWords; rw [wordsTo_length n key hk]; omega
theorem wordAt_lt {n : Nat} {key : List Nat} (h : ∀ c ∈ key, c < 256) (j : Nat) : wordAt n key j < 256 := getD_lt (wordsTo_lt h _) j
theorem wordAt_keys {n : Nat} {key : List Nat} (h : ∀ c ∈ key, c < 256) : Keys (wordAt n key) (n + 6) := fun j _ => wordAt_lt h j
theorem wordAt_of (n : Nat) (key : List Nat) (hk : key.length = 4 * n) (k j : Nat) (hkk : k ≤ 3 * n + 28) (hj : j < 4 * (n + k)) : wordAt n key j = (wordsTo n key k).getD j 0 := by
  unfold wordAt allWords
  rw [show 3 * n + 28 = k + (3 * n + 28 - k) by omega]
  exact wordsTo_stays n key hk k _ j hj
/-- The key's own bytes. -/
theorem wordAt_key (n : Nat) (key : List Nat) (hk : key.length = 4 * n) (j : Nat) (hj : j < 4 * n) : wordAt n key j = key.getD j 0 :=
  wordAt_of n key hk 0 j (Nat.zero_le _) hj
/-- The bytes of a later word. -/
theorem wordAt_next (n : Nat) (key : List Nat) (hk : key.length = 4 * n) (hn : 0 < n) (i t : Nat) (hi : n ≤ i) (hi2 : i < 4 * (n + 7)) (ht : t < 4) :
    wordAt n key (4 * i + t) = wordAt n key (4 * (i - n) + t) ^^^ (turned n i (wordAt n key (4 * i - 4)) (wordAt n key (4 * i - 3)) (wordAt n key (4 * i - 2)) (wordAt n key (4 * i - 1))).getD t 0 := by
  obtain ⟨k, rfl⟩ : ∃ k, i = n + k := ⟨i - n, by omega⟩
  have e : ∀ j, j < 4 * (n + k) → wordAt n key j = (wordsTo n key k).getD j 0 := fun j hj => wordAt_of n key hk k j (by omega) hj
  rw [e (4 * (n + k - n) + t) (by omega), e (4 * (n + k) - 4) (by omega), e (4 * (n + k) - 3) (by omega), e (4 * (n + k) - 2) (by omega), e (4 * (n + k) - 1) (by omega)]
  rw [wordAt_of n key hk (k + 1) (4 * (n + k) + t) (by omega) (by omega), wordsTo, List.getD_eq_getElem?_getD, List.getElem?_append_right (by rw [wordsTo_length n key hk]; omega), wordsTo_length n key hk]
  rw [show 4 * (n + k) + t - 4 * (n + k) = t by omega]
  unfold nextFour
  rw [List.getElem?_map, List.getElem?_range ht]
  rfl

end Aes
end Go.Proofs.Ytedoggejbhbebaa

/-
  Contracts of aes.twice, aes.Times, math/bits.RotateLeft8 and aes.spread. Conditions: the numbers are bytes.
-/
namespace Go.Proofs.Ytedoggejbhbebaa
namespace Aes
open Go.ChangeShapes Go.WideShapes Go.ChangeAt Go.RowKit
open Gf
set_option linter.unusedVariables false

theorem xt_parts : ∀ a < 256, (a * 2 % 256) ^^^ (a / 128 * 27) = xt 8 27 a := by decide +kernel
theorem xt8_lt (a : Nat) : xt 8 27 a < 256 := xt_lt 8 27 p8 a

theorem twice_any (a : Nat) (w : World) (ha : a < 256) :
    Calls Try.prog 95 #[.int .u8 a] w fun e w' => e = .returned (.int .u8 (xt 8 27 a : Nat)) ∧ w' = w := by
  obtain ⟨h, hh⟩ : ∃ h, h = a / 128 := ⟨_, rfl⟩
  obtain ⟨s, hs⟩ : ∃ s, s = a * 2 % 256 := ⟨_, rfl⟩
  obtain ⟨p, hp⟩ : ∃ p, p = h * 27 := ⟨_, rfl⟩
  have q1 : (a : Int) / 128 = (h : Int) := by omega
  have q2 : IntKind.u8.wrap ((a : Int) * 2) = (s : Int) := by rw [IntKind.wrap_u8]; omega
  have q3 : IntKind.u8.wrap ((h : Int) * 27) = (p : Int) := by rw [IntKind.wrap_u8]; omega
  have q4 := u8_xor_nat s p (by omega) (by omega)
  have e := xt_parts a ha
  rw [← hs, ← hh, ← hp] at e
  rw [e] at q4
  clear hs hp hh e
  generalize xt 8 27 a = R at *
  have HA := Lib.hid ha; clear ha
  go_enter Try.func95, Try.ntmps95
  go_wp2
  go_ret
  exact ⟨rfl, rfl⟩

theorem bit0 (b : Nat) : b.testBit 0 = decide (b % 2 = 1) := by simp

set_option maxHeartbeats 1000000 in
theorem times_any (a0 b0 : Nat) (w : World) (ha : a0 < 256) (hb : b0 < 256) :
    Calls Try.prog 100 #[.int .u8 a0, .int .u8 b0] w fun e w' => e = .returned (.int .u8 (times a0 b0 : Nat)) ∧ w' = w := by
  obtain ⟨R, hR⟩ : ∃ R, R = times a0 b0 := ⟨_, rfl⟩
  rw [← hR]
  have HR := Lib.hid hR; clear hR
  go_enter Try.func100, Try.ntmps100
  go_wp2
  go_loop [0, 1, 5] (fun v0 v1 v5 => ∃ a b p k : Nat, a < 256 ∧ k ≤ 8 ∧ b < 2 ^ k ∧ p < 256 ∧ v0 = .int .u8 a ∧ v1 = .int .u8 b ∧ v5 = .int .u8 p ∧ p ^^^ op 8 27 k b a = R) (fun _ v1 _ => (intOf v1).toNat)
  case atStart => exact ⟨a0, b0, 0, 8, ha, Nat.le_refl _, hb, by decide, rfl, rfl, rfl, by rw [HR.out, Nat.zero_xor]; rfl⟩
  case round =>
    obtain ⟨a, b, p, k, hal, hk, hbl, hpl, rfl, rfl, rfl, hop⟩ := hrel
    rcases Nat.eq_zero_or_pos b with h0 | h0
    · have hp : p = R := by rw [← hop, h0, op_none, Nat.xor_zero]
      subst hp
      have HO := Lib.hid hop; clear hop hbl
      subst h0
      go_wp2
      go_ret
      exact ⟨rfl, rfl⟩
    · obtain ⟨k, rfl⟩ : ∃ j, k = j + 1 := by
        rcases k with _ | k
        · simp at hbl; omega
        · exact ⟨k, rfl⟩
      have hb2 : b / 2 < 2 ^ k := by rw [Nat.pow_succ] at hbl; omega
      have hb8 : b < 256 := Nat.lt_of_lt_of_le hbl (Nat.pow_le_pow_right (n := 2) (by decide) hk)
      rw [op, bit0, ← Nat.xor_assoc] at hop
      obtain ⟨c, hc⟩ : ∃ c, c = b / 2 := ⟨_, rfl⟩
      rw [← hc] at hop hb2
      have ht := fun X => twice_any a X hal
      have hx := xt8_lt a
      have q0 := u8_and_nat b 1 hb8 (by decide)
      rw [nat_mask1] at q0
      have q0' : bits .and .u8 (b : Int) 1 = ((b % 2 : Nat) : Int) := q0
      have q1 : (b : Int) / 2 = (c : Int) := by omega
      have hpos : (0 : Int) < (b : Int) := by omega
      have hlt : c < b := by omega
      have HOP := Lib.hid hop; clear hop
      have HT := Lib.hid ht; clear ht
      have HX := Lib.hid (And.intro hx (And.intro hb2 hk)); clear hx hb2 hk hc
      have HL := Lib.hid (And.intro hal (And.intro hpl hlt))
      rcases Nat.mod_two_eq_zero_or_one b with h | h
      · rw [h] at q0'
        have HH := Lib.hid h; clear h q0 hlt
        have q2 : IntKind.u8.wrap ((0 : Int) * (a : Int)) = 0 := by rw [IntKind.wrap_u8]; omega
        have q3 := u8_xor_nat p 0 hpl (by decide)
        rw [Nat.xor_zero] at q3
        have q3' : bits .xor .u8 (p : Int) 0 = (p : Int) := q3
        clear q3 hpl hal hbl hb8
        go_wp2_with fail
        refine (HT.out _).mono ?_
        rintro e w' ⟨rfl, rfl⟩
        go_wp2
        go_round
        case rel => exact ⟨xt 8 27 a, c, p, k, HX.out.1, by have := HX.out.2.2; omega, HX.out.2.1, HL.out.2.1, rfl, rfl, rfl, by rw [← HOP.out, HH.out]; simp [sel]⟩
        case measure => have := HL.out.2.2; simp [intOf]; omega
      · rw [h] at q0'
        have HH := Lib.hid h; clear h q0 hlt
        have q2 : IntKind.u8.wrap (a : Int) = (a : Int) := by rw [IntKind.wrap_u8]; omega
        have q2' : (a : Int) % 256 = (a : Int) := by omega
        have q3 := u8_xor_nat p a hpl hal
        have hz : p ^^^ a < 256 := Nat.xor_lt_two_pow (n := 8) hpl hal
        have HZ := Lib.hid hz; clear hz
        clear hpl hal hbl hb8
        go_wp2_with fail
        refine (HT.out _).mono ?_
        rintro e w' ⟨rfl, rfl⟩
        go_wp2
        go_round
        case rel => exact ⟨xt 8 27 a, c, p ^^^ a, k, HX.out.1, by have := HX.out.2.2; omega, HX.out.2.1, HZ.out, rfl, rfl, rfl, by rw [← HOP.out, HH.out]; simp [sel]⟩
        case measure => have := HL.out.2.2; simp [intOf]; omega

/-! ### spread -/

def rotl (x k : Nat) : Nat := x * 2 ^ k % 256 ||| x / 2 ^ (8 - k)
def spreadTo (x : Nat) : Nat → Nat
  | 0 => 99
  | k + 1 => spreadTo x k ^^^ rotl x k
theorem spread_table : ∀ x < 256, spreadTo x 5 = subTo x 8 := by decide +kernel
theorem rotl_lt {x k : Nat} (hx : x < 256) : rotl x k < 256 :=
  Nat.or_lt_two_pow (n := 8) (Nat.mod_lt _ (by decide)) (Nat.lt_of_le_of_lt (Nat.div_le_self _ _) hx)
theorem spreadTo_lt {x : Nat} (hx : x < 256) (k : Nat) : spreadTo x k < 256 := by
  induction k with
  | zero => show 99 < 256; decide
  | succ k ih => exact Nat.xor_lt_two_pow (n := 8) ih (rotl_lt hx)

theorem rot_any (x k : Nat) (w : World) (hx : x < 256) (hk : k < 8) :
    Calls Try.prog 96 #[.int .u8 x, .int .i64 k] w fun e w' => e = .returned (.int .u8 (rotl x k : Nat)) ∧ w' = w := by
  obtain ⟨m, hm⟩ : ∃ m, m = 8 - k := ⟨_, rfl⟩
  obtain ⟨q, hq⟩ : ∃ q, q = x / 2 ^ m := ⟨_, rfl⟩
  obtain ⟨s, hs⟩ : ∃ s, s = x * 2 ^ k % 256 := ⟨_, rfl⟩
  have e0 : IntKind.u64.wrap (k : Int) = (k : Int) := by rw [IntKind.wrap_u64]; omega
  have e1 := u64_and_nat k 7 (by omega) (by decide)
  rw [nat_mask3, Nat.mod_eq_of_lt hk] at e1
  have e1' : bits .and .u64 (k : Int) 7 = (k : Int) := e1
  have e2 : IntKind.u64.wrap (8 - (k : Int)) = (m : Int) := by rw [IntKind.wrap_u64]; omega
  have e3 : (x : Int) / 2 ^ m = (q : Int) := by rw [hq, Int.natCast_ediv]; simp
  have e4 : IntKind.u8.wrap ((x : Int) * 2 ^ k) = (s : Int) := by rw [hs, IntKind.wrap_u8]; simp
  have hr : s ||| q = rotl x k := by rw [hq, hs, hm]; rfl
  have e5 := u8_or_nat s q (by rw [hs]; exact Nat.mod_lt _ (by decide)) (by rw [hq]; exact Nat.lt_of_le_of_lt (Nat.div_le_self _ _) hx)
  rw [hr] at e5
  have hm2 : (m : Int) ≤ 8 := by omega
  have hk2 : (k : Int) ≤ 7 := by omega
  clear hq hs hm hr hx hk e1
  generalize rotl x k = R at *
  go_enter Try.func96, Try.ntmps96
  go_wp2
  go_ret
  exact ⟨rfl, rfl⟩

set_option maxHeartbeats 1000000 in
theorem spread_any (x : Nat) (w : World) (hx : x < 256) :
    Calls Try.prog 74 #[.int .u8 x] w fun e w' => e = .returned (.int .u8 (subTo x 8 : Nat)) ∧ w' = w := by
  rw [← spread_table x hx]
  obtain ⟨S, hS⟩ : ∃ S, S = spreadTo x := ⟨_, rfl⟩
  have h0 : S 0 = 99 := by rw [hS]; rfl
  have hs : ∀ k, S (k + 1) = S k ^^^ rotl x k := by intro k; rw [hS]; rfl
  have hl : ∀ k, S k < 256 := by intro k; rw [hS]; exact spreadTo_lt hx k
  have hr : ∀ k, rotl x k < 256 := fun k => rotl_lt hx
  rw [← hS]
  have HC := Lib.hid (fun k X (hk : k < 8) => rot_any x k X hx hk)
  have H := Lib.hid (And.intro h0 (And.intro hs (And.intro hl hr)))
  clear h0 hs hl hr hS hx
  go_enter Try.func74, Try.ntmps74
  go_wp2
  go_loop [3, 5] (fun v3 v5 => ∃ k : Nat, k ≤ 5 ∧ v5 = .int .i64 k ∧ v3 = .int .u8 (S k : Nat)) (fun _ v5 => 5 - (intOf v5).toNat)
  case atStart => exact ⟨0, by decide, rfl, by rw [H.out.1]; rfl⟩
  case round =>
    obtain ⟨k, hk, rfl, rfl⟩ := hrel
    by_cases hlt : k < 5
    · have q := u8_xor_nat (S k) (rotl x k) (H.out.2.2.1 k) (H.out.2.2.2 k)
      rw [← H.out.2.1 k] at q
      go_wp2_with fail
      refine (HC.out k _ (by omega)).mono ?_
      rintro e w' ⟨rfl, rfl⟩
      go_wp2
      go_round
      case rel => exact ⟨k + 1, by omega, by go_num, rfl⟩
      case measure => simp [intOf]; omega
    · obtain rfl : k = 5 := by omega
      go_wp2
      go_ret
      exact ⟨rfl, rfl⟩

end Aes
end Go.Proofs.Ytedoggejbhbebaa

/-
  Rows of numbers in memory; contracts of the reference's Table, of aes.inverses and aes.Sub, and of the statements' awake. Conditions: the number is a byte.
-/
namespace Go.Proofs.Ytedoggejbhbebaa
namespace Aes
open Go.ChangeShapes Go.WideShapes Go.ChangeAt Go.RowKit Go.Great
open Gf
set_option linter.unusedVariables false

theorem below_link {w wr w3 : World} (h : Below w.heap.size w wr) (k : Below wr.heap.size wr w3) : Below w.heap.size w w3 := h.trans (k.mono h.size)
theorem below_drewN (w : World) (n : Nat) : Below w.heap.size w (w.drewN n) := ⟨rfl, rfl, rfl, Nat.le_refl _, fun _ _ => rfl⟩
theorem below_alloc {w w' : World} (hb : Below w.heap.size w w') (x : Obj) : Below w.heap.size w (w'.alloc x) := hb.alloc hb.size _
theorem alloc_size (w : World) (o : Obj) : (w.alloc o).heap.size = w.heap.size + 1 := by
  show (w.heap.push o).size = _
  simp
theorem keepBlock {g : Nat} {o : Obj} {w w' : World} (h : w.heap[g]? = some o) (hb : Below w.heap.size w w') : w'.heap[g]? = some o := by
  rw [hb.block g (Array.getElem?_eq_some_iff.1 h).1]; exact h
theorem keepAlloc {g : Nat} {o : Obj} {w : World} (h : w.heap[g]? = some o) (x : Obj) : (w.alloc x).heap[g]? = some o := by
  rw [heap_alloc_old _ _ (Array.getElem?_eq_some_iff.1 h).1]; exact h
theorem below_setRow {B : Nat} {w w' : World} (hb : Below B w w') {g : Nat} (hg : B ≤ g) (c : Array Value) : Below B w (w'.setRow g c) := by
  refine hb.trans ⟨rfl, rfl, rfl, by simp, fun k hk => setRow_other _ _ _ _ (by omega)⟩

/-- Numbers as words in memory. -/
def valsK (k : IntKind) (l : List Nat) : Array Value := ((l.map Int.ofNat).map (Value.int k)).toArray

theorem valsK_get (k : IntKind) (l : List Nat) (j n : Nat) (h : l[j]? = some n) : (valsK k l)[j]? = some (.int k (n : Nat)) := by
  unfold valsK
  rw [List.getElem?_toArray, List.getElem?_map, List.getElem?_map, h]
  rfl
theorem valsK_size (k : IntKind) (l : List Nat) : (valsK k l).size = l.length := by simp [valsK]
theorem valsK_set (k : IntKind) (l : List Nat) (j v : Nat) : (valsK k l).setIfInBounds j (.int k (v : Nat)) = valsK k (l.set j v) := by
  unfold valsK
  rw [List.setIfInBounds_toArray, List.map_set, List.map_set]
  rfl
theorem valsK_one (k : IntKind) (l : List Nat) : (valsK k l).all (·.oneCell') = true := by
  unfold valsK
  rw [List.all_toArray, List.all_eq_true]
  intro v hv
  obtain ⟨z, -, rfl⟩ := List.mem_map.1 hv
  rfl

/-- A row of words. -/
abbrev Wd (k : IntKind) (T : TypeId) (g : Nat) (l : List Nat) (w : World) : Prop := w.heap[g]? = some (.cells (valsK k l) T (0, 0))

theorem Wd.cell {k : IntKind} {T : TypeId} {g : Nat} {l : List Nat} {w : World} (h : Wd k T g l w) {j x : Nat} (hx : l[j]? = some x) : w.cell? ⟨g, j, none⟩ = some (.int k (x : Nat)) := by
  rw [cell_of_row _ _ _ _ _ _ h]; exact valsK_get k l j x hx
theorem Wd.frozen {k : IntKind} {T : TypeId} {g : Nat} {l : List Nat} {w : World} (h : Wd k T g l w) (j : Nat) : w.frozen? ⟨g, j, none⟩ = false :=
  frozen_of_row _ _ _ _ _ h
theorem Wd.set {k : IntKind} {T : TypeId} {g : Nat} {l : List Nat} {w : World} (h : Wd k T g l w) (j v : Nat) : Wd k T g (l.set j v) (w.setCell ⟨g, j, none⟩ (.int k (v : Nat))) := by
  unfold Wd; rw [heap_setCell_same _ _ _ _ _ _ h, valsK_set]
theorem Wd.far {k : IntKind} {T : TypeId} {g : Nat} {l : List Nat} {w : World} (h : Wd k T g l w) (g' j : Nat) (v : Value) (hg : g ≠ g') : Wd k T g l (w.setCell ⟨g', j, none⟩ v) := by
  unfold Wd; rw [heap_setCell_other _ _ _ _ (by simp only []; exact hg)]; exact h

/-- The first i numbers that f gives, 0 behind them. -/
def upF (f : Nat → Nat) (n i : Nat) : List Nat := (List.range n).map fun j => if j < i then f j else 0
theorem upF_get (f : Nat → Nat) (n i j : Nat) (h : j < n) : (upF f n i)[j]? = some (if j < i then f j else 0) := by
  unfold upF
  rw [List.getElem?_map, List.getElem?_range h]
  rfl
theorem upF_length (f : Nat → Nat) (n i : Nat) : (upF f n i).length = n := by simp [upF]
theorem upF_next (f : Nat → Nat) (n i : Nat) : (upF f n i).set i (f i) = upF f n (i + 1) := by
  apply List.ext_getElem?
  intro j
  rw [List.getElem?_set]
  by_cases h : j < n
  · by_cases e : i = j
    · subst e; rw [if_pos rfl, upF_length, if_pos h, upF_get _ _ _ _ h, if_pos (by omega)]
    · rw [if_neg e, upF_get _ _ _ _ h, upF_get _ _ _ _ h]
      have : (j < i + 1) = (j < i) := by apply propext; omega
      simp only [this]
  · rw [List.getElem?_eq_none (by rw [upF_length]; omega), List.getElem?_eq_none (by rw [upF_length]; omega)]
    split
    · rw [if_neg (by rw [upF_length]; omega)]
    · rfl
def zerosN (n : Nat) : List Nat := List.replicate n 0
theorem upF_zero (f : Nat → Nat) (n : Nat) : upF f n 0 = zerosN n := by
  apply List.ext_getElem?
  intro j
  by_cases h : j < n
  · rw [upF_get f n 0 j h]
    unfold zerosN
    rw [List.getElem?_replicate, if_pos h]
    rfl
  · rw [List.getElem?_eq_none (by rw [upF_length]; omega), List.getElem?_eq_none (by simp [zerosN]; omega)]
/-- All n. -/
def allF (f : Nat → Nat) (n : Nat) : List Nat := (List.range n).map f
theorem upF_all (f : Nat → Nat) (n : Nat) : upF f n n = allF f n := by
  unfold upF allF
  exact List.map_congr_left fun j hj => if_pos (List.mem_range.1 hj)
theorem allF_length (f : Nat → Nat) (n : Nat) : (allF f n).length = n := by simp [allF]
theorem allF_get (f : Nat → Nat) (n j : Nat) (h : j < n) : (allF f n)[j]? = some (f j) := by
  unfold allF; rw [List.getElem?_map, List.getElem?_range h]; rfl

/-- An element of an array of integers. -/
theorem idx_int {P : Program} (w : World) {t e : TypeId} {n : Nat} {k kk : IntKind} {i0 : TypeInfo} {cs : Array Value} {j : Nat} {v : Value} (ht : P.underlying t = some (.array n e)) (he : P.underlying e = some (.int k)) (hi : P.info? e = some i0) (hs : P.cellsOf e = 1)
    (hj : j < n) (hv : cs[j]? = some v) : (Instr.index t (.agg cs) (.int kk (j : Nat))).run P w = .ok v w := by
  have h1 : (0 : Int) ≤ (j : Int) ∧ (j : Int) < (n : Int) := by omega
  simp [Instr.index, asIntOf, run_underlying ht, part, isAgg, run_underlying he, run_sizeOf w hi, hs, hj, hv, go_sem]

end Aes
end Go.Proofs.Ytedoggejbhbebaa
