/-
  Contracts of dromondref04.turn, divisor and Sum at 16 and at 32 bits. Conditions: the text is no longer than memory allows.
-/
import Derived.Test.YtgknkkhjlocokaaB
import Derived.RegionTactic
import Derived.ChangeAlike
namespace Go.Proofs.Ytgknkkhjlocokaa
open Go.ChangeShapes Go.WideShapes Go.ChangeAt Go.RowKit
open Crc

set_option maxHeartbeats 1000000 in
theorem turn_any (n size : Nat) (w : World) (hn : n < 18446744073709551616) (hs : size ≤ 32) :
    Calls Try.prog 16 #[.int .u64 n, .int .i64 size] w fun e w' => e = .returned (.int .u64 (rev size n : Nat)) ∧ w' = w := by
  go_enter Try.func16, Try.ntmps16
  go_wp2
  go_loopw [0, 5, 6] (fun x o i wr => ∃ k : Nat, k ≤ size ∧ i = .int .i64 k ∧ x = .int .u64 (n / 2 ^ k : Nat) ∧ o = .int .u64 (rev k n : Nat) ∧ wr = w) (fun _ _ i _ => size - (intOf i).toNat)
  case atStart => exact ⟨0, Nat.zero_le _, rfl, by simp, rfl, rfl⟩
  case round =>
    obtain ⟨k, hk, rfl, rfl, rfl, rfl⟩ := hrel
    by_cases hlt : k < size
    · obtain ⟨q, hq⟩ : ∃ q, q = n / 2 ^ k := ⟨_, rfl⟩
      obtain ⟨o, ho⟩ : ∃ o, o = rev k n := ⟨_, rfl⟩
      rw [← hq, ← ho]
      have hqb : q < 18446744073709551616 := by rw [hq]; exact Nat.lt_of_le_of_lt (Nat.div_le_self _ _) hn
      have hob : o < 4294967296 := by rw [ho]; exact Nat.lt_of_lt_of_le (rev_lt k n) (Nat.pow_le_pow_right (by decide) (by omega) : 2 ^ k ≤ 2 ^ 32)
      have hr := rev_succ k n
      rw [← hq, ← ho] at hr
      have HR := Lib.hid hr; clear hr
      have HQ := Lib.hid hq; clear hq
      have HO := Lib.hid ho; clear ho
      go_wp2
      go_roundw
      case rel =>
        refine ⟨k + 1, by omega, by go_num, ?_, ?_, trivial⟩
        · rw [HQ.out, Nat.pow_succ, ← Nat.div_div_eq_div_mul]; rfl
        · rw [HR.out]; rfl
      case measure => simp [intOf]; omega
    · obtain rfl : k = size := by omega
      go_wp2
      go_ret
      exact ⟨rfl, rfl⟩

theorem div16_any (w : World) : Calls Try.prog 15 #[.int .i64 16] w fun e w' => e = .returned (.int .u64 4129) ∧ Below w.heap.size w w' := by
  go_enter Try.func15, Try.ntmps15
  go_wp2
  go_ret
  exact ⟨rfl, Below.refl _ _⟩

/-- The powers of the divisor of 32 bits. -/
def pows : List Nat := [28, 27, 26, 25, 23, 22, 20, 19, 18, 14, 13, 11, 10, 9, 8, 6, 0]
def pow (i : Nat) : Nat := pows.getD i 0
/-- The sum of the first i. -/
def part : Nat → Nat
  | 0 => 0
  | i + 1 => part i + 2 ^ pow i

theorem part_17 : part 17 = 517762881 := by decide
theorem part_lt : ∀ i < 17, part i < 4294967296 := by decide
theorem pow_le : ∀ i < 17, pow i ≤ 28 := by decide

set_option maxHeartbeats 1000000 in
theorem div32_any (w : World) : Calls Try.prog 15 #[.int .i64 32] w fun e w' => e = .returned (.int .u64 517762881) ∧ Below w.heap.size w w' := by
  go_enter Try.func15, Try.ntmps15
  go_wp2
  obtain ⟨W, hW⟩ : ∃ W, W = w.alloc (Obj.cells #[.int .i64 28, .int .i64 27, .int .i64 26, .int .i64 25, .int .i64 23, .int .i64 22, .int .i64 20, .int .i64 19, .int .i64 18, .int .i64 14, .int .i64 13, .int .i64 11, .int .i64 10, .int .i64 9, .int .i64 8, .int .i64 6, .int .i64 0] 41) := ⟨_, rfl⟩
  rw [← hW]
  have hcell : ∀ i < 17, W.cell? ⟨w.heap.size, i, none⟩ = some (.int .i64 (pow i : Nat)) := by
    intro i hi
    rw [hW, cell_of_row _ w.heap.size i _ 41 (0, 0) (heap_alloc_new w _)]
    have hi' : i = 0 ∨ i = 1 ∨ i = 2 ∨ i = 3 ∨ i = 4 ∨ i = 5 ∨ i = 6 ∨ i = 7 ∨ i = 8 ∨ i = 9 ∨ i = 10 ∨ i = 11 ∨ i = 12 ∨ i = 13 ∨ i = 14 ∨ i = 15 ∨ i = 16 := by omega
    rcases hi' with rfl | rfl | rfl | rfl | rfl | rfl | rfl | rfl | rfl | rfl | rfl | rfl | rfl | rfl | rfl | rfl | rfl <;> rfl
  have hb : Below w.heap.size w W := by rw [hW]; exact (Below.refl _ _).alloc (Nat.le_refl _) _
  have HB := Lib.hid hb; clear hb
  have HC := Lib.hid hcell; clear hcell hW
  go_loopw [3, 5] (fun n i wr => ∃ k : Nat, k ≤ 17 ∧ i = .int .i64 k ∧ n = .int .u64 (part k : Nat) ∧ wr = W) (fun _ i _ => 17 - (intOf i).toNat)
  case atStart => exact ⟨0, Nat.zero_le _, rfl, rfl, rfl⟩
  case round =>
    obtain ⟨k, hk, rfl, rfl, rfl⟩ := hrel
    by_cases hlt : k < 17
    · have hp := part_lt k hlt
      have hl := pow_le k hlt
      have hc := HC.out k hlt
      have hs : part (k + 1) = part k + 2 ^ pow k := rfl
      have HS := Lib.hid hs; clear hs
      generalize part k = q at *
      generalize pow k = l at *
      go_wp2
      go_loopw [6, 7] (fun p i wr' => ∃ j : Nat, j ≤ l ∧ i = .int .i64 j ∧ p = .int .u64 (2 ^ j : Nat) ∧ wr' = wr) (fun _ i _ => l - (intOf i).toNat)
      case atStart => exact ⟨0, Nat.zero_le _, rfl, rfl, rfl⟩
      case round =>
        obtain ⟨j, hj, rfl, rfl, rfl⟩ := hrel
        have hz : 2 ^ j ≤ 268435456 := (Nat.pow_le_pow_right (by decide) (by omega) : 2 ^ j ≤ 2 ^ 28)
        by_cases hjl : j < l
        · have hs : 2 ^ (j + 1) = 2 ^ j * 2 := Nat.pow_succ 2 j
          have HS2 := Lib.hid hs; clear hs
          generalize 2 ^ j = z at *
          go_wp2
          go_roundw
          case rel =>
            refine ⟨j + 1, by omega, by go_num, ?_, trivial⟩
            rw [HS2.out]; rfl
          case measure => simp [intOf]; omega
        · obtain rfl : j = l := by omega
          generalize 2 ^ j = z at *
          go_wp2
          go_roundw
          case rel =>
            refine ⟨k + 1, by omega, by go_num, ?_, trivial⟩
            rw [HS.out]; rfl
          case measure => simp [intOf]; omega
    · obtain rfl : k = 17 := by omega
      rw [part_17]
      go_wp2
      go_ret
      exact ⟨rfl, HB.out⟩


theorem hiBits_succ16 (k : Nat) : ∀ r c, hiBits 4129 16 (k + 1) r c = hiStep 4129 16 (hiBits 4129 16 k r c) (c / 2 ^ k % 2) := by
  induction k with
  | zero => intro r c; simp [hiBits]
  | succ k ih =>
    intro r c
    have := ih (hiStep 4129 16 r (c % 2)) (c / 2)
    rw [Nat.div_div_eq_div_mul, Nat.mul_comm 2, ← Nat.pow_succ] at this
    exact this

theorem hiReg_snoc16 (l : List Nat) : ∀ (r c : Nat), hiReg 4129 16 r (l ++ [c]) = hiBits 4129 16 8 (hiReg 4129 16 r l) c := by
  induction l with
  | nil => intro r c; rfl
  | cons d l ih => intro r c; exact ih _ c

theorem hiReg_lt16 (l : List Nat) : ∀ {r : Nat}, r < 65536 → hiReg 4129 16 r l < 65536 := by
  induction l with
  | nil => intro r h; exact h
  | cons d l ih => intro r h; exact ih (hiBits_lt (w := 16) (by decide) 8 d h)

/-- The reference's register, turned about and complemented, is the sum. -/
theorem ref16_eq (b : ByteArray) : rev 16 (65535 - hiReg 4129 16 65535 (nums b)) = x25 b := by
  have h1 := rev_hiReg (d := 4129) (v := 15) (by decide) (nums b) 65535 (by decide) (nums_lt b)
  have h2 := rev_not (w := 16) (hiReg_lt16 (nums b) (r := 65535) (by decide))
  have h3 : rev 16 65535 = 65535 := rev_ones 16
  have h4 : reg 33800 65535 (nums b) < 2 ^ 16 := reg_lt (by decide) _ (by decide) (fun c hc => Nat.lt_trans (nums_lt b c hc) (by decide))
  rw [show 15 + 1 = 16 from rfl, rev_16, h3] at h1
  rw [h1, ones_xor h4] at h2
  exact h2

set_option maxHeartbeats 2000000 in
theorem ref16_any (b : ByteArray) (w : World) (hm : b.size ≤ maxLen) :
    Calls Try.prog 9 #[.int .i64 16, .string b] w fun e w' => e = .returned (.int .u64 (x25 b : Nat)) ∧ Below w.heap.size w w' := by
  unfold maxLen at hm
  go_enter Try.func9, Try.ntmps9
  go_wp2
  go_loopw [5, 6] (fun t i wr => ∃ k : Nat, k ≤ 16 ∧ i = .int .i64 k ∧ t = .int .u64 (2 ^ k : Nat) ∧ wr = w) (fun _ i _ => 16 - (intOf i).toNat)
  case atStart => exact ⟨0, Nat.zero_le _, rfl, rfl, rfl⟩
  case round =>
    obtain ⟨k, hk, rfl, rfl, rfl⟩ := hrel
    by_cases hlt : k < 16
    · have hz : 2 ^ k ≤ 4294967296 := (Nat.pow_le_pow_right (by decide) (by omega) : 2 ^ k ≤ 2 ^ 32)
      have hs : 2 ^ (k + 1) = 2 ^ k * 2 := Nat.pow_succ 2 k
      have HS2 := Lib.hid hs; clear hs
      generalize 2 ^ k = z at *
      go_wp2
      go_roundw
      case rel =>
        refine ⟨k + 1, by omega, by go_num, ?_, trivial⟩
        rw [HS2.out]; rfl
      case measure => simp [intOf]; omega
    · obtain rfl : k = 16 := by omega
      rw [show 2 ^ 16 = 65536 from rfl]
      go_wp2_with fail
      refine (div16_any _).mono ?_
      rintro e w1 ⟨rfl, hb⟩
      go_wp2
      go_loopw [7, 9] (fun r i wr' => ∃ k : Nat, k ≤ b.size ∧ i = .int .i64 k ∧ r = .int .u64 (hiReg 4129 16 65535 ((nums b).take k) : Nat) ∧ wr' = w1) (fun _ i _ => b.size - (intOf i).toNat)
      case atStart => exact ⟨0, Nat.zero_le _, rfl, rfl, rfl⟩
      case round =>
        obtain ⟨k, hk, rfl, rfl, rfl⟩ := hrel
        obtain ⟨q, hq⟩ : ∃ q, q = hiReg 4129 16 65535 ((nums b).take k) := ⟨_, rfl⟩
        have hql : q < 65536 := by rw [hq]; exact hiReg_lt16 _ (by decide)
        rw [← hq]
        have HQ := Lib.hid hq; clear hq
        by_cases hlt : k < b.size
        · have HQL := Lib.hid hql; clear hql
          have hc : b[k].toNat < 256 := b[k].toNat_lt
          go_wp2
          go_loopw [7, 10, 11] (fun r c i wr' => ∃ j : Nat, j ≤ 8 ∧ i = .int .i64 j ∧ c = .int .i64 (b[k].toNat / 2 ^ j : Nat) ∧ r = .int .u64 (hiBits 4129 16 j q b[k].toNat : Nat) ∧ wr' = wr) (fun _ _ i _ => 8 - (intOf i).toNat)
          case atStart => exact ⟨0, Nat.zero_le _, rfl, by simp, rfl, rfl⟩
          case round =>
            obtain ⟨j, hj, rfl, rfl, rfl, rfl⟩ := hrel
            by_cases hj8 : j < 8
            · have hvl : hiBits 4129 16 j q b[k].toNat < 65536 := hiBits_lt (w := 16) (by decide) j _ HQL.out
              have hs := hiBits_succ16 j q b[k].toNat
              have hcl : b[k].toNat / 2 ^ j < 256 := Nat.lt_of_le_of_lt (Nat.div_le_self _ _) hc
              have hs2 : b[k].toNat / 2 ^ (j + 1) = b[k].toNat / 2 ^ j / 2 := by rw [Nat.pow_succ, Nat.div_div_eq_div_mul]
              have HS := Lib.hid hs; clear hs
              have HS2 := Lib.hid hs2; clear hs2
              generalize hiBits 4129 16 j q b[k].toNat = v at hvl HS
              generalize b[k].toNat / 2 ^ j = c at hcl HS HS2
              have hx : bits BinOp.xor IntKind.u64 ((v : Int) * 2 % 65536) 4129 = ((v * 2 % 65536 ^^^ 4129 : Nat) : Int) := u64_xor_nat (v * 2 % 65536) 4129 (Nat.lt_trans (Nat.mod_lt _ (by decide)) (by decide)) (by decide)
              have hw : hiStep 4129 16 v (c % 2) = if v / 32768 ≠ c % 2 then (v * 2 % 65536) ^^^ 4129 else v * 2 % 65536 := rfl
              have HW := Lib.hid hw; clear hw
              by_cases h : v / 32768 = c % 2
              · have g : ((v : Int) / 32768 != (c : Int) % 2) = false := by simp; omega
                have HH := Lib.hid h; clear h
                go_wp2
                go_roundw
                case rel =>
                  refine ⟨j + 1, by omega, by go_num, ?_, ?_, trivial⟩
                  · rw [HS2.out]; rfl
                  · rw [HS.out, HW.out, if_neg (fun n => n HH.out)]; rfl
                case measure => simp [intOf]; omega
              · have g : ((v : Int) / 32768 != (c : Int) % 2) = true := by simp; omega
                have HH := Lib.hid h; clear h
                go_wp2
                go_roundw
                case rel =>
                  refine ⟨j + 1, by omega, by go_num, ?_, ?_, trivial⟩
                  · rw [HS2.out]; rfl
                  · rw [HS.out, HW.out, if_pos HH.out]
                case measure => simp [intOf]; omega
            · obtain rfl : j = 8 := by omega
              go_wp2
              go_roundw
              case rel =>
                refine ⟨k + 1, by omega, by go_num, ?_, trivial⟩
                rw [nums_take b k hlt, hiReg_snoc16, ← HQ.out]
              case measure => simp [intOf]; omega
        · obtain rfl : k = b.size := by omega
          have he := ref16_eq b
          have e : (nums b).take b.size = nums b := List.take_of_length_le (by rw [nums_length]; exact Nat.le_refl _)
          have hq' := HQ.out
          rw [e] at hq'
          rw [← hq'] at he
          have hsub : (65535 : Int) - (q : Int) = ((65535 - q : Nat) : Int) := by omega
          have HE := Lib.hid he; clear he hq' e
          go_wp2_with fail
          refine (turn_any (65535 - q) 16 _ (by omega) (by decide)).mono ?_
          rw [HE.out]
          rintro e w2 ⟨rfl, rfl⟩
          go_wp2
          go_ret
          exact ⟨rfl, hb⟩

theorem hiBits_succ32 (k : Nat) : ∀ r c, hiBits 517762881 32 (k + 1) r c = hiStep 517762881 32 (hiBits 517762881 32 k r c) (c / 2 ^ k % 2) := by
  induction k with
  | zero => intro r c; simp [hiBits]
  | succ k ih =>
    intro r c
    have := ih (hiStep 517762881 32 r (c % 2)) (c / 2)
    rw [Nat.div_div_eq_div_mul, Nat.mul_comm 2, ← Nat.pow_succ] at this
    exact this

theorem hiReg_snoc32 (l : List Nat) : ∀ (r c : Nat), hiReg 517762881 32 r (l ++ [c]) = hiBits 517762881 32 8 (hiReg 517762881 32 r l) c := by
  induction l with
  | nil => intro r c; rfl
  | cons d l ih => intro r c; exact ih _ c

theorem hiReg_lt32 (l : List Nat) : ∀ {r : Nat}, r < 4294967296 → hiReg 517762881 32 r l < 4294967296 := by
  induction l with
  | nil => intro r h; exact h
  | cons d l ih => intro r h; exact ih (hiBits_lt (w := 32) (by decide) 8 d h)

/-- The reference's register, turned about and complemented, is the sum. -/
theorem ref32_eq (b : ByteArray) : rev 32 (4294967295 - hiReg 517762881 32 4294967295 (nums b)) = cast b := by
  have h1 := rev_hiReg (d := 517762881) (v := 31) (by decide) (nums b) 4294967295 (by decide) (nums_lt b)
  have h2 := rev_not (w := 32) (hiReg_lt32 (nums b) (r := 4294967295) (by decide))
  have h3 : rev 32 4294967295 = 4294967295 := rev_ones 32
  have h4 : reg 2197175160 4294967295 (nums b) < 2 ^ 32 := reg_lt (by decide) _ (by decide) (fun c hc => Nat.lt_trans (nums_lt b c hc) (by decide))
  rw [show 31 + 1 = 32 from rfl, rev_32, h3] at h1
  rw [h1, ones_xor h4] at h2
  exact h2

set_option maxHeartbeats 2000000 in
theorem ref32_any (b : ByteArray) (w : World) (hm : b.size ≤ maxLen) :
    Calls Try.prog 9 #[.int .i64 32, .string b] w fun e w' => e = .returned (.int .u64 (cast b : Nat)) ∧ Below w.heap.size w w' := by
  unfold maxLen at hm
  go_enter Try.func9, Try.ntmps9
  go_wp2
  go_loopw [5, 6] (fun t i wr => ∃ k : Nat, k ≤ 32 ∧ i = .int .i64 k ∧ t = .int .u64 (2 ^ k : Nat) ∧ wr = w) (fun _ i _ => 32 - (intOf i).toNat)
  case atStart => exact ⟨0, Nat.zero_le _, rfl, rfl, rfl⟩
  case round =>
    obtain ⟨k, hk, rfl, rfl, rfl⟩ := hrel
    by_cases hlt : k < 32
    · have hz : 2 ^ k ≤ 4294967296 := (Nat.pow_le_pow_right (by decide) (by omega) : 2 ^ k ≤ 2 ^ 32)
      have hs : 2 ^ (k + 1) = 2 ^ k * 2 := Nat.pow_succ 2 k
      have HS2 := Lib.hid hs; clear hs
      generalize 2 ^ k = z at *
      go_wp2
      go_roundw
      case rel =>
        refine ⟨k + 1, by omega, by go_num, ?_, trivial⟩
        rw [HS2.out]; rfl
      case measure => simp [intOf]; omega
    · obtain rfl : k = 32 := by omega
      rw [show 2 ^ 32 = 4294967296 from rfl]
      go_wp2_with fail
      refine (div32_any _).mono ?_
      rintro e w1 ⟨rfl, hb⟩
      go_wp2
      go_loopw [7, 9] (fun r i wr' => ∃ k : Nat, k ≤ b.size ∧ i = .int .i64 k ∧ r = .int .u64 (hiReg 517762881 32 4294967295 ((nums b).take k) : Nat) ∧ wr' = w1) (fun _ i _ => b.size - (intOf i).toNat)
      case atStart => exact ⟨0, Nat.zero_le _, rfl, rfl, rfl⟩
      case round =>
        obtain ⟨k, hk, rfl, rfl, rfl⟩ := hrel
        obtain ⟨q, hq⟩ : ∃ q, q = hiReg 517762881 32 4294967295 ((nums b).take k) := ⟨_, rfl⟩
        have hql : q < 4294967296 := by rw [hq]; exact hiReg_lt32 _ (by decide)
        rw [← hq]
        have HQ := Lib.hid hq; clear hq
        by_cases hlt : k < b.size
        · have HQL := Lib.hid hql; clear hql
          have hc : b[k].toNat < 256 := b[k].toNat_lt
          go_wp2
          go_loopw [7, 10, 11] (fun r c i wr' => ∃ j : Nat, j ≤ 8 ∧ i = .int .i64 j ∧ c = .int .i64 (b[k].toNat / 2 ^ j : Nat) ∧ r = .int .u64 (hiBits 517762881 32 j q b[k].toNat : Nat) ∧ wr' = wr) (fun _ _ i _ => 8 - (intOf i).toNat)
          case atStart => exact ⟨0, Nat.zero_le _, rfl, by simp, rfl, rfl⟩
          case round =>
            obtain ⟨j, hj, rfl, rfl, rfl, rfl⟩ := hrel
            by_cases hj8 : j < 8
            · have hvl : hiBits 517762881 32 j q b[k].toNat < 4294967296 := hiBits_lt (w := 32) (by decide) j _ HQL.out
              have hs := hiBits_succ32 j q b[k].toNat
              have hcl : b[k].toNat / 2 ^ j < 256 := Nat.lt_of_le_of_lt (Nat.div_le_self _ _) hc
              have hs2 : b[k].toNat / 2 ^ (j + 1) = b[k].toNat / 2 ^ j / 2 := by rw [Nat.pow_succ, Nat.div_div_eq_div_mul]
              have HS := Lib.hid hs; clear hs
              have HS2 := Lib.hid hs2; clear hs2
              generalize hiBits 517762881 32 j q b[k].toNat = v at hvl HS
              generalize b[k].toNat / 2 ^ j = c at hcl HS HS2
              have hx : bits BinOp.xor IntKind.u64 ((v : Int) * 2 % 4294967296) 517762881 = ((v * 2 % 4294967296 ^^^ 517762881 : Nat) : Int) := u64_xor_nat (v * 2 % 4294967296) 517762881 (Nat.lt_trans (Nat.mod_lt _ (by decide)) (by decide)) (by decide)
              have hw : hiStep 517762881 32 v (c % 2) = if v / 2147483648 ≠ c % 2 then (v * 2 % 4294967296) ^^^ 517762881 else v * 2 % 4294967296 := rfl
              have HW := Lib.hid hw; clear hw
              by_cases h : v / 2147483648 = c % 2
              · have g : ((v : Int) / 2147483648 != (c : Int) % 2) = false := by simp; omega
                have HH := Lib.hid h; clear h
                go_wp2
                go_roundw
                case rel =>
                  refine ⟨j + 1, by omega, by go_num, ?_, ?_, trivial⟩
                  · rw [HS2.out]; rfl
                  · rw [HS.out, HW.out, if_neg (fun n => n HH.out)]; rfl
                case measure => simp [intOf]; omega
              · have g : ((v : Int) / 2147483648 != (c : Int) % 2) = true := by simp; omega
                have HH := Lib.hid h; clear h
                go_wp2
                go_roundw
                case rel =>
                  refine ⟨j + 1, by omega, by go_num, ?_, ?_, trivial⟩
                  · rw [HS2.out]; rfl
                  · rw [HS.out, HW.out, if_pos HH.out]
                case measure => simp [intOf]; omega
            · obtain rfl : j = 8 := by omega
              go_wp2
              go_roundw
              case rel =>
                refine ⟨k + 1, by omega, by go_num, ?_, trivial⟩
                rw [nums_take b k hlt, hiReg_snoc32, ← HQ.out]
              case measure => simp [intOf]; omega
        · obtain rfl : k = b.size := by omega
          have he := ref32_eq b
          have e : (nums b).take b.size = nums b := List.take_of_length_le (by rw [nums_length]; exact Nat.le_refl _)
          have hq' := HQ.out
          rw [e] at hq'
          rw [← hq'] at he
          have hsub : (4294967295 : Int) - (q : Int) = ((4294967295 - q : Nat) : Int) := by omega
          have HE := Lib.hid he; clear he hq' e
          go_wp2_with fail
          refine (turn_any (4294967295 - q) 32 _ (by omega) (by decide)).mono ?_
          rw [HE.out]
          rintro e w2 ⟨rfl, rfl⟩
          go_wp2
          go_ret
          exact ⟨rfl, hb⟩

end Go.Proofs.Ytgknkkhjlocokaa
