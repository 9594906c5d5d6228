/-
  Contracts of crc.checksum at words of 16 and of 32 bits, of X25 and of Castagnoli. Conditions: none.
-/
import Derived.Test.YtgknkkhjlocokaaRows
import Derived.Test.YtgknkkhjlocokaaCrcMath
import Derived.WalkKit
import Derived.ProofKit
import Derived.OpenShut
import Derived.WalkSpells
import Derived.WalkLawsBesides
import Derived.Outline
import Derived.Lib.Hide
import Derived.Laws.BitsAllLaws
namespace Go.Proofs.Ytgknkkhjlocokaa
open Go.ChangeShapes Go.WideShapes Go.ChangeAt Go.RowKit
open Crc

/-- A text's bytes as numbers. -/
def nums (b : ByteArray) : List Nat := b.data.toList.map UInt8.toNat

theorem bitSteps_succ (p n : Nat) : ∀ r, bitSteps p (n + 1) r = bitStep p (bitSteps p n r) := by
  induction n with
  | zero => intro r; rfl
  | succ n ih => intro r; exact ih (bitStep p r)

theorem nums_length (b : ByteArray) : (nums b).length = b.size := by
  rw [nums, List.length_map, Array.length_toList]
  rfl

theorem nums_lt (b : ByteArray) : ∀ c ∈ nums b, c < 256 := by
  intro c hc
  simp only [nums, List.mem_map] at hc
  obtain ⟨x, _, rfl⟩ := hc
  exact x.toNat_lt

theorem nums_take (b : ByteArray) (k : Nat) (h : k < b.size) : (nums b).take (k + 1) = (nums b).take k ++ [b[k].toNat] := by
  have hl : k < (nums b).length := by rw [nums_length]; exact h
  rw [List.take_succ_eq_append_getElem hl]
  congr 2
  simp [nums]
  rfl

theorem reg_snoc (p r : Nat) (l : List Nat) (c : Nat) : reg p r (l ++ [c]) = byteStep p (reg p r l) c := reg_append p l [c] r

theorem nums_take_lt (b : ByteArray) (k : Nat) : ∀ c ∈ (nums b).take k, c < 256 := fun c hc => nums_lt b c (List.mem_of_mem_take hc)

theorem u16_not (a : Nat) (ha : a < 65536) : bits .xor .u16 IntKind.u16.max (a : Int) = ((65535 - a : Nat) : Int) := by
  have h := u16_xor_nat 65535 a (by decide) ha
  have e : (65535 : Nat) ^^^ a = 65535 - a := ones_xor (w := 16) ha
  rw [e] at h
  exact h
theorem u32_not (a : Nat) (ha : a < 4294967296) : bits .xor .u32 IntKind.u32.max (a : Int) = ((4294967295 - a : Nat) : Int) := by
  have h := u32_xor_nat 4294967295 a (by decide) ha
  have e : (4294967295 : Nat) ^^^ a = 4294967295 - a := ones_xor (w := 32) ha
  rw [e] at h
  exact h
theorem u16_one (a : Nat) (ha : a < 65536) : bits .and .u16 (a : Int) 1 = ((a % 2 : Nat) : Int) := by
  have h := u16_and_nat a 1 ha (by decide)
  rw [nat_mask1] at h
  exact h
theorem u32_one (a : Nat) (ha : a < 4294967296) : bits .and .u32 (a : Int) 1 = ((a % 2 : Nat) : Int) := by
  have h := u32_and_nat a 1 ha (by decide)
  rw [nat_mask1] at h
  exact h


/-- The sum of 16 bits. -/
def x25 (b : ByteArray) : Nat := 65535 - reg 33800 65535 (nums b)

set_option maxHeartbeats 1000000 in
theorem sum16_any (b : ByteArray) (w : World) (hm : b.size ≤ maxLen) :
    Calls Try.prog 14 #[.string b, .int .u16 33800] w fun e w' => e = .returned (.int .u16 (x25 b : Nat)) ∧ w' = w := by
  unfold maxLen at hm
  have hsg : IntKind.u16.signed = false := rfl
  have h0 : bits BinOp.xor IntKind.u16 IntKind.u16.max 0 = ((65535 : Nat) : Int) := u16_not 0 (by decide)
  go_enter Try.func14, Try.ntmps14
  go_wp2
  go_loopw [5, 12] (fun r i wr => ∃ k : Nat, k ≤ b.size ∧ i = .int .i64 k ∧ r = .int .u16 (reg 33800 65535 ((nums b).take k) : Nat) ∧ wr = w) (fun _ i _ => b.size - (intOf i).toNat)
  case atStart => exact ⟨0, Nat.zero_le _, rfl, rfl, rfl⟩
  case round =>
    obtain ⟨k, hk, rfl, rfl, rfl⟩ := hrel
    obtain ⟨q, hq⟩ : ∃ q, q = reg 33800 65535 ((nums b).take k) := ⟨_, rfl⟩
    have hql : q < 65536 := by rw [hq]; exact reg_lt (w := 16) (by decide) _ (by decide) (fun c hc => Nat.lt_trans (nums_take_lt b k c hc) (by decide))
    rw [← hq]
    have HQ := Lib.hid hq; clear hq
    by_cases hlt : k < b.size
    · have hc : b[k].toNat < 65536 := Nat.lt_trans b[k].toNat_lt (by decide)
      have hx := u16_xor_nat q b[k].toNat hql hc
      have hwr : IntKind.u16.wrap (b[k].toNat : Int) = (b[k].toNat : Int) := by rw [IntKind.wrap_u16]; omega
      have hz : q ^^^ b[k].toNat < 65536 := Nat.xor_lt_two_pow (n := 16) hql hc
      obtain ⟨z, hzq⟩ : ∃ z, z = q ^^^ b[k].toNat := ⟨_, rfl⟩
      rw [← hzq] at hx hz
      have HZ := Lib.hid hzq; clear hzq
      have HQL := Lib.hid hql; clear hql
      have HC := Lib.hid hc; clear hc
      have HZL := Lib.hid hz; clear hz
      go_wp2
      go_loopw [5, 21] (fun r i wr' => ∃ j : Nat, j ≤ 8 ∧ i = .int .i64 j ∧ r = .int .u16 (bitSteps 33800 j z : Nat) ∧ wr' = wr) (fun _ i _ => 8 - (intOf i).toNat)
      case atStart => exact ⟨0, Nat.zero_le _, rfl, rfl, rfl⟩
      case round =>
        obtain ⟨j, hj, rfl, rfl, rfl⟩ := hrel
        by_cases hj8 : j < 8
        · have hvl : bitSteps 33800 j z < 65536 := bitSteps_lt (w := 16) (by decide) j HZL.out
          have hs := bitSteps_succ 33800 j z
          have HS := Lib.hid hs; clear hs
          generalize bitSteps 33800 j z = v at hvl HS
          have ha := u16_one v hvl
          have hd : v / 2 < 65536 := Nat.lt_of_le_of_lt (Nat.div_le_self _ _) hvl
          have hy : bits BinOp.xor IntKind.u16 ((v : Int) / 2) 33800 = ((v / 2 ^^^ 33800 : Nat) : Int) := u16_xor_nat (v / 2) 33800 hd (by decide)
          have HD := Lib.hid hd; clear hd
          have HVL := Lib.hid hvl; clear hvl
          rcases Nat.mod_two_eq_zero_or_one v with h | h
          · rw [h] at ha
            have HH := Lib.hid h; clear h
            go_wp2
            go_roundw
            case rel =>
              refine ⟨j + 1, by omega, by go_num, ?_, trivial⟩
              rw [HS.out]
              simp [bitStep, HH.out]
            case measure => simp [intOf]; omega
          · rw [h] at ha
            have HH := Lib.hid h; clear h
            go_wp2
            go_roundw
            case rel =>
              refine ⟨j + 1, by omega, by go_num, ?_, trivial⟩
              rw [HS.out]
              simp [bitStep, HH.out]
            case measure => simp [intOf]; omega
        · obtain rfl : j = 8 := by omega
          go_wp2
          go_roundw
          case rel =>
            refine ⟨k + 1, by omega, by go_num, ?_, trivial⟩
            rw [nums_take b k hlt, reg_snoc, ← HQ.out, byteStep, ← HZ.out]
          case measure => simp [intOf]; omega
    · obtain rfl : k = b.size := by omega
      have hn := u16_not q hql
      have hx : 65535 - q = x25 b := by
        have e : (nums b).take b.size = nums b := List.take_of_length_le (by rw [nums_length]; exact Nat.le_refl _)
        rw [HQ.out, e]; rfl
      rw [hx] at hn
      have HX := Lib.hid hx; clear hx
      go_wp2
      go_ret
      exact ⟨rfl, rfl⟩

/-- The sum of 32 bits. -/
def cast (b : ByteArray) : Nat := 4294967295 - reg 2197175160 4294967295 (nums b)

set_option maxHeartbeats 1000000 in
theorem sum32_any (b : ByteArray) (w : World) (hm : b.size ≤ maxLen) :
    Calls Try.prog 17 #[.string b, .int .u32 2197175160] w fun e w' => e = .returned (.int .u32 (cast b : Nat)) ∧ w' = w := by
  unfold maxLen at hm
  have hsg : IntKind.u32.signed = false := rfl
  have h0 : bits BinOp.xor IntKind.u32 IntKind.u32.max 0 = ((4294967295 : Nat) : Int) := u32_not 0 (by decide)
  go_enter Try.func17, Try.ntmps17
  go_wp2
  go_loopw [5, 12] (fun r i wr => ∃ k : Nat, k ≤ b.size ∧ i = .int .i64 k ∧ r = .int .u32 (reg 2197175160 4294967295 ((nums b).take k) : Nat) ∧ wr = w) (fun _ i _ => b.size - (intOf i).toNat)
  case atStart => exact ⟨0, Nat.zero_le _, rfl, rfl, rfl⟩
  case round =>
    obtain ⟨k, hk, rfl, rfl, rfl⟩ := hrel
    obtain ⟨q, hq⟩ : ∃ q, q = reg 2197175160 4294967295 ((nums b).take k) := ⟨_, rfl⟩
    have hql : q < 4294967296 := by rw [hq]; exact reg_lt (w := 32) (by decide) _ (by decide) (fun c hc => Nat.lt_trans (nums_take_lt b k c hc) (by decide))
    rw [← hq]
    have HQ := Lib.hid hq; clear hq
    by_cases hlt : k < b.size
    · have hc : b[k].toNat < 4294967296 := Nat.lt_trans b[k].toNat_lt (by decide)
      have hx := u32_xor_nat q b[k].toNat hql hc
      have hwr : IntKind.u32.wrap (b[k].toNat : Int) = (b[k].toNat : Int) := by rw [IntKind.wrap_u32']; omega
      have hz : q ^^^ b[k].toNat < 4294967296 := Nat.xor_lt_two_pow (n := 32) hql hc
      obtain ⟨z, hzq⟩ : ∃ z, z = q ^^^ b[k].toNat := ⟨_, rfl⟩
      rw [← hzq] at hx hz
      have HZ := Lib.hid hzq; clear hzq
      have HQL := Lib.hid hql; clear hql
      have HC := Lib.hid hc; clear hc
      have HZL := Lib.hid hz; clear hz
      go_wp2
      go_loopw [5, 21] (fun r i wr' => ∃ j : Nat, j ≤ 8 ∧ i = .int .i64 j ∧ r = .int .u32 (bitSteps 2197175160 j z : Nat) ∧ wr' = wr) (fun _ i _ => 8 - (intOf i).toNat)
      case atStart => exact ⟨0, Nat.zero_le _, rfl, rfl, rfl⟩
      case round =>
        obtain ⟨j, hj, rfl, rfl, rfl⟩ := hrel
        by_cases hj8 : j < 8
        · have hvl : bitSteps 2197175160 j z < 4294967296 := bitSteps_lt (w := 32) (by decide) j HZL.out
          have hs := bitSteps_succ 2197175160 j z
          have HS := Lib.hid hs; clear hs
          generalize bitSteps 2197175160 j z = v at hvl HS
          have ha := u32_one v hvl
          have hd : v / 2 < 4294967296 := Nat.lt_of_le_of_lt (Nat.div_le_self _ _) hvl
          have hy : bits BinOp.xor IntKind.u32 ((v : Int) / 2) 2197175160 = ((v / 2 ^^^ 2197175160 : Nat) : Int) := u32_xor_nat (v / 2) 2197175160 hd (by decide)
          have HD := Lib.hid hd; clear hd
          have HVL := Lib.hid hvl; clear hvl
          rcases Nat.mod_two_eq_zero_or_one v with h | h
          · rw [h] at ha
            have HH := Lib.hid h; clear h
            go_wp2
            go_roundw
            case rel =>
              refine ⟨j + 1, by omega, by go_num, ?_, trivial⟩
              rw [HS.out]
              simp [bitStep, HH.out]
            case measure => simp [intOf]; omega
          · rw [h] at ha
            have HH := Lib.hid h; clear h
            go_wp2
            go_roundw
            case rel =>
              refine ⟨j + 1, by omega, by go_num, ?_, trivial⟩
              rw [HS.out]
              simp [bitStep, HH.out]
            case measure => simp [intOf]; omega
        · obtain rfl : j = 8 := by omega
          go_wp2
          go_roundw
          case rel =>
            refine ⟨k + 1, by omega, by go_num, ?_, trivial⟩
            rw [nums_take b k hlt, reg_snoc, ← HQ.out, byteStep, ← HZ.out]
          case measure => simp [intOf]; omega
    · obtain rfl : k = b.size := by omega
      have hn := u32_not q hql
      have hx : 4294967295 - q = cast b := by
        have e : (nums b).take b.size = nums b := List.take_of_length_le (by rw [nums_length]; exact Nat.le_refl _)
        rw [HQ.out, e]; rfl
      rw [hx] at hn
      have HX := Lib.hid hx; clear hx
      go_wp2
      go_ret
      exact ⟨rfl, rfl⟩
end Go.Proofs.Ytgknkkhjlocokaa
