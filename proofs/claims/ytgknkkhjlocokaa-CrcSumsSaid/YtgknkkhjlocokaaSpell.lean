/-
  Contracts of crc.spell, crc.Sum and dromondref04.Bytes: the sums' bytes. Conditions: the text is no longer than memory allows.
-/
import Derived.Test.YtgknkkhjlocokaaRef
import Derived.Test.YtgknkkhjlocokaaThree
namespace Go.Proofs.Ytgknkkhjlocokaa
open Go.ChangeShapes Go.WideShapes Go.ChangeAt Go.RowKit Go.ChangeMaps
open Crc
set_option linter.unusedVariables false

/-- The byte of n at place i of size. -/
def digit (n size i : Nat) : Nat := n / 2 ^ (8 * (size - 1 - i)) % 256
/-- So many bytes of n, the highest first. -/
def digits (n size : Nat) : List UInt8 := (List.range size).map fun i => UInt8.ofNat (digit n size i)

theorem digits_length (n size : Nat) : (digits n size).length = size := by simp [digits]

theorem digit_at (n size j : Nat) (hj : j < (digits n size).length) : digit n size j = (digits n size)[j].toNat := by
  have : digit n size j < 256 := Nat.mod_lt _ (by decide)
  simp [digits, Nat.mod_eq_of_lt this]

theorem digits_2 (n : Nat) : digits n 2 = [UInt8.ofNat (n / 256 % 256), UInt8.ofNat (n % 256)] := by
  simp [digits, digit, List.range_succ]

theorem digits_4 (n : Nat) : digits n 4 = [UInt8.ofNat (n / 16777216 % 256), UInt8.ofNat (n / 65536 % 256), UInt8.ofNat (n / 256 % 256), UInt8.ofNat (n % 256)] := by
  simp [digits, digit, List.range_succ]

set_option maxHeartbeats 1000000 in
theorem spell_any (n size : Nat) (w : World) (hn : n < 4294967296) (h0 : 0 < size) (hs : size ≤ 4) :
    Calls Try.prog 13 #[.int .u32 n, .int .i64 size] w fun e w' => e = .returned (.string ⟨(digits n size).toArray⟩) ∧ Below w.heap.size w w' := by
  obtain ⟨i0, hi, hz0, hz1, hz2⟩ := info_parts Try.info5
  have HN := Lib.hid hn; clear hn
  go_enter Try.func13, Try.ntmps13
  go_wp2_with (at_make; refine wpList_make_full _ rfl _ _ 32 rfl w.heap.size 5 i0 (.int .u8 0) 1 Try.underlying32 hi hz0 hz1 _ _ _ _ size rfl rfl rfl rfl (by rw [hz2]; omega) (by unfold maxLen; omega) (Nat.le_refl _) ?_; intro w2 hown hgrow; have hrow := Row3.start (x := digit n size) hown hgrow; have HR := Lib.hid hrow; clear hrow hown hgrow)
  go_loopw [11] (fun i wr => ∃ k : Nat, k ≤ size ∧ i = .int .i64 k ∧ Row3 w size (digit n size) k wr) (fun i _ => size - (intOf i).toNat)
  case atStart => exact ⟨0, Nat.zero_le _, rfl, HR.out⟩
  case round =>
    obtain ⟨k, hk, rfl, hrow⟩ := hrel
    by_cases hlt : k < size
    · have hcell := hrow.cell hlt
      have hfr := hrow.frozen
      have hst := hrow.step hlt
      have HST := Lib.hid hst; clear hst
      have HROW := Lib.hid hrow; clear hrow
      go_wp2
      go_roundw
      case rel => exact ⟨k + 1, by omega, by go_num, HST.out⟩
      case measure => simp [intOf]; omega
    · obtain rfl : k = size := by omega
      have hl := digits_length n k
      have hrow' := hrow
      rw [← hl] at hrow'
      have hcv := Row3.back (l := digits n k) (x := digit n k) (by rw [hl]; exact hrow) (digit_at n k)
      rw [hl] at hcv
      have hbel := hrow.below
      have HBEL := Lib.hid hbel; clear hbel hrow' hrow
      go_wp2
      go_ret
      exact ⟨rfl, HBEL.out⟩

/-- The bytes of the sum of that kind. -/
def sumB (k : Int) (b : ByteArray) : ByteArray := if k = 1 then ⟨(digits (x25 b) 2).toArray⟩ else if k = 2 then ⟨(digits (cast b) 4).toArray⟩ else ⟨#[]⟩

theorem sumB_1 (b : ByteArray) : sumB 1 b = ⟨(digits (x25 b) 2).toArray⟩ := rfl
theorem sumB_2 (b : ByteArray) : sumB 2 b = ⟨(digits (cast b) 4).toArray⟩ := rfl
theorem sumB_no (k : Int) (b : ByteArray) (h1 : k ≠ 1) (h2 : k ≠ 2) : sumB k b = ⟨#[]⟩ := by unfold sumB; rw [if_neg h1, if_neg h2]

theorem sum_any (k : Int) (b : ByteArray) (w : World) (hm : b.size ≤ maxLen) :
    Calls Try.prog 7 #[.int .i64 k, .string b] w fun e w' => e = .returned (.string (sumB k b)) ∧ Below w.heap.size w w' := by
  have hx := x25_lt b
  have hy := cast_lt b
  have HX := Lib.hid hx; clear hx
  have HY := Lib.hid hy; clear hy
  have HM := Lib.hid hm; clear hm
  by_cases h1 : k = 1
  · subst h1
    rw [sumB_1]
    have hwr : IntKind.u32.wrap (x25 b : Int) = (x25 b : Int) := by have := HX.out; rw [IntKind.wrap_u32']; omega
    go_enter Try.func7, Try.ntmps7
    go_wp2_with fail
    refine (x25_any b _ HM.out).mono ?_
    rintro e w1 ⟨rfl, rfl⟩
    go_wp2_with fail
    refine (size_any 1 _).mono ?_
    rintro e w2 ⟨rfl, rfl⟩
    rw [show sizeOf' 1 = ((2 : Nat) : Int) from rfl]
    go_wp2_with fail
    refine (spell_any (x25 b) 2 _ (Nat.lt_trans HX.out (by decide)) (by decide) (by decide)).mono ?_
    rintro e w3 ⟨rfl, hb⟩
    go_wp2
    go_ret
    exact ⟨rfl, hb⟩
  by_cases h2 : k = 2
  · subst h2
    rw [sumB_2]
    go_enter Try.func7, Try.ntmps7
    go_wp2_with fail
    refine (cast_any b _ HM.out).mono ?_
    rintro e w1 ⟨rfl, rfl⟩
    go_wp2_with fail
    refine (size_any 2 _).mono ?_
    rintro e w2 ⟨rfl, rfl⟩
    rw [show sizeOf' 2 = ((4 : Nat) : Int) from rfl]
    go_wp2_with fail
    refine (spell_any (cast b) 4 _ HY.out (by decide) (by decide)).mono ?_
    rintro e w3 ⟨rfl, hb⟩
    go_wp2
    go_ret
    exact ⟨rfl, hb⟩
  rw [sumB_no k b h1 h2]
  have g1 : (k == 1) = false := by simpa using h1
  have g2 : (k == 2) = false := by simpa using h2
  go_enter Try.func7, Try.ntmps7
  go_wp2
  go_ret
  exact ⟨rfl, Below.refl _ _⟩

theorem below_chain {a b c : World} (h : Below a.heap.size a b) (k : Below b.heap.size b c) : Below a.heap.size a c := h.trans (k.mono h.size)

theorem below_new (a : World) (o : Obj) : Below a.heap.size a (a.alloc o) := (Below.refl _ _).alloc (Nat.le_refl _) _

theorem two_back (w : World) (n : Nat) : (convert 32 9 (.slice (some ⟨w.heap.size, 0, none⟩) 2 2)).run Try.prog (w.alloc (.cells #[.int .u8 ((n : Int) / 256 % 256), .int .u8 ((n : Int) % 256)] 5)) = .ok (.string ⟨(digits n 2).toArray⟩) (w.alloc (.cells #[.int .u8 ((n : Int) / 256 % 256), .int .u8 ((n : Int) % 256)] 5)) := by
  rw [digits_2]
  refine run_convert_bytes_back _ 32 9 5 _ 2 [_, _] Try.underlying32 Try.underlying5 Try.underlying9 fun j hj => ?_
  have hj' : j = 0 ∨ j = 1 := by simp at hj; omega
  have ea : (⟨w.heap.size, 0, none⟩ : Addr).add j = ⟨w.heap.size, j, none⟩ := by simp [Addr.add]; omega
  rw [ea, cell_of_row _ w.heap.size j _ 5 (0, 0) (heap_alloc_new w _)]
  rcases hj' with rfl | rfl <;> simp

theorem four_back (w : World) (n : Nat) : (convert 32 9 (.slice (some ⟨w.heap.size, 0, none⟩) 4 4)).run Try.prog (w.alloc (.cells #[.int .u8 ((n : Int) / 16777216 % 256), .int .u8 ((n : Int) / 65536 % 256), .int .u8 ((n : Int) / 256 % 256), .int .u8 ((n : Int) % 256)] 5)) = .ok (.string ⟨(digits n 4).toArray⟩) (w.alloc (.cells #[.int .u8 ((n : Int) / 16777216 % 256), .int .u8 ((n : Int) / 65536 % 256), .int .u8 ((n : Int) / 256 % 256), .int .u8 ((n : Int) % 256)] 5)) := by
  rw [digits_4]
  refine run_convert_bytes_back _ 32 9 5 _ 4 [_, _, _, _] Try.underlying32 Try.underlying5 Try.underlying9 fun j hj => ?_
  have hj' : j = 0 ∨ j = 1 ∨ j = 2 ∨ j = 3 := by simp at hj; omega
  have ea : (⟨w.heap.size, 0, none⟩ : Addr).add j = ⟨w.heap.size, j, none⟩ := by simp [Addr.add]; omega
  rw [ea, cell_of_row _ w.heap.size j _ 5 (0, 0) (heap_alloc_new w _)]
  rcases hj' with rfl | rfl | rfl | rfl <;> simp

set_option maxHeartbeats 1000000 in
theorem bytes_any (k : Int) (b : ByteArray) (w : World) (hm : b.size ≤ maxLen) :
    Calls Try.prog 11 #[.int .i64 k, .string b] w fun e w' => e = .returned (.string (sumB k b)) ∧ Below w.heap.size w w' := by
  have HM := Lib.hid hm; clear hm
  by_cases h1 : k = 1
  · subst h1
    rw [sumB_1]
    go_enter Try.func11, Try.ntmps11
    go_wp2_with fail
    refine (ref16_any b _ HM.out).mono ?_
    rintro e w1 ⟨rfl, hb⟩
    have hback := two_back w1 (x25 b)
    have hw1 : IntKind.u64.wrap ((x25 b : Int) / 256) = (x25 b : Int) / 256 := by have := x25_lt b; rw [IntKind.wrap_u64]; omega
    go_wp2
    go_ret
    exact ⟨rfl, below_chain hb (below_new _ _)⟩
  by_cases h2 : k = 2
  · subst h2
    rw [sumB_2]
    go_enter Try.func11, Try.ntmps11
    go_wp2_with fail
    refine (ref32_any b _ HM.out).mono ?_
    rintro e w1 ⟨rfl, hb⟩
    have hback := four_back w1 (cast b)
    have hw1 : IntKind.u64.wrap ((cast b : Int) / 256) = (cast b : Int) / 256 := by have := cast_lt b; rw [IntKind.wrap_u64]; omega
    have hw2 : IntKind.u64.wrap ((cast b : Int) / 65536) = (cast b : Int) / 65536 := by have := cast_lt b; rw [IntKind.wrap_u64]; omega
    have hw3 : IntKind.u64.wrap ((cast b : Int) / 16777216) = (cast b : Int) / 16777216 := by have := cast_lt b; rw [IntKind.wrap_u64]; omega
    have ht1 : ((cast b : Int) / 256).tmod 256 = (cast b : Int) / 256 % 256 := Int.tmod_eq_emod_of_nonneg (by omega)
    have ht2 : ((cast b : Int) / 65536).tmod 256 = (cast b : Int) / 65536 % 256 := Int.tmod_eq_emod_of_nonneg (by omega)
    have hm1 : (cast b : Int) / 256 % 256 % 256 = (cast b : Int) / 256 % 256 := by omega
    have hm2 : (cast b : Int) / 65536 % 256 % 256 = (cast b : Int) / 65536 % 256 := by omega
    go_wp2
    go_ret
    exact ⟨rfl, below_chain hb (below_new _ _)⟩
  rw [sumB_no k b h1 h2]
  have g1 : (k == 1) = false := by simpa using h1
  have g2 : (k == 2) = false := by simpa using h2
  go_enter Try.func11, Try.ntmps11
  go_wp2
  go_ret
  exact ⟨rfl, Below.refl _ _⟩

end Go.Proofs.Ytgknkkhjlocokaa
