/-
  The contract of cbor.parse. Conditions: the string is no longer than memory allows.
-/
import Derived.Test.YtpmepnejjjlodaaE
import Derived.Lib.IndexBytes
import Derived.RegionTactic
namespace Go.Proofs.Ytpmepnejjjlodaa
open Go.ChangeShapes Go.WideShapes Go.ChangeAt Go.RowKit
open Plain
set_option linter.unusedVariables false

theorem argOf_le {low n k : Nat} {l : List UInt8} (h : argOf low l = some (n, k)) : k ≤ 8 := by
  unfold argOf numOf at h
  repeat' split at h
  all_goals (cases h <;> omega)

theorem wrap64_of {x : Int} (h : -9223372036854775808 ≤ x) (h' : x ≤ 9223372036854775807) : wrap64 x = x := by
  unfold wrap64
  omega

/-- What a head says, and in how many bytes. -/
structure Hd where
  major : Nat
  n : Nat
  op : Bool
  size : Nat

/-- The head at the start of bytes, if there is one. -/
def headL : List UInt8 → Option Hd
  | [] => none
  | b :: r =>
    if b.toNat % 32 = 31 then (if opens ((b.toNat / 32 : Nat) : Int) then some ⟨b.toNat / 32, 0, true, 1⟩ else none)
    else match argOf (b.toNat % 32) r with
      | some (n, k) => some ⟨b.toNat / 32, n, false, 1 + k⟩
      | none => none

def hdV (h : Hd) : Value := .agg #[.int .i64 h.major, .int .u64 h.n, .bool h.op, .int .i64 h.size]

/-- No head. -/
def NoHead (w : World) (e : Ending) (w' : World) : Prop :=
  ∃ (a b : Int) (c : Bool) (d : Int), e = .returned (.tuple #[.agg #[.int .i64 a, .int .u64 b, .bool c, .int .i64 d], .bool false]) ∧ Below w.heap.size w w'

/-- What cbor.parse returns. -/
def ParsePost (l : List UInt8) (w : World) (e : Ending) (w' : World) : Prop :=
  match headL l with
  | some h => e = .returned (.tuple #[hdV h, .bool true]) ∧ Below w.heap.size w w'
  | none => NoHead w e w'

theorem list_cons (s : ByteArray) (h0 : 0 < s.size) : s.data.toList = s[0] :: (s.extract 1 s.size).data.toList := by
  have h1 : 0 < s.data.toList.length := by simpa using h0
  have e : s.data.toList = s.data.toList[0] :: s.data.toList.drop 1 := by
    rw [← List.drop_eq_getElem_cons h1]
    rfl
  rw [Lib.extract_to_end]
  exact e

set_option maxHeartbeats 400000 in
theorem parse_empty (s : ByteArray) (w : World) (h0 : s.size = 0) : Calls Try.prog 68 #[.string s] w (ParsePost s.data.toList w) := by
  have hl : s.data.toList = [] := List.eq_nil_of_length_eq_zero (by rw [size_list]; exact h0)
  have he : s.toList.isEmpty = true := by rw [Lib.toList_data, hl]; rfl
  have HL := Lib.hid hl; clear hl h0
  go_enter Try.func68, Try.ntmps68
  go_wp2
  refine bodyPost_ret (v := .tuple #[.agg #[.int .i64 0, .int .u64 0, .bool false, .int .i64 0], .bool false]) (by simp [results, Try.results68, go_sem]) rfl ?_
  unfold ParsePost
  rw [HL.out]
  exact ⟨0, 0, false, 0, rfl, (Below.refl _ _).alloc (Nat.le_refl _) _⟩

theorem low_bits (x : Nat) (h : x < 256) : bits .and .u8 (x : Int) 31 = ((x % 32 : Nat) : Int) := by
  have := u8_and_nat x 31 h (by omega)
  rw [show ((31 : Nat) : Int) = 31 from rfl] at this
  rw [this, show x &&& 31 = x % 32 from Nat.and_two_pow_sub_one_eq_mod x 5]

theorem high_bits (x : Nat) (h : x < 256) : wrap64 ((x : Int) / 32) = ((x / 32 : Nat) : Int) := by
  rw [wrap64_of (by omega) (by omega)]
  omega

set_option maxHeartbeats 400000 in
theorem parse_some (s : ByteArray) (w : World) (hs : s.size ≤ maxLen) (h0 : 0 < s.size) : Calls Try.prog 68 #[.string s] w (ParsePost s.data.toList w) := by
  have hl := list_cons s h0
  have he : s.toList.isEmpty = false := by rw [Lib.toList_data, hl]; rfl
  have hb := s[0].toNat_lt
  have hL := low_bits s[0].toNat (by omega)
  have hM := high_bits s[0].toNat (by omega)
  generalize hm : s[0].toNat / 32 = m at hM
  generalize hk : s[0].toNat % 32 = low at hL
  have hm7 : m ≤ 7 := by omega
  have hlow : low < 32 := by omega
  have hsz : (s.extract 1 s.size).size ≤ maxLen := by simp; omega
  have HL := Lib.hid hl; clear hl
  have Hm := Lib.hid hm; clear hm
  have Hk := Lib.hid hk; clear hk
  have HS := Lib.hid hs; clear hs
  have HZ := Lib.hid hsz; clear hsz
  clear hb
  by_cases h31 : low = 31
  · subst h31
    have hb2 : Below w.heap.size w ((w.alloc (.cells #[.int .i64 m, .int .u64 0, .bool true, .int .i64 1] 88)).alloc (.cells #[.int .i64 m, .int .u64 0, .bool true, .int .i64 1] 88)).drew := (((Below.refl _ _).alloc (Nat.le_refl _) _).alloc (by simp) _).drew
    have hb3 : Below w.heap.size w ((w.alloc (.cells #[.int .i64 m, .int .u64 0, .bool false, .int .i64 1] 88)).alloc (.cells #[.int .i64 m, .int .u64 0, .bool false, .int .i64 1] 88)).drew := (((Below.refl _ _).alloc (Nat.le_refl _) _).alloc (by simp) _).drew
    have HB2 := Lib.hid hb2; clear hb2
    have HB3 := Lib.hid hb3; clear hb3
    go_enter Try.func68, Try.ntmps68
    go_wp2_with fail
    refine (mayOpen_any _ _).mono ?_
    cases ho : opens (m : Int)
    · have hp : headL s.data.toList = none := by rw [HL.out, headL, Hk.out, Hm.out, if_pos rfl, ho]; rfl
      have HP := Lib.hid hp; clear hp
      have HO := Lib.hid ho; clear ho
      rintro e w' ⟨rfl, rfl⟩
      go_wp2
      go_region
      go_wp2
      refine bodyPost_ret (v := .tuple #[.agg #[.int .i64 m, .int .u64 0, .bool false, .int .i64 1], .bool false]) (by simp [results, Try.results68, go_sem]) rfl ?_
      unfold ParsePost
      rw [HP.out]
      exact ⟨_, _, _, _, rfl, HB3.out⟩
    · have hp : headL s.data.toList = some ⟨m, 0, true, 1⟩ := by rw [HL.out, headL, Hk.out, Hm.out, if_pos rfl, ho]; rfl
      have HP := Lib.hid hp; clear hp
      have HO := Lib.hid ho; clear ho
      rintro e w' ⟨rfl, rfl⟩
      go_wp2
      go_region
      go_wp2
      refine bodyPost_ret (v := .tuple #[.agg #[.int .i64 m, .int .u64 0, .bool true, .int .i64 1], .bool true]) (by simp [results, Try.results68, go_sem]) rfl ?_
      unfold ParsePost
      rw [HP.out]
      exact ⟨rfl, HB2.out⟩
  · have g31 : ((low : Int) == 31) = false := by simp; omega
    have H31 := Lib.hid h31; clear h31
    go_enter Try.func68, Try.ntmps68
    go_wp2_with fail
    refine (argument_any low _ _ HZ.out hlow).mono ?_
    unfold ArgPost
    cases ha : argOf low (s.extract 1 s.size).data.toList with
    | none =>
      have hp : headL s.data.toList = none := by rw [HL.out, headL, Hk.out, Hm.out, if_neg H31.out, ha]
      have HP := Lib.hid hp; clear hp
      have HA := Lib.hid ha; clear ha
      rintro e w' ⟨n, k, hk8, rfl, rfl⟩
      go_wp2
      refine bodyPost_ret (v := .tuple #[.agg #[.int .i64 m, .int .u64 n, .bool false, .int .i64 (1 + k)], .bool false]) (by simp [results, Try.results68, go_sem]) rfl ?_
      unfold ParsePost
      rw [HP.out]
      exact ⟨_, _, _, _, rfl, ((Below.refl _ _).alloc (Nat.le_refl _) _).alloc (by simp) _⟩
    | some x =>
      obtain ⟨n, k⟩ := x
      have hk8 := argOf_le ha
      have hp : headL s.data.toList = some ⟨m, n, false, 1 + k⟩ := by rw [HL.out, headL, Hk.out, Hm.out, if_neg H31.out, ha]
      have HP := Lib.hid hp; clear hp
      have HA := Lib.hid ha; clear ha
      rintro e w' ⟨rfl, rfl⟩
      go_wp2
      refine bodyPost_ret (v := .tuple #[.agg #[.int .i64 m, .int .u64 n, .bool false, .int .i64 (1 + k)], .bool true]) (by simp [results, Try.results68, go_sem]) rfl ?_
      unfold ParsePost
      rw [HP.out]
      exact ⟨rfl, ((Below.refl _ _).alloc (Nat.le_refl _) _).alloc (by simp) _⟩

/-- cbor.parse: the head at the start of a string. -/
theorem parse_any (s : ByteArray) (w : World) (hs : s.size ≤ maxLen) : Calls Try.prog 68 #[.string s] w (ParsePost s.data.toList w) := by
  rcases Nat.eq_zero_or_pos s.size with h | h
  · exact parse_empty s w h
  · exact parse_some s w hs h

end Go.Proofs.Ytpmepnejjjlodaa
