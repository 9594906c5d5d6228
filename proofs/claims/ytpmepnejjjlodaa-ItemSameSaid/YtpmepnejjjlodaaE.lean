/-
  Contracts of cbor.argument and cbor.parse. Conditions: the string is no longer than memory allows.
-/
import Derived.Test.YtpmepnejjjlodaaD
namespace Go.Proofs.Ytpmepnejjjlodaa
open Go.ChangeShapes Go.WideShapes Go.ChangeAt Go.RowKit
open Plain
set_option linter.unusedVariables false

/-- The number of a head that follows in k bytes: none if there are fewer, or if it needs fewer. -/
def numOf (k least : Nat) (l : List UInt8) : Option (Nat × Nat) :=
  if l.length < k then none else if least ≤ val (l.take k) then some (val (l.take k), k) else none

/-- The number of a head with these lower five bits, and how many bytes of l it takes. -/
def argOf (low : Nat) (l : List UInt8) : Option (Nat × Nat) :=
  if low < 24 then some (low, 0)
  else if low = 24 then numOf 1 24 l
  else if low = 25 then numOf 2 256 l
  else if low = 26 then numOf 4 65536 l
  else if low = 27 then numOf 8 4294967296 l
  else none

/-- No number. -/
def NoArg (w : World) (e : Ending) (w' : World) : Prop := ∃ n k : Nat, k ≤ 8 ∧ e = .returned (.tuple #[.int .u64 n, .int .i64 k, .bool false]) ∧ w = w'

/-- What cbor.argument returns. -/
def ArgPost (low : Nat) (l : List UInt8) (w : World) (e : Ending) (w' : World) : Prop :=
  match argOf low l with
  | some (n, k) => e = .returned (.tuple #[.int .u64 n, .int .i64 k, .bool true]) ∧ w = w'
  | none => NoArg w e w'

theorem size_list (s : ByteArray) : s.data.toList.length = s.size := by simp

theorem numOf_some {k least : Nat} {s : ByteArray} (h : k ≤ s.size) (h2 : least ≤ val (s.data.toList.take k)) : numOf k least s.data.toList = some (val (s.data.toList.take k), k) := by
  unfold numOf
  rw [if_neg (by rw [size_list]; omega), if_pos h2]

theorem numOf_low {k least : Nat} {s : ByteArray} (h : k ≤ s.size) (h2 : ¬ least ≤ val (s.data.toList.take k)) : numOf k least s.data.toList = none := by
  unfold numOf
  rw [if_neg (by rw [size_list]; omega), if_neg h2]

theorem numOf_short {k least : Nat} {s : ByteArray} (h : s.size < k) : numOf k least s.data.toList = none := by
  unfold numOf
  rw [if_pos (by rw [size_list]; omega)]

set_option maxHeartbeats 400000 in
set_option maxRecDepth 100000 in
theorem argument_24 (s : ByteArray) (w : World) (hs : s.size ≤ maxLen) : Calls Try.prog 71 #[.int .u8 24, .string s] w (ArgPost 24 s.data.toList w) := by
  have HS := Lib.hid hs; clear hs
  have e0 : argOf 24 s.data.toList = numOf 1 24 s.data.toList := rfl
  by_cases hl : s.size < 1
  · have hp : argOf 24 s.data.toList = none := e0.trans (numOf_short hl)
    have HP := Lib.hid hp; clear hp e0
    have HL := Lib.hid hl; clear hl
    go_enter Try.func71, Try.ntmps71
    go_wp2_with fail
    refine (number_short_1 s _ HL.out).mono ?_
    rintro e w' ⟨rfl, rfl⟩
    go_wp2
    go_ret3
    unfold ArgPost
    rw [HP.out]
    exact ⟨0, 0, by omega, rfl, rfl⟩
  · have hk : 1 ≤ s.size := by omega
    have HK := Lib.hid hk; clear hk hl
    by_cases hv : 24 ≤ val (s.data.toList.take 1)
    · have hp := e0.trans (numOf_some HK.out hv)
      have hd : decide (24 ≤ val (s.data.toList.take 1)) = true := decide_eq_true hv
      have HP := Lib.hid hp; clear hp e0
      have HD := Lib.hid hd; clear hd hv
      go_enter Try.func71, Try.ntmps71
      go_wp2_with fail
      refine (number_long_1 s _ HS.out HK.out).mono ?_
      rw [HD.out]
      rintro e w' ⟨rfl, rfl⟩
      go_wp2
      go_ret3
      unfold ArgPost
      rw [HP.out]
      exact ⟨rfl, rfl⟩
    · have hp := e0.trans (numOf_low HK.out hv)
      have hd : decide (24 ≤ val (s.data.toList.take 1)) = false := decide_eq_false hv
      have HP := Lib.hid hp; clear hp e0
      have HD := Lib.hid hd; clear hd hv
      go_enter Try.func71, Try.ntmps71
      go_wp2_with fail
      refine (number_long_1 s _ HS.out HK.out).mono ?_
      rw [HD.out]
      rintro e w' ⟨rfl, rfl⟩
      go_wp2
      go_ret3
      unfold ArgPost
      rw [HP.out]
      exact ⟨_, 1, by omega, rfl, rfl⟩

set_option maxHeartbeats 400000 in
set_option maxRecDepth 100000 in
theorem argument_25 (s : ByteArray) (w : World) (hs : s.size ≤ maxLen) : Calls Try.prog 71 #[.int .u8 25, .string s] w (ArgPost 25 s.data.toList w) := by
  have HS := Lib.hid hs; clear hs
  have e0 : argOf 25 s.data.toList = numOf 2 256 s.data.toList := rfl
  by_cases hl : s.size < 2
  · have hp : argOf 25 s.data.toList = none := e0.trans (numOf_short hl)
    have HP := Lib.hid hp; clear hp e0
    have HL := Lib.hid hl; clear hl
    go_enter Try.func71, Try.ntmps71
    go_wp2_with fail
    refine (number_short_2 s _ HL.out).mono ?_
    rintro e w' ⟨rfl, rfl⟩
    go_wp2
    go_ret3
    unfold ArgPost
    rw [HP.out]
    exact ⟨0, 0, by omega, rfl, rfl⟩
  · have hk : 2 ≤ s.size := by omega
    have HK := Lib.hid hk; clear hk hl
    by_cases hv : 256 ≤ val (s.data.toList.take 2)
    · have hp := e0.trans (numOf_some HK.out hv)
      have hd : decide (256 ≤ val (s.data.toList.take 2)) = true := decide_eq_true hv
      have HP := Lib.hid hp; clear hp e0
      have HD := Lib.hid hd; clear hd hv
      go_enter Try.func71, Try.ntmps71
      go_wp2_with fail
      refine (number_long_2 s _ HS.out HK.out).mono ?_
      rw [HD.out]
      rintro e w' ⟨rfl, rfl⟩
      go_wp2
      go_ret3
      unfold ArgPost
      rw [HP.out]
      exact ⟨rfl, rfl⟩
    · have hp := e0.trans (numOf_low HK.out hv)
      have hd : decide (256 ≤ val (s.data.toList.take 2)) = false := decide_eq_false hv
      have HP := Lib.hid hp; clear hp e0
      have HD := Lib.hid hd; clear hd hv
      go_enter Try.func71, Try.ntmps71
      go_wp2_with fail
      refine (number_long_2 s _ HS.out HK.out).mono ?_
      rw [HD.out]
      rintro e w' ⟨rfl, rfl⟩
      go_wp2
      go_ret3
      unfold ArgPost
      rw [HP.out]
      exact ⟨_, 2, by omega, rfl, rfl⟩

set_option maxHeartbeats 400000 in
set_option maxRecDepth 100000 in
theorem argument_26 (s : ByteArray) (w : World) (hs : s.size ≤ maxLen) : Calls Try.prog 71 #[.int .u8 26, .string s] w (ArgPost 26 s.data.toList w) := by
  have HS := Lib.hid hs; clear hs
  have e0 : argOf 26 s.data.toList = numOf 4 65536 s.data.toList := rfl
  by_cases hl : s.size < 4
  · have hp : argOf 26 s.data.toList = none := e0.trans (numOf_short hl)
    have HP := Lib.hid hp; clear hp e0
    have HL := Lib.hid hl; clear hl
    go_enter Try.func71, Try.ntmps71
    go_wp2_with fail
    refine (number_short_4 s _ HL.out).mono ?_
    rintro e w' ⟨rfl, rfl⟩
    go_wp2
    go_ret3
    unfold ArgPost
    rw [HP.out]
    exact ⟨0, 0, by omega, rfl, rfl⟩
  · have hk : 4 ≤ s.size := by omega
    have HK := Lib.hid hk; clear hk hl
    by_cases hv : 65536 ≤ val (s.data.toList.take 4)
    · have hp := e0.trans (numOf_some HK.out hv)
      have hd : decide (65536 ≤ val (s.data.toList.take 4)) = true := decide_eq_true hv
      have HP := Lib.hid hp; clear hp e0
      have HD := Lib.hid hd; clear hd hv
      go_enter Try.func71, Try.ntmps71
      go_wp2_with fail
      refine (number_long_4 s _ HS.out HK.out).mono ?_
      rw [HD.out]
      rintro e w' ⟨rfl, rfl⟩
      go_wp2
      go_ret3
      unfold ArgPost
      rw [HP.out]
      exact ⟨rfl, rfl⟩
    · have hp := e0.trans (numOf_low HK.out hv)
      have hd : decide (65536 ≤ val (s.data.toList.take 4)) = false := decide_eq_false hv
      have HP := Lib.hid hp; clear hp e0
      have HD := Lib.hid hd; clear hd hv
      go_enter Try.func71, Try.ntmps71
      go_wp2_with fail
      refine (number_long_4 s _ HS.out HK.out).mono ?_
      rw [HD.out]
      rintro e w' ⟨rfl, rfl⟩
      go_wp2
      go_ret3
      unfold ArgPost
      rw [HP.out]
      exact ⟨_, 4, by omega, rfl, rfl⟩

set_option maxHeartbeats 400000 in
set_option maxRecDepth 100000 in
theorem argument_27 (s : ByteArray) (w : World) (hs : s.size ≤ maxLen) : Calls Try.prog 71 #[.int .u8 27, .string s] w (ArgPost 27 s.data.toList w) := by
  have HS := Lib.hid hs; clear hs
  have e0 : argOf 27 s.data.toList = numOf 8 4294967296 s.data.toList := rfl
  by_cases hl : s.size < 8
  · have hp : argOf 27 s.data.toList = none := e0.trans (numOf_short hl)
    have HP := Lib.hid hp; clear hp e0
    have HL := Lib.hid hl; clear hl
    go_enter Try.func71, Try.ntmps71
    go_wp2_with fail
    refine (number_short_8 s _ HL.out).mono ?_
    rintro e w' ⟨rfl, rfl⟩
    go_wp2
    go_ret3
    unfold ArgPost
    rw [HP.out]
    exact ⟨0, 0, by omega, rfl, rfl⟩
  · have hk : 8 ≤ s.size := by omega
    have HK := Lib.hid hk; clear hk hl
    by_cases hv : 4294967296 ≤ val (s.data.toList.take 8)
    · have hp := e0.trans (numOf_some HK.out hv)
      have hd : decide (4294967296 ≤ val (s.data.toList.take 8)) = true := decide_eq_true hv
      have HP := Lib.hid hp; clear hp e0
      have HD := Lib.hid hd; clear hd hv
      go_enter Try.func71, Try.ntmps71
      go_wp2_with fail
      refine (number_long_8 s _ HS.out HK.out).mono ?_
      rw [HD.out]
      rintro e w' ⟨rfl, rfl⟩
      go_wp2
      go_ret3
      unfold ArgPost
      rw [HP.out]
      exact ⟨rfl, rfl⟩
    · have hp := e0.trans (numOf_low HK.out hv)
      have hd : decide (4294967296 ≤ val (s.data.toList.take 8)) = false := decide_eq_false hv
      have HP := Lib.hid hp; clear hp e0
      have HD := Lib.hid hd; clear hd hv
      go_enter Try.func71, Try.ntmps71
      go_wp2_with fail
      refine (number_long_8 s _ HS.out HK.out).mono ?_
      rw [HD.out]
      rintro e w' ⟨rfl, rfl⟩
      go_wp2
      go_ret3
      unfold ArgPost
      rw [HP.out]
      exact ⟨_, 8, by omega, rfl, rfl⟩

set_option maxHeartbeats 400000 in
theorem argument_small (n : Nat) (s : ByteArray) (w : World) (h : n < 24) : Calls Try.prog 71 #[.int .u8 n, .string s] w (ArgPost n s.data.toList w) := by
  have hp : argOf n s.data.toList = some (n, 0) := by unfold argOf; rw [if_pos h]
  have HP := Lib.hid hp; clear hp
  have g0 : ((n : Int) == 24) = false := by simp; omega
  have g1 : ((n : Int) == 25) = false := by simp; omega
  have g2 : ((n : Int) == 26) = false := by simp; omega
  have g3 : ((n : Int) == 27) = false := by simp; omega
  have g4 : decide ((n : Int) < 24) = true := by simp; omega
  go_enter Try.func71, Try.ntmps71
  go_wp2
  go_ret3
  unfold ArgPost
  rw [HP.out]
  exact ⟨rfl, rfl⟩

set_option maxHeartbeats 400000 in
theorem argument_else (n : Nat) (s : ByteArray) (w : World) (h : 28 ≤ n) (h' : n < 32) : Calls Try.prog 71 #[.int .u8 n, .string s] w (ArgPost n s.data.toList w) := by
  have hp : argOf n s.data.toList = none := by
    unfold argOf
    rw [if_neg (by omega), if_neg (by omega), if_neg (by omega), if_neg (by omega), if_neg (by omega)]
  have HP := Lib.hid hp; clear hp
  have g0 : ((n : Int) == 24) = false := by simp; omega
  have g1 : ((n : Int) == 25) = false := by simp; omega
  have g2 : ((n : Int) == 26) = false := by simp; omega
  have g3 : ((n : Int) == 27) = false := by simp; omega
  have g4 : decide ((n : Int) < 24) = false := by simp; omega
  go_enter Try.func71, Try.ntmps71
  go_wp2
  go_ret3
  unfold ArgPost
  rw [HP.out]
  exact ⟨n, 0, by omega, rfl, rfl⟩

/-- cbor.argument: the number of a head with these lower five bits. -/
theorem argument_any (n : Nat) (s : ByteArray) (w : World) (hs : s.size ≤ maxLen) (h : n < 32) : Calls Try.prog 71 #[.int .u8 n, .string s] w (ArgPost n s.data.toList w) := by
  rcases (show n < 24 ∨ n = 24 ∨ n = 25 ∨ n = 26 ∨ n = 27 ∨ 28 ≤ n from by omega) with h1 | rfl | rfl | rfl | rfl | h1
  · exact argument_small n s w h1
  · exact argument_24 s w hs
  · exact argument_25 s w hs
  · exact argument_26 s w hs
  · exact argument_27 s w hs
  · exact argument_else n s w h1 h

end Go.Proofs.Ytpmepnejjjlodaa
