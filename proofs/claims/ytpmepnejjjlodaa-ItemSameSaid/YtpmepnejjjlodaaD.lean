/-
  Contracts of the functions that read a number. Conditions: the string is no longer than memory allows.
-/
import Derived.Test.YtpmepnejjjlodaaC
namespace Go.Proofs.Ytpmepnejjjlodaa
open Go.ChangeShapes Go.WideShapes Go.ChangeAt Go.RowKit
open Plain
set_option linter.unusedVariables false

set_option maxRecDepth 100000 in
theorem len_1 (w : World) : Calls Try.prog 78 #[.int .u64 255] w fun e w' => e = .returned (.int .i64 8) ∧ w = w' := by
  go_enter Try.func78, Try.ntmps78
  go_wp2
  go_ret
  exact ⟨by kernel_rfl, rfl⟩
set_option maxRecDepth 100000 in
theorem len_2 (w : World) : Calls Try.prog 78 #[.int .u64 65535] w fun e w' => e = .returned (.int .i64 16) ∧ w = w' := by
  go_enter Try.func78, Try.ntmps78
  go_wp2
  go_ret
  exact ⟨by kernel_rfl, rfl⟩
set_option maxRecDepth 100000 in
theorem len_4 (w : World) : Calls Try.prog 78 #[.int .u64 4294967295] w fun e w' => e = .returned (.int .i64 32) ∧ w = w' := by
  go_enter Try.func78, Try.ntmps78
  go_wp2
  go_ret
  exact ⟨by kernel_rfl, rfl⟩
set_option maxRecDepth 100000 in
theorem len_8 (w : World) : Calls Try.prog 78 #[.int .u64 18446744073709551615] w fun e w' => e = .returned (.int .i64 64) ∧ w = w' := by
  go_enter Try.func78, Try.ntmps78
  go_wp2
  go_ret
  exact ⟨by kernel_rfl, rfl⟩

/-- The number that bytes spell. -/
def val (l : List UInt8) : Nat := l.foldl (fun a b => a * 256 + b.toNat) 0

theorem val_snoc (l : List UInt8) (b : UInt8) : val (l ++ [b]) = val l * 256 + b.toNat := by simp [val]

theorem val_lt_aux (l : List UInt8) : ∀ a k : Nat, a < 256 ^ k → l.foldl (fun a b => a * 256 + b.toNat) a < 256 ^ (k + l.length) := by
  induction l with
  | nil => intro a k h; simpa using h
  | cons b l ih =>
    intro a k h
    have hb := b.toNat_lt
    have := ih (a * 256 + b.toNat) (k + 1) (by rw [Nat.pow_succ]; omega)
    simpa [Nat.add_assoc, Nat.add_comm 1] using this

theorem val_lt (l : List UInt8) : val l < 256 ^ l.length := by
  have := val_lt_aux l 0 0 (by simp)
  rw [Nat.zero_add] at this
  exact this

theorem take_snoc (s : ByteArray) (k : Nat) (h : k < s.size) : s.data.toList.take (k + 1) = s.data.toList.take k ++ [s[k]] := by
  rw [List.take_succ_eq_append_getElem (by simpa using h)]
  rfl

/-- One byte more. -/
theorem val_step (s : ByteArray) (k : Nat) (hk : k < 8) (h : k < s.size) :
    Value.int .u64 (bits .or .u64 ((val (s.data.toList.take k) : Int) * 256) (IntKind.u64.wrap (s[k].toNat : Int))) = .int .u64 (val (s.data.toList.take (k + 1)) : Int) := by
  have hb := s[k].toNat_lt
  have hv : val (s.data.toList.take k) < 256 ^ 7 := Nat.lt_of_lt_of_le (val_lt _) (Nat.pow_le_pow_right (by omega) (by rw [List.length_take]; omega))
  rw [take_snoc s k h, val_snoc]
  generalize val (s.data.toList.take k) = v at *
  generalize s[k].toNat = b at *
  rw [show IntKind.u64.wrap (b : Int) = (b : Int) from by simp only [IntKind.wrap, IntKind.signed, IntKind.bits]; simp; omega]
  rw [show (v : Int) * 256 = ((256 * v : Nat) : Int) from by omega, bits_or_u64_nat _ _ (by omega) (by omega)]
  congr 2
  have := Nat.two_pow_add_eq_or_of_lt (i := 8) (b := b) (by omega) v
  rw [show 256 * v = 2 ^ 8 * v from by omega, ← this]
  omega

theorem val_take_lt (s : ByteArray) (k : Nat) : val (s.data.toList.take k) < 256 ^ k :=
  Nat.lt_of_lt_of_le (val_lt _) (Nat.pow_le_pow_right (by omega) (by rw [List.length_take]; omega))

theorem tup3 (x y : Value) {b c : Bool} (h : b = c) : Ending.returned (.tuple #[x, y, .bool b]) = .returned (.tuple #[x, y, .bool c]) := by rw [h]

set_option maxHeartbeats 400000 in
set_option maxRecDepth 100000 in
theorem number_short_1 (s : ByteArray) (w : World) (hs : s.size < 1) :
    Calls Try.prog 73 #[.string s, .int .u8 24] w fun e w' => e = .returned (.tuple #[.int .u64 0, .int .i64 0, .bool false]) ∧ w = w' := by
  have g : decide ((s.size : Int) < 1) = true := by simp; omega
  go_enter Try.func73, Try.ntmps73
  go_wp2_with fail
  refine (len_1 _).mono ?_
  rintro e w' ⟨rfl, rfl⟩
  go_wp2
  go_ret3
  exact ⟨rfl, rfl⟩

set_option maxHeartbeats 400000 in
set_option maxRecDepth 100000 in
theorem number_long_1 (s : ByteArray) (w : World) (hs : s.size ≤ maxLen) (hlen : 1 ≤ s.size) :
    Calls Try.prog 73 #[.string s, .int .u8 24] w fun e w' =>
      e = .returned (.tuple #[.int .u64 (val (s.data.toList.take 1)), .int .i64 1, .bool (decide (24 ≤ val (s.data.toList.take 1)))]) ∧ w = w' := by
  unfold maxLen at hs
  have g : decide ((s.size : Int) < 1) = false := by simp; omega
  go_enter Try.func73, Try.ntmps73
  go_wp2_with fail
  refine (len_1 _).mono ?_
  rintro e w' ⟨rfl, rfl⟩
  go_wp2
  go_loop [8, 20] (fun n i => ∃ k : Nat, k ≤ 1 ∧ i = .int .i64 k ∧ n = .int .u64 (val (s.data.toList.take k))) (fun _ i => 1 - (intOf i).toNat)
  case atStart => exact ⟨0, Nat.zero_le _, rfl, rfl⟩
  case round =>
    obtain ⟨k, hk, rfl, rfl⟩ := hrel
    by_cases hlt : k < 1
    · have hv : val (s.data.toList.take k) < 256 ^ 7 := Nat.lt_of_lt_of_le (val_take_lt s k) (Nat.pow_le_pow_right (by omega) (by omega))
      have hks : k < s.size := by omega
      go_wp2
      go_round
      case rel => exact ⟨k + 1, by omega, by go_num, val_step s k (by omega) hks⟩
      case measure => simp [intOf]; omega
    · obtain rfl : k = 1 := by omega
      have hv := val_take_lt s 1
      have hq : ((val (s.data.toList.take 1) : Nat) : Int) < 256 := by omega
      generalize hqe : val (s.data.toList.take 1) = q at *
      have HQ := Lib.hid hqe
      clear hqe hv
      go_wp2
      go_ret3
      rw [HQ.out]
      have hd : decide ((24 : Int) ≤ (q : Int)) = decide (24 ≤ q) := decide_eq_decide.2 ⟨fun h => by omega, fun h => by omega⟩
      exact ⟨tup3 _ _ hd, rfl⟩

set_option maxHeartbeats 400000 in
set_option maxRecDepth 100000 in
theorem number_short_2 (s : ByteArray) (w : World) (hs : s.size < 2) :
    Calls Try.prog 74 #[.string s, .int .u16 256] w fun e w' => e = .returned (.tuple #[.int .u64 0, .int .i64 0, .bool false]) ∧ w = w' := by
  have g : decide ((s.size : Int) < 2) = true := by simp; omega
  go_enter Try.func74, Try.ntmps74
  go_wp2_with fail
  refine (len_2 _).mono ?_
  rintro e w' ⟨rfl, rfl⟩
  go_wp2
  go_ret3
  exact ⟨rfl, rfl⟩

set_option maxHeartbeats 400000 in
set_option maxRecDepth 100000 in
theorem number_long_2 (s : ByteArray) (w : World) (hs : s.size ≤ maxLen) (hlen : 2 ≤ s.size) :
    Calls Try.prog 74 #[.string s, .int .u16 256] w fun e w' =>
      e = .returned (.tuple #[.int .u64 (val (s.data.toList.take 2)), .int .i64 2, .bool (decide (256 ≤ val (s.data.toList.take 2)))]) ∧ w = w' := by
  unfold maxLen at hs
  have g : decide ((s.size : Int) < 2) = false := by simp; omega
  go_enter Try.func74, Try.ntmps74
  go_wp2_with fail
  refine (len_2 _).mono ?_
  rintro e w' ⟨rfl, rfl⟩
  go_wp2
  go_loop [8, 20] (fun n i => ∃ k : Nat, k ≤ 2 ∧ i = .int .i64 k ∧ n = .int .u64 (val (s.data.toList.take k))) (fun _ i => 2 - (intOf i).toNat)
  case atStart => exact ⟨0, Nat.zero_le _, rfl, rfl⟩
  case round =>
    obtain ⟨k, hk, rfl, rfl⟩ := hrel
    by_cases hlt : k < 2
    · have hv : val (s.data.toList.take k) < 256 ^ 7 := Nat.lt_of_lt_of_le (val_take_lt s k) (Nat.pow_le_pow_right (by omega) (by omega))
      have hks : k < s.size := by omega
      go_wp2
      go_round
      case rel => exact ⟨k + 1, by omega, by go_num, val_step s k (by omega) hks⟩
      case measure => simp [intOf]; omega
    · obtain rfl : k = 2 := by omega
      have hv := val_take_lt s 2
      have hq : ((val (s.data.toList.take 2) : Nat) : Int) < 65536 := by omega
      generalize hqe : val (s.data.toList.take 2) = q at *
      have HQ := Lib.hid hqe
      clear hqe hv
      go_wp2
      go_ret3
      rw [HQ.out]
      have hd : decide ((256 : Int) ≤ (q : Int)) = decide (256 ≤ q) := decide_eq_decide.2 ⟨fun h => by omega, fun h => by omega⟩
      exact ⟨tup3 _ _ hd, rfl⟩

set_option maxHeartbeats 400000 in
set_option maxRecDepth 100000 in
theorem number_short_4 (s : ByteArray) (w : World) (hs : s.size < 4) :
    Calls Try.prog 75 #[.string s, .int .u32 65536] w fun e w' => e = .returned (.tuple #[.int .u64 0, .int .i64 0, .bool false]) ∧ w = w' := by
  have g : decide ((s.size : Int) < 4) = true := by simp; omega
  go_enter Try.func75, Try.ntmps75
  go_wp2_with fail
  refine (len_4 _).mono ?_
  rintro e w' ⟨rfl, rfl⟩
  go_wp2
  go_ret3
  exact ⟨rfl, rfl⟩

set_option maxHeartbeats 400000 in
set_option maxRecDepth 100000 in
theorem number_long_4 (s : ByteArray) (w : World) (hs : s.size ≤ maxLen) (hlen : 4 ≤ s.size) :
    Calls Try.prog 75 #[.string s, .int .u32 65536] w fun e w' =>
      e = .returned (.tuple #[.int .u64 (val (s.data.toList.take 4)), .int .i64 4, .bool (decide (65536 ≤ val (s.data.toList.take 4)))]) ∧ w = w' := by
  unfold maxLen at hs
  have g : decide ((s.size : Int) < 4) = false := by simp; omega
  go_enter Try.func75, Try.ntmps75
  go_wp2_with fail
  refine (len_4 _).mono ?_
  rintro e w' ⟨rfl, rfl⟩
  go_wp2
  go_loop [8, 20] (fun n i => ∃ k : Nat, k ≤ 4 ∧ i = .int .i64 k ∧ n = .int .u64 (val (s.data.toList.take k))) (fun _ i => 4 - (intOf i).toNat)
  case atStart => exact ⟨0, Nat.zero_le _, rfl, rfl⟩
  case round =>
    obtain ⟨k, hk, rfl, rfl⟩ := hrel
    by_cases hlt : k < 4
    · have hv : val (s.data.toList.take k) < 256 ^ 7 := Nat.lt_of_lt_of_le (val_take_lt s k) (Nat.pow_le_pow_right (by omega) (by omega))
      have hks : k < s.size := by omega
      go_wp2
      go_round
      case rel => exact ⟨k + 1, by omega, by go_num, val_step s k (by omega) hks⟩
      case measure => simp [intOf]; omega
    · obtain rfl : k = 4 := by omega
      have hv := val_take_lt s 4
      have hq : ((val (s.data.toList.take 4) : Nat) : Int) < 4294967296 := by omega
      generalize hqe : val (s.data.toList.take 4) = q at *
      have HQ := Lib.hid hqe
      clear hqe hv
      go_wp2
      go_ret3
      rw [HQ.out]
      have hd : decide ((65536 : Int) ≤ (q : Int)) = decide (65536 ≤ q) := decide_eq_decide.2 ⟨fun h => by omega, fun h => by omega⟩
      exact ⟨tup3 _ _ hd, rfl⟩

set_option maxHeartbeats 400000 in
set_option maxRecDepth 100000 in
theorem number_short_8 (s : ByteArray) (w : World) (hs : s.size < 8) :
    Calls Try.prog 76 #[.string s, .int .u64 4294967296] w fun e w' => e = .returned (.tuple #[.int .u64 0, .int .i64 0, .bool false]) ∧ w = w' := by
  have g : decide ((s.size : Int) < 8) = true := by simp; omega
  go_enter Try.func76, Try.ntmps76
  go_wp2_with fail
  refine (len_8 _).mono ?_
  rintro e w' ⟨rfl, rfl⟩
  go_wp2
  go_ret3
  exact ⟨rfl, rfl⟩

set_option maxHeartbeats 400000 in
set_option maxRecDepth 100000 in
theorem number_long_8 (s : ByteArray) (w : World) (hs : s.size ≤ maxLen) (hlen : 8 ≤ s.size) :
    Calls Try.prog 76 #[.string s, .int .u64 4294967296] w fun e w' =>
      e = .returned (.tuple #[.int .u64 (val (s.data.toList.take 8)), .int .i64 8, .bool (decide (4294967296 ≤ val (s.data.toList.take 8)))]) ∧ w = w' := by
  unfold maxLen at hs
  have g : decide ((s.size : Int) < 8) = false := by simp; omega
  go_enter Try.func76, Try.ntmps76
  go_wp2_with fail
  refine (len_8 _).mono ?_
  rintro e w' ⟨rfl, rfl⟩
  go_wp2
  go_loop [8, 19] (fun n i => ∃ k : Nat, k ≤ 8 ∧ i = .int .i64 k ∧ n = .int .u64 (val (s.data.toList.take k))) (fun _ i => 8 - (intOf i).toNat)
  case atStart => exact ⟨0, Nat.zero_le _, rfl, rfl⟩
  case round =>
    obtain ⟨k, hk, rfl, rfl⟩ := hrel
    by_cases hlt : k < 8
    · have hv : val (s.data.toList.take k) < 256 ^ 7 := Nat.lt_of_lt_of_le (val_take_lt s k) (Nat.pow_le_pow_right (by omega) (by omega))
      have hks : k < s.size := by omega
      go_wp2
      go_round
      case rel => exact ⟨k + 1, by omega, by go_num, val_step s k (by omega) hks⟩
      case measure => simp [intOf]; omega
    · obtain rfl : k = 8 := by omega
      have hv := val_take_lt s 8
      have hq : ((val (s.data.toList.take 8) : Nat) : Int) < 18446744073709551616 := by omega
      generalize hqe : val (s.data.toList.take 8) = q at *
      have HQ := Lib.hid hqe
      clear hqe hv
      go_wp2
      go_ret3
      rw [HQ.out]
      have hd : decide ((4294967296 : Int) ≤ (q : Int)) = decide (4294967296 ≤ q) := decide_eq_decide.2 ⟨fun h => by omega, fun h => by omega⟩
      exact ⟨tup3 _ _ hd, rfl⟩

end Go.Proofs.Ytpmepnejjjlodaa
