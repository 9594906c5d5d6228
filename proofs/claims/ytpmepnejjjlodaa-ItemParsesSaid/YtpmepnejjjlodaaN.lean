/-
  The contract of dromondref01.Read: the head with which bytes begin. Conditions: the string is no longer than memory allows.
-/
import Derived.Test.YtpmepnejjjlodaaM
namespace Go.Proofs.Ytpmepnejjjlodaa
open Go.ChangeShapes Go.WideShapes Go.ChangeAt Go.RowKit
open Plain
set_option linter.unusedVariables false

set_option maxHeartbeats 1000000 in
set_option maxRecDepth 100000 in
theorem read_long_1 (s : ByteArray) (w : World) (hs : s.size ≤ maxLen) (h0 : 0 < s.size) (m : Nat) (hc : Cut s h0 m 24) (hlen : 2 ≤ s.size) :
    Calls Try.prog 33 #[.string s] w fun e w' => e = .returned (gotV (headL s.data.toList)) ∧ Below w.heap.size w w' := by
  have he : s.toList.isEmpty = false := by rw [Lib.toList_data, hc.list]; rfl
  have hd := hc.div
  have hm := hc.mod
  have h7 := hc.m7
  have HC := Lib.hid hc; clear hc
  unfold maxLen at hs
  have g : decide ((s.size : Int) < 2) = false := by simp; omega
  have gI : (2 : Int) ≤ (s.size : Int) := by omega
  have gW : IntKind.i64.wrap 2 = 2 := by rw [IntKind.wrap_i64]; omega
  go_enter Try.func33, Try.ntmps33
  go_wp2
  go_region
  go_wp2
  rw [hd]
  clear hd hm
  go_loop [6, 7] (fun n i => ∃ k : Nat, k ≤ 1 ∧ i = .int .i64 (k + 1) ∧ n = .int .u64 (restVal s k)) (fun _ i => 2 - (intOf i).toNat)
  case atStart => exact ⟨0, Nat.zero_le _, rfl, rfl⟩
  case round =>
    obtain ⟨k, hk, rfl, rfl⟩ := hrel
    by_cases hlt : k < 1
    · have hv : restVal s k < 256 ^ 7 := Nat.lt_of_lt_of_le (restVal_lt s k) (Nat.pow_le_pow_right (by omega) (by omega))
      have hks : k + 1 < s.size := by omega
      go_wp2
      go_round
      case rel => exact ⟨k + 1, by omega, by go_num, rest_step s k (by omega) hks⟩
      case measure => simp [intOf]; omega
    · obtain rfl : k = 1 := by omega
      have hlt2 := restVal_lt s 1
      have hq64 : restVal s 1 < 18446744073709551616 := by omega
      have HQ := Lib.hid hq64; clear hq64 hlt2
      by_cases hq : 24 ≤ restVal s 1
      · have hf := read_facts_1 s h0 m HC.out hlen hq
        have HF := Lib.hid hf; clear hf
        have HQQ := Lib.hid hq; clear hq
        go_wp2
        go_region_with (go_at_call 32; refine (refHead_any m _ _ h7 HQ.out).mono ?_; rw [HF.out.1]; rintro e w' ⟨rfl, hb⟩; obtain ⟨hrc, hbw⟩ := got_kept hb; have hz := hb.size; clear hb)
        obtain ⟨r0, r1, r2, r3⟩ := got4 hrc
        have hfz : ∀ i, w'.frozen? ⟨w.heap.size, i, none⟩ = false := free4 hrc
        obtain ⟨q0, q1, q2, q3⟩ := got4 (a := 2) (b := m) (c := restVal s 1) (d := false) (set4 _ _ _ _ hrc)
        have HB := Lib.hid hbw; clear hbw hrc
        go_wp2
        rw [HF.out.2]
        refine bodyPost_ret (v := .agg #[.int .i64 2, .int .i64 m, .int .u64 (restVal s 1), .bool false]) (by simp [results, Try.results33, go_sem, q0, q1, q2, q3]) rfl ⟨rfl, (((HB.out.setCell (by simp) _).setCell (by simp) _).setCell (by simp) _).setCell (by simp) _⟩
      · have hf := read_misses_1 s h0 m HC.out hlen (by omega)
        have hne : (headOf m (restVal s 1) == (s.extract 0 2).toList) = false := by
          have h1 := hf.1
          rw [Lib.toList_data] at h1
          exact h1
        have HF := Lib.hid hf; clear hf
        have HQQ := Lib.hid hq; clear hq
        go_wp2
        go_region_with (go_at_call 32; refine (refHead_any m _ _ h7 HQ.out).mono ?_; rintro e w' ⟨rfl, hb⟩; obtain ⟨hrc, hbw⟩ := got_kept hb; have hz := hb.size; clear hb)
        obtain ⟨r0, r1, r2, r3⟩ := got4 hrc
        have hfz : ∀ i, w'.frozen? ⟨w.heap.size, i, none⟩ = false := free4 hrc
        obtain ⟨q0, q1, q2, q3⟩ := got4 (a := 0) (b := 0) (c := 0) (d := false) (set4 _ _ _ _ hrc)
        have HB := Lib.hid hbw; clear hbw hrc
        go_wp2
        rw [HF.out.2]
        refine bodyPost_ret (v := .agg #[.int .i64 0, .int .i64 0, .int .u64 0, .bool false]) (by simp [results, Try.results33, go_sem, q0, q1, q2, q3]) rfl ⟨rfl, (((HB.out.setCell (by simp) _).setCell (by simp) _).setCell (by simp) _).setCell (by simp) _⟩

set_option maxHeartbeats 1000000 in
set_option maxRecDepth 100000 in
theorem read_long_2 (s : ByteArray) (w : World) (hs : s.size ≤ maxLen) (h0 : 0 < s.size) (m : Nat) (hc : Cut s h0 m 25) (hlen : 3 ≤ s.size) :
    Calls Try.prog 33 #[.string s] w fun e w' => e = .returned (gotV (headL s.data.toList)) ∧ Below w.heap.size w w' := by
  have he : s.toList.isEmpty = false := by rw [Lib.toList_data, hc.list]; rfl
  have hd := hc.div
  have hm := hc.mod
  have h7 := hc.m7
  have HC := Lib.hid hc; clear hc
  unfold maxLen at hs
  have g : decide ((s.size : Int) < 3) = false := by simp; omega
  have gI : (3 : Int) ≤ (s.size : Int) := by omega
  have gW : IntKind.i64.wrap 3 = 3 := by rw [IntKind.wrap_i64]; omega
  go_enter Try.func33, Try.ntmps33
  go_wp2
  go_region
  go_wp2
  rw [hd]
  clear hd hm
  go_loop [6, 7] (fun n i => ∃ k : Nat, k ≤ 2 ∧ i = .int .i64 (k + 1) ∧ n = .int .u64 (restVal s k)) (fun _ i => 3 - (intOf i).toNat)
  case atStart => exact ⟨0, Nat.zero_le _, rfl, rfl⟩
  case round =>
    obtain ⟨k, hk, rfl, rfl⟩ := hrel
    by_cases hlt : k < 2
    · have hv : restVal s k < 256 ^ 7 := Nat.lt_of_lt_of_le (restVal_lt s k) (Nat.pow_le_pow_right (by omega) (by omega))
      have hks : k + 1 < s.size := by omega
      go_wp2
      go_round
      case rel => exact ⟨k + 1, by omega, by go_num, rest_step s k (by omega) hks⟩
      case measure => simp [intOf]; omega
    · obtain rfl : k = 2 := by omega
      have hlt2 := restVal_lt s 2
      have hq64 : restVal s 2 < 18446744073709551616 := by omega
      have HQ := Lib.hid hq64; clear hq64 hlt2
      by_cases hq : 256 ≤ restVal s 2
      · have hf := read_facts_2 s h0 m HC.out hlen hq
        have HF := Lib.hid hf; clear hf
        have HQQ := Lib.hid hq; clear hq
        go_wp2
        go_region_with (go_at_call 32; refine (refHead_any m _ _ h7 HQ.out).mono ?_; rw [HF.out.1]; rintro e w' ⟨rfl, hb⟩; obtain ⟨hrc, hbw⟩ := got_kept hb; have hz := hb.size; clear hb)
        obtain ⟨r0, r1, r2, r3⟩ := got4 hrc
        have hfz : ∀ i, w'.frozen? ⟨w.heap.size, i, none⟩ = false := free4 hrc
        obtain ⟨q0, q1, q2, q3⟩ := got4 (a := 3) (b := m) (c := restVal s 2) (d := false) (set4 _ _ _ _ hrc)
        have HB := Lib.hid hbw; clear hbw hrc
        go_wp2
        rw [HF.out.2]
        refine bodyPost_ret (v := .agg #[.int .i64 3, .int .i64 m, .int .u64 (restVal s 2), .bool false]) (by simp [results, Try.results33, go_sem, q0, q1, q2, q3]) rfl ⟨rfl, (((HB.out.setCell (by simp) _).setCell (by simp) _).setCell (by simp) _).setCell (by simp) _⟩
      · have hf := read_misses_2 s h0 m HC.out hlen (by omega)
        have hne : (headOf m (restVal s 2) == (s.extract 0 3).toList) = false := by
          have h1 := hf.1
          rw [Lib.toList_data] at h1
          exact h1
        have HF := Lib.hid hf; clear hf
        have HQQ := Lib.hid hq; clear hq
        go_wp2
        go_region_with (go_at_call 32; refine (refHead_any m _ _ h7 HQ.out).mono ?_; rintro e w' ⟨rfl, hb⟩; obtain ⟨hrc, hbw⟩ := got_kept hb; have hz := hb.size; clear hb)
        obtain ⟨r0, r1, r2, r3⟩ := got4 hrc
        have hfz : ∀ i, w'.frozen? ⟨w.heap.size, i, none⟩ = false := free4 hrc
        obtain ⟨q0, q1, q2, q3⟩ := got4 (a := 0) (b := 0) (c := 0) (d := false) (set4 _ _ _ _ hrc)
        have HB := Lib.hid hbw; clear hbw hrc
        go_wp2
        rw [HF.out.2]
        refine bodyPost_ret (v := .agg #[.int .i64 0, .int .i64 0, .int .u64 0, .bool false]) (by simp [results, Try.results33, go_sem, q0, q1, q2, q3]) rfl ⟨rfl, (((HB.out.setCell (by simp) _).setCell (by simp) _).setCell (by simp) _).setCell (by simp) _⟩

end Go.Proofs.Ytpmepnejjjlodaa
