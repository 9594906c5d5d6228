/-
  The contract of dromondref01.Read: the head with which bytes begin. Conditions: the string is no longer than memory allows.
-/
import Derived.Test.YtpmepnejjjlodaaM
import Derived.Test.YtpmepnejjjlodaaN
namespace Go.Proofs.Ytpmepnejjjlodaa
open Go.ChangeShapes Go.WideShapes Go.ChangeAt Go.RowKit
open Plain
set_option linter.unusedVariables false

set_option maxHeartbeats 1000000 in
set_option maxRecDepth 100000 in
theorem read_long_4 (s : ByteArray) (w : World) (hs : s.size ≤ maxLen) (h0 : 0 < s.size) (m : Nat) (hc : Cut s h0 m 26) (hlen : 5 ≤ s.size) :
    Calls Try.prog 33 #[.string s] w fun e w' => e = .returned (gotV (headL s.data.toList)) ∧ Below w.heap.size w w' := by
  have he : s.toList.isEmpty = false := by rw [Lib.toList_data, hc.list]; rfl
  have hd := hc.div
  have hm := hc.mod
  have h7 := hc.m7
  have HC := Lib.hid hc; clear hc
  unfold maxLen at hs
  have g : decide ((s.size : Int) < 5) = false := by simp; omega
  have gI : (5 : Int) ≤ (s.size : Int) := by omega
  have gW : IntKind.i64.wrap 5 = 5 := by rw [IntKind.wrap_i64]; omega
  go_enter Try.func33, Try.ntmps33
  go_wp2
  go_region
  go_wp2
  rw [hd]
  clear hd hm
  go_loop [6, 7] (fun n i => ∃ k : Nat, k ≤ 4 ∧ i = .int .i64 (k + 1) ∧ n = .int .u64 (restVal s k)) (fun _ i => 5 - (intOf i).toNat)
  case atStart => exact ⟨0, Nat.zero_le _, rfl, rfl⟩
  case round =>
    obtain ⟨k, hk, rfl, rfl⟩ := hrel
    by_cases hlt : k < 4
    · have hv : restVal s k < 256 ^ 7 := Nat.lt_of_lt_of_le (restVal_lt s k) (Nat.pow_le_pow_right (by omega) (by omega))
      have hks : k + 1 < s.size := by omega
      go_wp2
      go_round
      case rel => exact ⟨k + 1, by omega, by go_num, rest_step s k (by omega) hks⟩
      case measure => simp [intOf]; omega
    · obtain rfl : k = 4 := by omega
      have hlt2 := restVal_lt s 4
      have hq64 : restVal s 4 < 18446744073709551616 := by omega
      have HQ := Lib.hid hq64; clear hq64 hlt2
      by_cases hq : 65536 ≤ restVal s 4
      · have hf := read_facts_4 s h0 m HC.out hlen hq
        have HF := Lib.hid hf; clear hf
        have HQQ := Lib.hid hq; clear hq
        go_wp2
        go_region_with (go_at_call 32; refine (refHead_any m _ _ h7 HQ.out).mono ?_; rw [HF.out.1]; rintro e w' ⟨rfl, hb⟩; obtain ⟨hrc, hbw⟩ := got_kept hb; have hz := hb.size; clear hb)
        obtain ⟨r0, r1, r2, r3⟩ := got4 hrc
        have hfz : ∀ i, w'.frozen? ⟨w.heap.size, i, none⟩ = false := free4 hrc
        obtain ⟨q0, q1, q2, q3⟩ := got4 (a := 5) (b := m) (c := restVal s 4) (d := false) (set4 _ _ _ _ hrc)
        have HB := Lib.hid hbw; clear hbw hrc
        go_wp2
        rw [HF.out.2]
        refine bodyPost_ret (v := .agg #[.int .i64 5, .int .i64 m, .int .u64 (restVal s 4), .bool false]) (by simp [results, Try.results33, go_sem, q0, q1, q2, q3]) rfl ⟨rfl, (((HB.out.setCell (by simp) _).setCell (by simp) _).setCell (by simp) _).setCell (by simp) _⟩
      · have hf := read_misses_4 s h0 m HC.out hlen (by omega)
        have hne : (headOf m (restVal s 4) == (s.extract 0 5).toList) = false := by
          have h1 := hf.1
          rw [Lib.toList_data] at h1
          exact h1
        have HF := Lib.hid hf; clear hf
        have HQQ := Lib.hid hq; clear hq
        go_wp2
        go_region_with (go_at_call 32; refine (refHead_any m _ _ h7 HQ.out).mono ?_; rintro e w' ⟨rfl, hb⟩; obtain ⟨hrc, hbw⟩ := got_kept hb; have hz := hb.size; clear hb)
        obtain ⟨r0, r1, r2, r3⟩ := got4 hrc
        have hfz : ∀ i, w'.frozen? ⟨w.heap.size, i, none⟩ = false := free4 hrc
        obtain ⟨q0, q1, q2, q3⟩ := got4 (a := 0) (b := 0) (c := 0) (d := false) (set4 _ _ _ _ hrc)
        have HB := Lib.hid hbw; clear hbw hrc
        go_wp2
        rw [HF.out.2]
        refine bodyPost_ret (v := .agg #[.int .i64 0, .int .i64 0, .int .u64 0, .bool false]) (by simp [results, Try.results33, go_sem, q0, q1, q2, q3]) rfl ⟨rfl, (((HB.out.setCell (by simp) _).setCell (by simp) _).setCell (by simp) _).setCell (by simp) _⟩

set_option maxHeartbeats 1000000 in
set_option maxRecDepth 100000 in
theorem read_long_8 (s : ByteArray) (w : World) (hs : s.size ≤ maxLen) (h0 : 0 < s.size) (m : Nat) (hc : Cut s h0 m 27) (hlen : 9 ≤ s.size) :
    Calls Try.prog 33 #[.string s] w fun e w' => e = .returned (gotV (headL s.data.toList)) ∧ Below w.heap.size w w' := by
  have he : s.toList.isEmpty = false := by rw [Lib.toList_data, hc.list]; rfl
  have hd := hc.div
  have hm := hc.mod
  have h7 := hc.m7
  have HC := Lib.hid hc; clear hc
  unfold maxLen at hs
  have g : decide ((s.size : Int) < 9) = false := by simp; omega
  have gI : (9 : Int) ≤ (s.size : Int) := by omega
  have gW : IntKind.i64.wrap 9 = 9 := by rw [IntKind.wrap_i64]; omega
  go_enter Try.func33, Try.ntmps33
  go_wp2
  go_region
  go_wp2
  rw [hd]
  clear hd hm
  go_loop [6, 7] (fun n i => ∃ k : Nat, k ≤ 8 ∧ i = .int .i64 (k + 1) ∧ n = .int .u64 (restVal s k)) (fun _ i => 9 - (intOf i).toNat)
  case atStart => exact ⟨0, Nat.zero_le _, rfl, rfl⟩
  case round =>
    obtain ⟨k, hk, rfl, rfl⟩ := hrel
    by_cases hlt : k < 8
    · have hv : restVal s k < 256 ^ 7 := Nat.lt_of_lt_of_le (restVal_lt s k) (Nat.pow_le_pow_right (by omega) (by omega))
      have hks : k + 1 < s.size := by omega
      go_wp2
      go_round
      case rel => exact ⟨k + 1, by omega, by go_num, rest_step s k (by omega) hks⟩
      case measure => simp [intOf]; omega
    · obtain rfl : k = 8 := by omega
      have hlt2 := restVal_lt s 8
      have hq64 : restVal s 8 < 18446744073709551616 := by omega
      have HQ := Lib.hid hq64; clear hq64 hlt2
      by_cases hq : 4294967296 ≤ restVal s 8
      · have hf := read_facts_8 s h0 m HC.out hlen hq
        have HF := Lib.hid hf; clear hf
        have HQQ := Lib.hid hq; clear hq
        go_wp2
        go_region_with (go_at_call 32; refine (refHead_any m _ _ h7 HQ.out).mono ?_; rw [HF.out.1]; rintro e w' ⟨rfl, hb⟩; obtain ⟨hrc, hbw⟩ := got_kept hb; have hz := hb.size; clear hb)
        obtain ⟨r0, r1, r2, r3⟩ := got4 hrc
        have hfz : ∀ i, w'.frozen? ⟨w.heap.size, i, none⟩ = false := free4 hrc
        obtain ⟨q0, q1, q2, q3⟩ := got4 (a := 9) (b := m) (c := restVal s 8) (d := false) (set4 _ _ _ _ hrc)
        have HB := Lib.hid hbw; clear hbw hrc
        go_wp2
        rw [HF.out.2]
        refine bodyPost_ret (v := .agg #[.int .i64 9, .int .i64 m, .int .u64 (restVal s 8), .bool false]) (by simp [results, Try.results33, go_sem, q0, q1, q2, q3]) rfl ⟨rfl, (((HB.out.setCell (by simp) _).setCell (by simp) _).setCell (by simp) _).setCell (by simp) _⟩
      · have hf := read_misses_8 s h0 m HC.out hlen (by omega)
        have hne : (headOf m (restVal s 8) == (s.extract 0 9).toList) = false := by
          have h1 := hf.1
          rw [Lib.toList_data] at h1
          exact h1
        have HF := Lib.hid hf; clear hf
        have HQQ := Lib.hid hq; clear hq
        go_wp2
        go_region_with (go_at_call 32; refine (refHead_any m _ _ h7 HQ.out).mono ?_; rintro e w' ⟨rfl, hb⟩; obtain ⟨hrc, hbw⟩ := got_kept hb; have hz := hb.size; clear hb)
        obtain ⟨r0, r1, r2, r3⟩ := got4 hrc
        have hfz : ∀ i, w'.frozen? ⟨w.heap.size, i, none⟩ = false := free4 hrc
        obtain ⟨q0, q1, q2, q3⟩ := got4 (a := 0) (b := 0) (c := 0) (d := false) (set4 _ _ _ _ hrc)
        have HB := Lib.hid hbw; clear hbw hrc
        go_wp2
        rw [HF.out.2]
        refine bodyPost_ret (v := .agg #[.int .i64 0, .int .i64 0, .int .u64 0, .bool false]) (by simp [results, Try.results33, go_sem, q0, q1, q2, q3]) rfl ⟨rfl, (((HB.out.setCell (by simp) _).setCell (by simp) _).setCell (by simp) _).setCell (by simp) _⟩

/-- dromondref01.Read: the head with which bytes begin. -/
theorem read_any (s : ByteArray) (w : World) (hs : s.size ≤ maxLen) : Calls Try.prog 33 #[.string s] w fun e w' => e = .returned (gotV (headL s.data.toList)) ∧ Below w.heap.size w w' := by
  rcases Nat.eq_zero_or_pos s.size with h | h0
  · exact read_empty s w h
  have hc := cut_of s h0
  have hl := hc.l32
  generalize s[0].toNat / 32 = m at hc
  generalize s[0].toNat % 32 = low at hc hl
  rcases (show low < 24 ∨ low = 24 ∨ low = 25 ∨ low = 26 ∨ low = 27 ∨ (28 ≤ low ∧ low < 31) ∨ low = 31 from by omega) with h1 | rfl | rfl | rfl | rfl | ⟨h1, h2⟩ | rfl
  · exact read_small s w hs h0 m low hc h1
  · rcases Nat.lt_or_ge s.size 2 with h | h
    · exact read_short_1 s w h0 m hc h
    · exact read_long_1 s w hs h0 m hc h
  · rcases Nat.lt_or_ge s.size 3 with h | h
    · exact read_short_2 s w h0 m hc h
    · exact read_long_2 s w hs h0 m hc h
  · rcases Nat.lt_or_ge s.size 5 with h | h
    · exact read_short_4 s w h0 m hc h
    · exact read_long_4 s w hs h0 m hc h
  · rcases Nat.lt_or_ge s.size 9 with h | h
    · exact read_short_8 s w h0 m hc h
    · exact read_long_8 s w hs h0 m hc h
  · exact refRead_bad s w hs h0 m low hc h1 h2
  · cases ho : opens (m : Int)
    · exact read_closed s w hs h0 m hc ho
    · exact read_open s w hs h0 m hc ho

end Go.Proofs.Ytpmepnejjjlodaa
