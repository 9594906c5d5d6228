/-
  The contract of the reference reader's Do where a string is read. Conditions: its text is no longer than memory allows, its offset lies within it.
-/
import Derived.Test.YtkaeklcmhoidjaaR
namespace Go.Proofs.Ytkaeklcmhoidjaa
open Go.ChangeShapes Go.WideShapes Go.ChangeAt Go.RowKit
open Plain
set_option linter.unusedVariables false

set_option maxHeartbeats 1000000 in
theorem do_str_form_2 (s : ByteArray) (p : Nat) (bad : Int) (kind : Nat) (k : Int) (w : World) (m n : Nat) (o : Bool) (z : Nat) (hk : (kind : Int) % 6 = 2) (hs : s.size ≤ maxLen) (hz1 : 1 ≤ z) (hz9 : z ≤ 9) (hle : p + z ≤ s.size) (hn64 : n < 18446744073709551616) (hr : ReadsAs s p (some ⟨m, n, o, z⟩)) (hm : m ≠ 2) :
    Calls Try.prog 19 #[refV s p bad 0, .agg #[.int .u8 kind, .int .i64 k]] w fun e w' => e = .returned (.tuple #[refV s p p 2, toldV 0 0 false ⟨#[]⟩ 0]) ∧ Below w.heap.size w w' := by
  have hf := refFail_any s p bad 0 2
  have HF := Lib.hid hf; clear hf
  have HR := Lib.hid hr; clear hr
  unfold refV toldV
  have HS := Lib.hid hs
  unfold maxLen at hs
  have HN64 := Lib.hid hn64; clear hn64
  have hpI : (p : Int) ≤ (s.size : Int) := by omega
  have gz : ((z : Int) == 0) = false := by simp; omega
  have gm : ((m : Int) != 2) = true := by simp; omega
  have HM := Lib.hid hm; clear hm
  go_enter Try.func19, Try.ntmps19
  go_wp2_with fail
  refine (HR.out _).mono ?_
  unfold gotV
  dsimp only
  rintro e w1 ⟨rfl, hb1⟩
  have h4 := (Four.begin_ w s p bad 0 kind k).call hb1
  obtain ⟨a0, a1, a2, a3, b0, b1⟩ := h4.cells
  obtain ⟨z0, z1, z2, z3⟩ := h4.sizes
  have H4 := Lib.hid h4; clear h4 hb1
  go_wp2_with fail
  refine (HF.out _).mono ?_
  unfold refV toldV
  rintro e w2 ⟨rfl, hb2⟩
  have h4 := ((H4.out.alloc _).alloc _).call hb2
  clear a0 a1 a2 a3 b0 b1 z0 z1 z2 z3 hb2
  obtain ⟨r0, r1, r2, r3, q0, q1, q2, q3, q4, f0, f1⟩ := h4.results
  have HB := Lib.hid h4.below; clear h4
  go_wp2
  refine bodyPost_ret (v := .tuple #[.agg #[.string s, .int .i64 p, .int .i64 p, .int .i64 2], .agg #[.int .i64 0, .int .u64 0, .bool false, .string ⟨#[]⟩, .int .i64 0]]) ?r1 rfl ⟨rfl, ?r2⟩
  case r1 => simp [results, Try.results19, go_sem, r0, r1, r2, r3, q0, q1, q2, q3, q4]
  case r2 =>
    repeat (first | (with_reducible refine Below.setCell ?_ (by dsimp only; omega) _) | (with_reducible refine Below.drew ?_) | (with_reducible refine below_more ?_ _))
    exact HB.out

set_option maxHeartbeats 1000000 in
theorem do_str_open_2 (s : ByteArray) (p : Nat) (bad : Int) (kind : Nat) (k : Int) (w : World) (m n : Nat) (o : Bool) (z : Nat) (hk : (kind : Int) % 6 = 2) (hs : s.size ≤ maxLen) (hz1 : 1 ≤ z) (hz9 : z ≤ 9) (hle : p + z ≤ s.size) (hn64 : n < 18446744073709551616) (hr : ReadsAs s p (some ⟨m, n, o, z⟩)) (hm : m = 2) (ho : o = true) :
    Calls Try.prog 19 #[refV s p bad 0, .agg #[.int .u8 kind, .int .i64 k]] w fun e w' => e = .returned (.tuple #[refV s p p 2, toldV 0 0 false ⟨#[]⟩ 0]) ∧ Below w.heap.size w w' := by
  have hf := refFail_any s p bad 0 2
  have HF := Lib.hid hf; clear hf
  have HR := Lib.hid hr; clear hr
  unfold refV toldV
  have HS := Lib.hid hs
  unfold maxLen at hs
  have HN64 := Lib.hid hn64; clear hn64
  have hpI : (p : Int) ≤ (s.size : Int) := by omega
  have gz : ((z : Int) == 0) = false := by simp; omega
  subst hm
  subst ho
  go_enter Try.func19, Try.ntmps19
  go_wp2_with fail
  refine (HR.out _).mono ?_
  unfold gotV
  dsimp only
  rintro e w1 ⟨rfl, hb1⟩
  have h4 := (Four.begin_ w s p bad 0 kind k).call hb1
  obtain ⟨a0, a1, a2, a3, b0, b1⟩ := h4.cells
  obtain ⟨z0, z1, z2, z3⟩ := h4.sizes
  have H4 := Lib.hid h4; clear h4 hb1
  go_wp2_with fail
  refine (HF.out _).mono ?_
  unfold refV toldV
  rintro e w2 ⟨rfl, hb2⟩
  have h4 := ((H4.out.alloc _).alloc _).call hb2
  clear a0 a1 a2 a3 b0 b1 z0 z1 z2 z3 hb2
  obtain ⟨r0, r1, r2, r3, q0, q1, q2, q3, q4, f0, f1⟩ := h4.results
  have HB := Lib.hid h4.below; clear h4
  go_wp2
  refine bodyPost_ret (v := .tuple #[.agg #[.string s, .int .i64 p, .int .i64 p, .int .i64 2], .agg #[.int .i64 0, .int .u64 0, .bool false, .string ⟨#[]⟩, .int .i64 0]]) ?r1 rfl ⟨rfl, ?r2⟩
  case r1 => simp [results, Try.results19, go_sem, r0, r1, r2, r3, q0, q1, q2, q3, q4]
  case r2 =>
    repeat (first | (with_reducible refine Below.setCell ?_ (by dsimp only; omega) _) | (with_reducible refine Below.drew ?_) | (with_reducible refine below_more ?_ _))
    exact HB.out

set_option maxHeartbeats 1000000 in
theorem do_str_short_2 (s : ByteArray) (p : Nat) (bad : Int) (kind : Nat) (k : Int) (w : World) (m n : Nat) (o : Bool) (z : Nat) (hk : (kind : Int) % 6 = 2) (hs : s.size ≤ maxLen) (hz1 : 1 ≤ z) (hz9 : z ≤ 9) (hle : p + z ≤ s.size) (hn64 : n < 18446744073709551616) (hr : ReadsAs s p (some ⟨m, n, o, z⟩)) (hm : m = 2) (ho : o = false) (hn : s.size - (p + z) < n) :
    Calls Try.prog 19 #[refV s p bad 0, .agg #[.int .u8 kind, .int .i64 k]] w fun e w' => e = .returned (.tuple #[refV s p p 2, toldV 0 0 false ⟨#[]⟩ 0]) ∧ Below w.heap.size w w' := by
  have hf := refFail_any s p bad 0 2
  have HF := Lib.hid hf; clear hf
  have HR := Lib.hid hr; clear hr
  unfold refV toldV
  have HS := Lib.hid hs
  unfold maxLen at hs
  have HN64 := Lib.hid hn64; clear hn64
  have hpI : (p : Int) ≤ (s.size : Int) := by omega
  have gz : ((z : Int) == 0) = false := by simp; omega
  subst hm
  subst ho
  have gn : decide ((s.size : Int) - ((p : Int) + (z : Int)) < (n : Int)) = true := by simp; omega
  have HN := Lib.hid hn; clear hn
  go_enter Try.func19, Try.ntmps19
  go_wp2_with fail
  refine (HR.out _).mono ?_
  unfold gotV
  dsimp only
  rintro e w1 ⟨rfl, hb1⟩
  have h4 := (Four.begin_ w s p bad 0 kind k).call hb1
  obtain ⟨a0, a1, a2, a3, b0, b1⟩ := h4.cells
  obtain ⟨z0, z1, z2, z3⟩ := h4.sizes
  have H4 := Lib.hid h4; clear h4 hb1
  go_wp2_with fail
  refine (HF.out _).mono ?_
  unfold refV toldV
  rintro e w2 ⟨rfl, hb2⟩
  have h4 := ((H4.out.alloc _).alloc _).call hb2
  clear a0 a1 a2 a3 b0 b1 z0 z1 z2 z3 hb2
  obtain ⟨r0, r1, r2, r3, q0, q1, q2, q3, q4, f0, f1⟩ := h4.results
  have HB := Lib.hid h4.below; clear h4
  go_wp2
  refine bodyPost_ret (v := .tuple #[.agg #[.string s, .int .i64 p, .int .i64 p, .int .i64 2], .agg #[.int .i64 0, .int .u64 0, .bool false, .string ⟨#[]⟩, .int .i64 0]]) ?r1 rfl ⟨rfl, ?r2⟩
  case r1 => simp [results, Try.results19, go_sem, r0, r1, r2, r3, q0, q1, q2, q3, q4]
  case r2 =>
    repeat (first | (with_reducible refine Below.setCell ?_ (by dsimp only; omega) _) | (with_reducible refine Below.drew ?_) | (with_reducible refine below_more ?_ _))
    exact HB.out

set_option maxHeartbeats 1000000 in
theorem do_str_neg_2 (s : ByteArray) (p : Nat) (bad : Int) (kind : Nat) (k : Int) (w : World) (m n : Nat) (o : Bool) (z : Nat) (hk : (kind : Int) % 6 = 2) (hs : s.size ≤ maxLen) (hz1 : 1 ≤ z) (hz9 : z ≤ 9) (hle : p + z ≤ s.size) (hn64 : n < 18446744073709551616) (hr : ReadsAs s p (some ⟨m, n, o, z⟩)) (hm : m = 2) (ho : o = false) (hn : n ≤ s.size - (p + z)) (hk0 : k < 0) :
    Calls Try.prog 19 #[refV s p bad 0, .agg #[.int .u8 kind, .int .i64 k]] w fun e w' => e = .returned (.tuple #[refV s p p 4, toldV 0 0 false ⟨#[]⟩ 0]) ∧ Below w.heap.size w w' := by
  have hf := refFail_any s p bad 0 4
  have HF := Lib.hid hf; clear hf
  have HR := Lib.hid hr; clear hr
  unfold refV toldV
  have HS := Lib.hid hs
  unfold maxLen at hs
  have HN64 := Lib.hid hn64; clear hn64
  have hpI : (p : Int) ≤ (s.size : Int) := by omega
  have gz : ((z : Int) == 0) = false := by simp; omega
  subst hm
  subst ho
  have gn : decide ((s.size : Int) - ((p : Int) + (z : Int)) < (n : Int)) = false := by simp; omega
  have gk : decide (k < 0) = true := by simp; omega
  have HN := Lib.hid hn; clear hn
  go_enter Try.func19, Try.ntmps19
  go_wp2_with fail
  refine (HR.out _).mono ?_
  unfold gotV
  dsimp only
  rintro e w1 ⟨rfl, hb1⟩
  have h4 := (Four.begin_ w s p bad 0 kind k).call hb1
  obtain ⟨a0, a1, a2, a3, b0, b1⟩ := h4.cells
  obtain ⟨z0, z1, z2, z3⟩ := h4.sizes
  have H4 := Lib.hid h4; clear h4 hb1
  go_wp2_with fail
  refine (HF.out _).mono ?_
  unfold refV toldV
  rintro e w2 ⟨rfl, hb2⟩
  have h4 := ((H4.out.alloc _).alloc _).call hb2
  clear a0 a1 a2 a3 b0 b1 z0 z1 z2 z3 hb2
  obtain ⟨r0, r1, r2, r3, q0, q1, q2, q3, q4, f0, f1⟩ := h4.results
  have HB := Lib.hid h4.below; clear h4
  go_wp2
  refine bodyPost_ret (v := .tuple #[.agg #[.string s, .int .i64 p, .int .i64 p, .int .i64 4], .agg #[.int .i64 0, .int .u64 0, .bool false, .string ⟨#[]⟩, .int .i64 0]]) ?r1 rfl ⟨rfl, ?r2⟩
  case r1 => simp [results, Try.results19, go_sem, r0, r1, r2, r3, q0, q1, q2, q3, q4]
  case r2 =>
    repeat (first | (with_reducible refine Below.setCell ?_ (by dsimp only; omega) _) | (with_reducible refine Below.drew ?_) | (with_reducible refine below_more ?_ _))
    exact HB.out

set_option maxHeartbeats 1000000 in
theorem do_str_long_2 (s : ByteArray) (p : Nat) (bad : Int) (kind : Nat) (k : Int) (w : World) (m n : Nat) (o : Bool) (z : Nat) (hk : (kind : Int) % 6 = 2) (hs : s.size ≤ maxLen) (hz1 : 1 ≤ z) (hz9 : z ≤ 9) (hle : p + z ≤ s.size) (hn64 : n < 18446744073709551616) (hr : ReadsAs s p (some ⟨m, n, o, z⟩)) (hm : m = 2) (ho : o = false) (hn : n ≤ s.size - (p + z)) (hk0 : 0 ≤ k) (hkm : k ≤ 9223372036854775807) (hkn : k < n) :
    Calls Try.prog 19 #[refV s p bad 0, .agg #[.int .u8 kind, .int .i64 k]] w fun e w' => e = .returned (.tuple #[refV s p p 4, toldV 0 0 false ⟨#[]⟩ 0]) ∧ Below w.heap.size w w' := by
  have hf := refFail_any s p bad 0 4
  have HF := Lib.hid hf; clear hf
  have HR := Lib.hid hr; clear hr
  unfold refV toldV
  have HS := Lib.hid hs
  unfold maxLen at hs
  have HN64 := Lib.hid hn64; clear hn64
  have hpI : (p : Int) ≤ (s.size : Int) := by omega
  have gz : ((z : Int) == 0) = false := by simp; omega
  subst hm
  subst ho
  have gn : decide ((s.size : Int) - ((p : Int) + (z : Int)) < (n : Int)) = false := by simp; omega
  have gk : decide (k < 0) = false := by simp; omega
  have gkn : decide (k < (n : Int)) = true := by simp; omega
  have HN := Lib.hid hn; clear hn
  go_enter Try.func19, Try.ntmps19
  go_wp2_with fail
  refine (HR.out _).mono ?_
  unfold gotV
  dsimp only
  rintro e w1 ⟨rfl, hb1⟩
  have h4 := (Four.begin_ w s p bad 0 kind k).call hb1
  obtain ⟨a0, a1, a2, a3, b0, b1⟩ := h4.cells
  obtain ⟨z0, z1, z2, z3⟩ := h4.sizes
  have H4 := Lib.hid h4; clear h4 hb1
  go_wp2_with fail
  refine (HF.out _).mono ?_
  unfold refV toldV
  rintro e w2 ⟨rfl, hb2⟩
  have h4 := ((H4.out.alloc _).alloc _).call hb2
  clear a0 a1 a2 a3 b0 b1 z0 z1 z2 z3 hb2
  obtain ⟨r0, r1, r2, r3, q0, q1, q2, q3, q4, f0, f1⟩ := h4.results
  have HB := Lib.hid h4.below; clear h4
  go_wp2
  refine bodyPost_ret (v := .tuple #[.agg #[.string s, .int .i64 p, .int .i64 p, .int .i64 4], .agg #[.int .i64 0, .int .u64 0, .bool false, .string ⟨#[]⟩, .int .i64 0]]) ?r1 rfl ⟨rfl, ?r2⟩
  case r1 => simp [results, Try.results19, go_sem, r0, r1, r2, r3, q0, q1, q2, q3, q4]
  case r2 =>
    repeat (first | (with_reducible refine Below.setCell ?_ (by dsimp only; omega) _) | (with_reducible refine Below.drew ?_) | (with_reducible refine below_more ?_ _))
    exact HB.out

set_option maxHeartbeats 1000000 in
theorem do_str_form_3 (s : ByteArray) (p : Nat) (bad : Int) (kind : Nat) (k : Int) (w : World) (m n : Nat) (o : Bool) (z : Nat) (hk : (kind : Int) % 6 = 3) (hs : s.size ≤ maxLen) (hz1 : 1 ≤ z) (hz9 : z ≤ 9) (hle : p + z ≤ s.size) (hn64 : n < 18446744073709551616) (hr : ReadsAs s p (some ⟨m, n, o, z⟩)) (hm : m ≠ 3) :
    Calls Try.prog 19 #[refV s p bad 0, .agg #[.int .u8 kind, .int .i64 k]] w fun e w' => e = .returned (.tuple #[refV s p p 2, toldV 0 0 false ⟨#[]⟩ 0]) ∧ Below w.heap.size w w' := by
  have hf := refFail_any s p bad 0 2
  have HF := Lib.hid hf; clear hf
  have HR := Lib.hid hr; clear hr
  unfold refV toldV
  have HS := Lib.hid hs
  unfold maxLen at hs
  have HN64 := Lib.hid hn64; clear hn64
  have hpI : (p : Int) ≤ (s.size : Int) := by omega
  have gz : ((z : Int) == 0) = false := by simp; omega
  have gm : ((m : Int) != 3) = true := by simp; omega
  have HM := Lib.hid hm; clear hm
  go_enter Try.func19, Try.ntmps19
  go_wp2_with fail
  refine (HR.out _).mono ?_
  unfold gotV
  dsimp only
  rintro e w1 ⟨rfl, hb1⟩
  have h4 := (Four.begin_ w s p bad 0 kind k).call hb1
  obtain ⟨a0, a1, a2, a3, b0, b1⟩ := h4.cells
  obtain ⟨z0, z1, z2, z3⟩ := h4.sizes
  have H4 := Lib.hid h4; clear h4 hb1
  go_wp2_with fail
  refine (HF.out _).mono ?_
  unfold refV toldV
  rintro e w2 ⟨rfl, hb2⟩
  have h4 := ((H4.out.alloc _).alloc _).call hb2
  clear a0 a1 a2 a3 b0 b1 z0 z1 z2 z3 hb2
  obtain ⟨r0, r1, r2, r3, q0, q1, q2, q3, q4, f0, f1⟩ := h4.results
  have HB := Lib.hid h4.below; clear h4
  go_wp2
  refine bodyPost_ret (v := .tuple #[.agg #[.string s, .int .i64 p, .int .i64 p, .int .i64 2], .agg #[.int .i64 0, .int .u64 0, .bool false, .string ⟨#[]⟩, .int .i64 0]]) ?r1 rfl ⟨rfl, ?r2⟩
  case r1 => simp [results, Try.results19, go_sem, r0, r1, r2, r3, q0, q1, q2, q3, q4]
  case r2 =>
    repeat (first | (with_reducible refine Below.setCell ?_ (by dsimp only; omega) _) | (with_reducible refine Below.drew ?_) | (with_reducible refine below_more ?_ _))
    exact HB.out

set_option maxHeartbeats 1000000 in
theorem do_str_open_3 (s : ByteArray) (p : Nat) (bad : Int) (kind : Nat) (k : Int) (w : World) (m n : Nat) (o : Bool) (z : Nat) (hk : (kind : Int) % 6 = 3) (hs : s.size ≤ maxLen) (hz1 : 1 ≤ z) (hz9 : z ≤ 9) (hle : p + z ≤ s.size) (hn64 : n < 18446744073709551616) (hr : ReadsAs s p (some ⟨m, n, o, z⟩)) (hm : m = 3) (ho : o = true) :
    Calls Try.prog 19 #[refV s p bad 0, .agg #[.int .u8 kind, .int .i64 k]] w fun e w' => e = .returned (.tuple #[refV s p p 2, toldV 0 0 false ⟨#[]⟩ 0]) ∧ Below w.heap.size w w' := by
  have hf := refFail_any s p bad 0 2
  have HF := Lib.hid hf; clear hf
  have HR := Lib.hid hr; clear hr
  unfold refV toldV
  have HS := Lib.hid hs
  unfold maxLen at hs
  have HN64 := Lib.hid hn64; clear hn64
  have hpI : (p : Int) ≤ (s.size : Int) := by omega
  have gz : ((z : Int) == 0) = false := by simp; omega
  subst hm
  subst ho
  go_enter Try.func19, Try.ntmps19
  go_wp2_with fail
  refine (HR.out _).mono ?_
  unfold gotV
  dsimp only
  rintro e w1 ⟨rfl, hb1⟩
  have h4 := (Four.begin_ w s p bad 0 kind k).call hb1
  obtain ⟨a0, a1, a2, a3, b0, b1⟩ := h4.cells
  obtain ⟨z0, z1, z2, z3⟩ := h4.sizes
  have H4 := Lib.hid h4; clear h4 hb1
  go_wp2_with fail
  refine (HF.out _).mono ?_
  unfold refV toldV
  rintro e w2 ⟨rfl, hb2⟩
  have h4 := ((H4.out.alloc _).alloc _).call hb2
  clear a0 a1 a2 a3 b0 b1 z0 z1 z2 z3 hb2
  obtain ⟨r0, r1, r2, r3, q0, q1, q2, q3, q4, f0, f1⟩ := h4.results
  have HB := Lib.hid h4.below; clear h4
  go_wp2
  refine bodyPost_ret (v := .tuple #[.agg #[.string s, .int .i64 p, .int .i64 p, .int .i64 2], .agg #[.int .i64 0, .int .u64 0, .bool false, .string ⟨#[]⟩, .int .i64 0]]) ?r1 rfl ⟨rfl, ?r2⟩
  case r1 => simp [results, Try.results19, go_sem, r0, r1, r2, r3, q0, q1, q2, q3, q4]
  case r2 =>
    repeat (first | (with_reducible refine Below.setCell ?_ (by dsimp only; omega) _) | (with_reducible refine Below.drew ?_) | (with_reducible refine below_more ?_ _))
    exact HB.out

set_option maxHeartbeats 1000000 in
theorem do_str_short_3 (s : ByteArray) (p : Nat) (bad : Int) (kind : Nat) (k : Int) (w : World) (m n : Nat) (o : Bool) (z : Nat) (hk : (kind : Int) % 6 = 3) (hs : s.size ≤ maxLen) (hz1 : 1 ≤ z) (hz9 : z ≤ 9) (hle : p + z ≤ s.size) (hn64 : n < 18446744073709551616) (hr : ReadsAs s p (some ⟨m, n, o, z⟩)) (hm : m = 3) (ho : o = false) (hn : s.size - (p + z) < n) :
    Calls Try.prog 19 #[refV s p bad 0, .agg #[.int .u8 kind, .int .i64 k]] w fun e w' => e = .returned (.tuple #[refV s p p 2, toldV 0 0 false ⟨#[]⟩ 0]) ∧ Below w.heap.size w w' := by
  have hf := refFail_any s p bad 0 2
  have HF := Lib.hid hf; clear hf
  have HR := Lib.hid hr; clear hr
  unfold refV toldV
  have HS := Lib.hid hs
  unfold maxLen at hs
  have HN64 := Lib.hid hn64; clear hn64
  have hpI : (p : Int) ≤ (s.size : Int) := by omega
  have gz : ((z : Int) == 0) = false := by simp; omega
  subst hm
  subst ho
  have gn : decide ((s.size : Int) - ((p : Int) + (z : Int)) < (n : Int)) = true := by simp; omega
  have HN := Lib.hid hn; clear hn
  go_enter Try.func19, Try.ntmps19
  go_wp2_with fail
  refine (HR.out _).mono ?_
  unfold gotV
  dsimp only
  rintro e w1 ⟨rfl, hb1⟩
  have h4 := (Four.begin_ w s p bad 0 kind k).call hb1
  obtain ⟨a0, a1, a2, a3, b0, b1⟩ := h4.cells
  obtain ⟨z0, z1, z2, z3⟩ := h4.sizes
  have H4 := Lib.hid h4; clear h4 hb1
  go_wp2_with fail
  refine (HF.out _).mono ?_
  unfold refV toldV
  rintro e w2 ⟨rfl, hb2⟩
  have h4 := ((H4.out.alloc _).alloc _).call hb2
  clear a0 a1 a2 a3 b0 b1 z0 z1 z2 z3 hb2
  obtain ⟨r0, r1, r2, r3, q0, q1, q2, q3, q4, f0, f1⟩ := h4.results
  have HB := Lib.hid h4.below; clear h4
  go_wp2
  refine bodyPost_ret (v := .tuple #[.agg #[.string s, .int .i64 p, .int .i64 p, .int .i64 2], .agg #[.int .i64 0, .int .u64 0, .bool false, .string ⟨#[]⟩, .int .i64 0]]) ?r1 rfl ⟨rfl, ?r2⟩
  case r1 => simp [results, Try.results19, go_sem, r0, r1, r2, r3, q0, q1, q2, q3, q4]
  case r2 =>
    repeat (first | (with_reducible refine Below.setCell ?_ (by dsimp only; omega) _) | (with_reducible refine Below.drew ?_) | (with_reducible refine below_more ?_ _))
    exact HB.out

set_option maxHeartbeats 1000000 in
theorem do_str_neg_3 (s : ByteArray) (p : Nat) (bad : Int) (kind : Nat) (k : Int) (w : World) (m n : Nat) (o : Bool) (z : Nat) (hk : (kind : Int) % 6 = 3) (hs : s.size ≤ maxLen) (hz1 : 1 ≤ z) (hz9 : z ≤ 9) (hle : p + z ≤ s.size) (hn64 : n < 18446744073709551616) (hr : ReadsAs s p (some ⟨m, n, o, z⟩)) (hm : m = 3) (ho : o = false) (hn : n ≤ s.size - (p + z)) (hk0 : k < 0) :
    Calls Try.prog 19 #[refV s p bad 0, .agg #[.int .u8 kind, .int .i64 k]] w fun e w' => e = .returned (.tuple #[refV s p p 4, toldV 0 0 false ⟨#[]⟩ 0]) ∧ Below w.heap.size w w' := by
  have hf := refFail_any s p bad 0 4
  have HF := Lib.hid hf; clear hf
  have HR := Lib.hid hr; clear hr
  unfold refV toldV
  have HS := Lib.hid hs
  unfold maxLen at hs
  have HN64 := Lib.hid hn64; clear hn64
  have hpI : (p : Int) ≤ (s.size : Int) := by omega
  have gz : ((z : Int) == 0) = false := by simp; omega
  subst hm
  subst ho
  have gn : decide ((s.size : Int) - ((p : Int) + (z : Int)) < (n : Int)) = false := by simp; omega
  have gk : decide (k < 0) = true := by simp; omega
  have HN := Lib.hid hn; clear hn
  go_enter Try.func19, Try.ntmps19
  go_wp2_with fail
  refine (HR.out _).mono ?_
  unfold gotV
  dsimp only
  rintro e w1 ⟨rfl, hb1⟩
  have h4 := (Four.begin_ w s p bad 0 kind k).call hb1
  obtain ⟨a0, a1, a2, a3, b0, b1⟩ := h4.cells
  obtain ⟨z0, z1, z2, z3⟩ := h4.sizes
  have H4 := Lib.hid h4; clear h4 hb1
  go_wp2_with fail
  refine (HF.out _).mono ?_
  unfold refV toldV
  rintro e w2 ⟨rfl, hb2⟩
  have h4 := ((H4.out.alloc _).alloc _).call hb2
  clear a0 a1 a2 a3 b0 b1 z0 z1 z2 z3 hb2
  obtain ⟨r0, r1, r2, r3, q0, q1, q2, q3, q4, f0, f1⟩ := h4.results
  have HB := Lib.hid h4.below; clear h4
  go_wp2
  refine bodyPost_ret (v := .tuple #[.agg #[.string s, .int .i64 p, .int .i64 p, .int .i64 4], .agg #[.int .i64 0, .int .u64 0, .bool false, .string ⟨#[]⟩, .int .i64 0]]) ?r1 rfl ⟨rfl, ?r2⟩
  case r1 => simp [results, Try.results19, go_sem, r0, r1, r2, r3, q0, q1, q2, q3, q4]
  case r2 =>
    repeat (first | (with_reducible refine Below.setCell ?_ (by dsimp only; omega) _) | (with_reducible refine Below.drew ?_) | (with_reducible refine below_more ?_ _))
    exact HB.out

set_option maxHeartbeats 1000000 in
theorem do_str_long_3 (s : ByteArray) (p : Nat) (bad : Int) (kind : Nat) (k : Int) (w : World) (m n : Nat) (o : Bool) (z : Nat) (hk : (kind : Int) % 6 = 3) (hs : s.size ≤ maxLen) (hz1 : 1 ≤ z) (hz9 : z ≤ 9) (hle : p + z ≤ s.size) (hn64 : n < 18446744073709551616) (hr : ReadsAs s p (some ⟨m, n, o, z⟩)) (hm : m = 3) (ho : o = false) (hn : n ≤ s.size - (p + z)) (hk0 : 0 ≤ k) (hkm : k ≤ 9223372036854775807) (hkn : k < n) :
    Calls Try.prog 19 #[refV s p bad 0, .agg #[.int .u8 kind, .int .i64 k]] w fun e w' => e = .returned (.tuple #[refV s p p 4, toldV 0 0 false ⟨#[]⟩ 0]) ∧ Below w.heap.size w w' := by
  have hf := refFail_any s p bad 0 4
  have HF := Lib.hid hf; clear hf
  have HR := Lib.hid hr; clear hr
  unfold refV toldV
  have HS := Lib.hid hs
  unfold maxLen at hs
  have HN64 := Lib.hid hn64; clear hn64
  have hpI : (p : Int) ≤ (s.size : Int) := by omega
  have gz : ((z : Int) == 0) = false := by simp; omega
  subst hm
  subst ho
  have gn : decide ((s.size : Int) - ((p : Int) + (z : Int)) < (n : Int)) = false := by simp; omega
  have gk : decide (k < 0) = false := by simp; omega
  have gkn : decide (k < (n : Int)) = true := by simp; omega
  have HN := Lib.hid hn; clear hn
  go_enter Try.func19, Try.ntmps19
  go_wp2_with fail
  refine (HR.out _).mono ?_
  unfold gotV
  dsimp only
  rintro e w1 ⟨rfl, hb1⟩
  have h4 := (Four.begin_ w s p bad 0 kind k).call hb1
  obtain ⟨a0, a1, a2, a3, b0, b1⟩ := h4.cells
  obtain ⟨z0, z1, z2, z3⟩ := h4.sizes
  have H4 := Lib.hid h4; clear h4 hb1
  go_wp2_with fail
  refine (HF.out _).mono ?_
  unfold refV toldV
  rintro e w2 ⟨rfl, hb2⟩
  have h4 := ((H4.out.alloc _).alloc _).call hb2
  clear a0 a1 a2 a3 b0 b1 z0 z1 z2 z3 hb2
  obtain ⟨r0, r1, r2, r3, q0, q1, q2, q3, q4, f0, f1⟩ := h4.results
  have HB := Lib.hid h4.below; clear h4
  go_wp2
  refine bodyPost_ret (v := .tuple #[.agg #[.string s, .int .i64 p, .int .i64 p, .int .i64 4], .agg #[.int .i64 0, .int .u64 0, .bool false, .string ⟨#[]⟩, .int .i64 0]]) ?r1 rfl ⟨rfl, ?r2⟩
  case r1 => simp [results, Try.results19, go_sem, r0, r1, r2, r3, q0, q1, q2, q3, q4]
  case r2 =>
    repeat (first | (with_reducible refine Below.setCell ?_ (by dsimp only; omega) _) | (with_reducible refine Below.drew ?_) | (with_reducible refine below_more ?_ _))
    exact HB.out

end Go.Proofs.Ytkaeklcmhoidjaa
