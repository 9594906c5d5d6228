/-
  The contract of the reference reader's Do where a string is read. Conditions: its text is no longer than memory allows, its offset lies within it.
-/
import Derived.Test.YtkaeklcmhoidjaaR
namespace Go.Proofs.Ytkaeklcmhoidjaa
open Go.ChangeShapes Go.WideShapes Go.ChangeAt Go.RowKit
open Plain
set_option linter.unusedVariables false

set_option maxHeartbeats 1000000 in
theorem do_str_2 (s : ByteArray) (p : Nat) (bad : Int) (kind : Nat) (k : Int) (w : World) (m n : Nat) (o : Bool) (z : Nat) (hk : (kind : Int) % 6 = 2) (hs : s.size ≤ maxLen) (hz1 : 1 ≤ z) (hz9 : z ≤ 9) (hle : p + z ≤ s.size) (hn64 : n < 18446744073709551616) (hr : ReadsAs s p (some ⟨m, n, o, z⟩)) (hm : m = 2) (ho : o = false) (hn : n ≤ s.size - (p + z)) (hk0 : 0 ≤ k) (hkm : k ≤ 9223372036854775807) (hkn : n ≤ k) :
    Calls Try.prog 19 #[refV s p bad 0, .agg #[.int .u8 kind, .int .i64 k]] w fun e w' => e = .returned (.tuple #[refV s (p + z + n) (-1) 0, toldV 0 0 false (s.extract (p + z) (p + z + n)) 0]) ∧ Below w.heap.size w w' := by
  have HR := Lib.hid hr; clear hr
  unfold refV toldV
  have HS := Lib.hid hs
  unfold maxLen at hs
  have HN64 := Lib.hid hn64; clear hn64
  have hpI : (p : Int) ≤ (s.size : Int) := by omega
  have gz : ((z : Int) == 0) = false := by simp; omega
  subst hm
  subst ho
  have gn : decide ((s.size : Int) - ((p : Int) + (z : Int)) < (n : Int)) = false := by simp; omega
  have gk : decide (k < 0) = false := by simp; omega
  have gkn : decide (k < (n : Int)) = false := by simp; omega
  have hnI : (n : Int) ≤ 9223372036854775807 := by omega
  have hnS : (p : Int) + (z : Int) + (n : Int) ≤ (s.size : Int) := by omega
  go_enter Try.func19, Try.ntmps19
  go_wp2_with fail
  refine (HR.out _).mono ?_
  unfold gotV
  dsimp only
  rintro e w1 ⟨rfl, hb1⟩
  have h4 := (Four.begin_ w s p bad 0 kind k).call hb1
  obtain ⟨a0, a1, a2, a3, b0, b1⟩ := h4.cells
  obtain ⟨z0, z1, z2, z3⟩ := h4.sizes
  obtain ⟨r0, r1, r2, r3, q0, q1, q2, q3, q4, f0, f1⟩ := h4.results
  have HB := Lib.hid h4.below
  have H4 := Lib.hid h4; clear h4 hb1
  go_wp2
  refine bodyPost_ret (v := .tuple #[.agg #[.string s, .int .i64 (p + z + n), .int .i64 (-1), .int .i64 0], .agg #[.int .i64 0, .int .u64 0, .bool false, .string (s.extract (p + z) (p + z + n)), .int .i64 0]]) ?r1 rfl ⟨rfl, ?r2⟩
  case r1 =>
    obtain ⟨k0, k1, k2, k3, k4, k5, k6, k7, k8⟩ := H4.out.end_ (.string s) (.int .i64 (p + z + n)) (.int .i64 (-1)) (.int .i64 0) (.int .i64 0) (.int .u64 0) (.bool false) (.string (s.extract (p + z) (p + z + n))) (.int .i64 0) (.cells #[.int .i64 z, .int .i64 2, .int .u64 n, .bool false] 58) (.cells #[.string s, .int .i64 (p + z + n), .int .i64 (-1), .int .i64 0] 36) _ rfl
    simp [results, Try.results19, go_sem, k0, k1, k2, k3, k4, k5, k6, k7, k8]
  case r2 =>
    repeat (first | (with_reducible refine Below.setCell ?_ (by dsimp only; omega) _) | (with_reducible refine Below.drew ?_) | (with_reducible refine below_more ?_ _))
    exact HB.out

set_option maxHeartbeats 1000000 in
theorem do_str_3 (s : ByteArray) (p : Nat) (bad : Int) (kind : Nat) (k : Int) (w : World) (m n : Nat) (o : Bool) (z : Nat) (hk : (kind : Int) % 6 = 3) (hs : s.size ≤ maxLen) (hz1 : 1 ≤ z) (hz9 : z ≤ 9) (hle : p + z ≤ s.size) (hn64 : n < 18446744073709551616) (hr : ReadsAs s p (some ⟨m, n, o, z⟩)) (hm : m = 3) (ho : o = false) (hn : n ≤ s.size - (p + z)) (hk0 : 0 ≤ k) (hkm : k ≤ 9223372036854775807) (hkn : n ≤ k) :
    Calls Try.prog 19 #[refV s p bad 0, .agg #[.int .u8 kind, .int .i64 k]] w fun e w' => e = .returned (.tuple #[refV s (p + z + n) (-1) 0, toldV 0 0 false (s.extract (p + z) (p + z + n)) 0]) ∧ Below w.heap.size w w' := by
  have HR := Lib.hid hr; clear hr
  unfold refV toldV
  have HS := Lib.hid hs
  unfold maxLen at hs
  have HN64 := Lib.hid hn64; clear hn64
  have hpI : (p : Int) ≤ (s.size : Int) := by omega
  have gz : ((z : Int) == 0) = false := by simp; omega
  subst hm
  subst ho
  have gn : decide ((s.size : Int) - ((p : Int) + (z : Int)) < (n : Int)) = false := by simp; omega
  have gk : decide (k < 0) = false := by simp; omega
  have gkn : decide (k < (n : Int)) = false := by simp; omega
  have hnI : (n : Int) ≤ 9223372036854775807 := by omega
  have hnS : (p : Int) + (z : Int) + (n : Int) ≤ (s.size : Int) := by omega
  go_enter Try.func19, Try.ntmps19
  go_wp2_with fail
  refine (HR.out _).mono ?_
  unfold gotV
  dsimp only
  rintro e w1 ⟨rfl, hb1⟩
  have h4 := (Four.begin_ w s p bad 0 kind k).call hb1
  obtain ⟨a0, a1, a2, a3, b0, b1⟩ := h4.cells
  obtain ⟨z0, z1, z2, z3⟩ := h4.sizes
  obtain ⟨r0, r1, r2, r3, q0, q1, q2, q3, q4, f0, f1⟩ := h4.results
  have HB := Lib.hid h4.below
  have H4 := Lib.hid h4; clear h4 hb1
  go_wp2
  refine bodyPost_ret (v := .tuple #[.agg #[.string s, .int .i64 (p + z + n), .int .i64 (-1), .int .i64 0], .agg #[.int .i64 0, .int .u64 0, .bool false, .string (s.extract (p + z) (p + z + n)), .int .i64 0]]) ?r1 rfl ⟨rfl, ?r2⟩
  case r1 =>
    obtain ⟨k0, k1, k2, k3, k4, k5, k6, k7, k8⟩ := H4.out.end_ (.string s) (.int .i64 (p + z + n)) (.int .i64 (-1)) (.int .i64 0) (.int .i64 0) (.int .u64 0) (.bool false) (.string (s.extract (p + z) (p + z + n))) (.int .i64 0) (.cells #[.int .i64 z, .int .i64 3, .int .u64 n, .bool false] 58) (.cells #[.string s, .int .i64 (p + z + n), .int .i64 (-1), .int .i64 0] 36) _ rfl
    simp [results, Try.results19, go_sem, k0, k1, k2, k3, k4, k5, k6, k7, k8]
  case r2 =>
    repeat (first | (with_reducible refine Below.setCell ?_ (by dsimp only; omega) _) | (with_reducible refine Below.drew ?_) | (with_reducible refine below_more ?_ _))
    exact HB.out

end Go.Proofs.Ytkaeklcmhoidjaa
