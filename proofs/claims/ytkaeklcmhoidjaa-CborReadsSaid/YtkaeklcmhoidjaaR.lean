/-
  The contract of the reference reader's Do where a head is found. Conditions: its text is no longer than memory allows, its offset lies within it.
-/
import Derived.Test.YtkaeklcmhoidjaaQ
namespace Go.Proofs.Ytkaeklcmhoidjaa
open Go.ChangeShapes Go.WideShapes Go.ChangeAt Go.RowKit
open Plain
set_option linter.unusedVariables false

theorem below_more {w X : World} (h : Below w.heap.size w X) (o : Obj) : Below w.heap.size w (X.alloc o) := h.alloc h.size o

theorem set5 {w : World} {g : Nat} {z0 z1 z2 z3 z4 : Value} {t : TypeId} (u0 u1 u2 u3 u4 : Value) (h : w.heap[g]? = some (.cells #[z0, z1, z2, z3, z4] t (0, 0))) :
    (((((w.setCell ⟨g, 0, none⟩ u0).setCell ⟨g, 1, none⟩ u1).setCell ⟨g, 2, none⟩ u2).setCell ⟨g, 3, none⟩ u3).setCell ⟨g, 4, none⟩ u4).heap[g]? = some (.cells #[u0, u1, u2, u3, u4] t (0, 0)) := by
  simp [World.setCell, Array.getElem?_modify, h]

theorem size_set (w : World) (a : Addr) (u : Value) : (w.setCell a u).heap.size = w.heap.size := by simp [World.setCell]

/-- The two results, stored, behind two new blocks. -/
theorem Four.end_ {w X : World} {s : ByteArray} {p bad c kind n : Int} (h : Four w X s p bad c kind n) (u0 u1 u2 u3 v0 v1 v2 v3 v4 : Value) (o1 o2 : Obj) (F : World)
    (hF : F = ((((((((((X.setCell ⟨w.heap.size + 1 + 1, 0, none⟩ u0).setCell ⟨w.heap.size + 1 + 1, 1, none⟩ u1).setCell ⟨w.heap.size + 1 + 1, 2, none⟩ u2).setCell ⟨w.heap.size + 1 + 1, 3, none⟩ u3).setCell ⟨w.heap.size + 1 + 1 + 1, 0, none⟩ v0).setCell ⟨w.heap.size + 1 + 1 + 1, 1, none⟩ v1).setCell ⟨w.heap.size + 1 + 1 + 1, 2, none⟩ v2).setCell ⟨w.heap.size + 1 + 1 + 1, 3, none⟩ v3).setCell ⟨w.heap.size + 1 + 1 + 1, 4, none⟩ v4).alloc o1).alloc o2) :
    F.cell? ⟨w.heap.size + 1 + 1, 0, none⟩ = some u0 ∧ F.cell? ⟨w.heap.size + 1 + 1, 1, none⟩ = some u1 ∧ F.cell? ⟨w.heap.size + 1 + 1, 2, none⟩ = some u2 ∧ F.cell? ⟨w.heap.size + 1 + 1, 3, none⟩ = some u3 ∧
    F.cell? ⟨w.heap.size + 1 + 1 + 1, 0, none⟩ = some v0 ∧ F.cell? ⟨w.heap.size + 1 + 1 + 1, 1, none⟩ = some v1 ∧ F.cell? ⟨w.heap.size + 1 + 1 + 1, 2, none⟩ = some v2 ∧ F.cell? ⟨w.heap.size + 1 + 1 + 1, 3, none⟩ = some v3 ∧ F.cell? ⟨w.heap.size + 1 + 1 + 1, 4, none⟩ = some v4 := by
  have hs := h.size
  have h1 := set4 u0 u1 u2 u3 h.c'
  have hd : ((((X.setCell ⟨w.heap.size + 1 + 1, 0, none⟩ u0).setCell ⟨w.heap.size + 1 + 1, 1, none⟩ u1).setCell ⟨w.heap.size + 1 + 1, 2, none⟩ u2).setCell ⟨w.heap.size + 1 + 1, 3, none⟩ u3).heap[w.heap.size + 1 + 1 + 1]? = some (.cells #[.int .i64 0, .int .u64 0, .bool false, .string ⟨#[]⟩, .int .i64 0] 38 (0, 0)) := by
    rw [Below.heap_setCell _ _ _ _ (by dsimp only; omega), Below.heap_setCell _ _ _ _ (by dsimp only; omega), Below.heap_setCell _ _ _ _ (by dsimp only; omega), Below.heap_setCell _ _ _ _ (by dsimp only; omega)]
    exact h.d
  have h2 := set5 v0 v1 v2 v3 v4 hd
  have e1 : F.heap[w.heap.size + 1 + 1]? = some (.cells #[u0, u1, u2, u3] 36 (0, 0)) := by
    rw [hF, Below.heap_alloc _ _ _ (by rw [World.size_alloc]; simp only [size_set]; omega), Below.heap_alloc _ _ _ (by simp only [size_set]; omega)]
    rw [Below.heap_setCell _ _ _ _ (by dsimp only; omega), Below.heap_setCell _ _ _ _ (by dsimp only; omega), Below.heap_setCell _ _ _ _ (by dsimp only; omega), Below.heap_setCell _ _ _ _ (by dsimp only; omega), Below.heap_setCell _ _ _ _ (by dsimp only; omega)]
    exact h1
  have e2 : F.heap[w.heap.size + 1 + 1 + 1]? = some (.cells #[v0, v1, v2, v3, v4] 38 (0, 0)) := by
    rw [hF, Below.heap_alloc _ _ _ (by rw [World.size_alloc]; simp only [size_set]; omega), Below.heap_alloc _ _ _ (by simp only [size_set]; omega)]
    exact h2
  exact ⟨cell_of_row F _ 0 _ _ _ e1, cell_of_row F _ 1 _ _ _ e1, cell_of_row F _ 2 _ _ _ e1, cell_of_row F _ 3 _ _ _ e1, cell_of_row F _ 0 _ _ _ e2, cell_of_row F _ 1 _ _ _ e2, cell_of_row F _ 2 _ _ _ e2, cell_of_row F _ 3 _ _ _ e2, cell_of_row F _ 4 _ _ _ e2⟩

set_option maxHeartbeats 1000000 in
theorem do_head (s : ByteArray) (p : Nat) (bad : Int) (kind : Nat) (k : Int) (w : World) (m n : Nat) (o : Bool) (z : Nat) (hk : (kind : Int) % 6 = 0) (hs : s.size ≤ maxLen) (hz1 : 1 ≤ z) (hz9 : z ≤ 9) (hle : p + z ≤ s.size) (hn64 : n < 18446744073709551616) (hr : ReadsAs s p (some ⟨m, n, o, z⟩))  :
    Calls Try.prog 19 #[refV s p bad 0, .agg #[.int .u8 kind, .int .i64 k]] w fun e w' => e = .returned (.tuple #[refV s (p + z) (-1) (0), toldV (m) (n) o ⟨#[]⟩ (0)]) ∧ Below w.heap.size w w' := by
  have HR := Lib.hid hr; clear hr
  unfold refV toldV
  have HS := Lib.hid hs
  unfold maxLen at hs
  have HN64 := Lib.hid hn64; clear hn64
  have hpI : (p : Int) ≤ (s.size : Int) := by omega
  have gz : ((z : Int) == 0) = false := by simp; omega
  go_enter Try.func19, Try.ntmps19
  go_wp2_with fail
  refine (HR.out _).mono ?_
  unfold gotV
  dsimp only
  rintro e w1 ⟨rfl, hb1⟩
  have h4 := (Four.begin_ w s p bad 0 kind k).call hb1
  obtain ⟨a0, a1, a2, a3, b0, b1⟩ := h4.cells
  obtain ⟨z0, z1, z2, z3⟩ := h4.sizes
  obtain ⟨r0, r1, r2, r3, q0, q1, q2, q3, q4, f0, f1⟩ := h4.results
  have HB := Lib.hid h4.below
  have H4 := Lib.hid h4; clear h4 hb1
  go_wp2
  go_region
  go_wp2
  refine bodyPost_ret (v := .tuple #[.agg #[.string s, .int .i64 (p + z), .int .i64 (-1), .int .i64 0], .agg #[.int .i64 m, .int .u64 n, .bool o, .string ⟨#[]⟩, .int .i64 0]]) ?r1 rfl ⟨rfl, ?r2⟩
  case r1 =>
    obtain ⟨k0, k1, k2, k3, k4, k5, k6, k7, k8⟩ := H4.out.end_ (.string s) (.int .i64 (p + z)) (.int .i64 (-1)) (.int .i64 0) (.int .i64 m) (.int .u64 n) (.bool o) (.string ⟨#[]⟩) (.int .i64 0) (.cells #[.int .i64 z, .int .i64 m, .int .u64 n, .bool o] 58) (.cells #[.string s, .int .i64 (p + z), .int .i64 (-1), .int .i64 0] 36) _ rfl
    simp [results, Try.results19, go_sem, k0, k1, k2, k3, k4, k5, k6, k7, k8]
  case r2 =>
    repeat (first | (with_reducible refine Below.setCell ?_ (by dsimp only; omega) _) | (with_reducible refine Below.drew ?_) | (with_reducible refine below_more ?_ _))
    exact HB.out

set_option maxHeartbeats 1000000 in
theorem do_uint (s : ByteArray) (p : Nat) (bad : Int) (kind : Nat) (k : Int) (w : World) (m n : Nat) (o : Bool) (z : Nat) (hk : (kind : Int) % 6 = 1) (hs : s.size ≤ maxLen) (hz1 : 1 ≤ z) (hz9 : z ≤ 9) (hle : p + z ≤ s.size) (hn64 : n < 18446744073709551616) (hr : ReadsAs s p (some ⟨m, n, o, z⟩)) (hm : m = 0) :
    Calls Try.prog 19 #[refV s p bad 0, .agg #[.int .u8 kind, .int .i64 k]] w fun e w' => e = .returned (.tuple #[refV s (p + z) (-1) (0), toldV (0) (n) false ⟨#[]⟩ (0)]) ∧ Below w.heap.size w w' := by
  have HR := Lib.hid hr; clear hr
  unfold refV toldV
  have HS := Lib.hid hs
  unfold maxLen at hs
  have HN64 := Lib.hid hn64; clear hn64
  have hpI : (p : Int) ≤ (s.size : Int) := by omega
  have gz : ((z : Int) == 0) = false := by simp; omega
  subst hm
  go_enter Try.func19, Try.ntmps19
  go_wp2_with fail
  refine (HR.out _).mono ?_
  unfold gotV
  dsimp only
  rintro e w1 ⟨rfl, hb1⟩
  have h4 := (Four.begin_ w s p bad 0 kind k).call hb1
  obtain ⟨a0, a1, a2, a3, b0, b1⟩ := h4.cells
  obtain ⟨z0, z1, z2, z3⟩ := h4.sizes
  obtain ⟨r0, r1, r2, r3, q0, q1, q2, q3, q4, f0, f1⟩ := h4.results
  have HB := Lib.hid h4.below
  have H4 := Lib.hid h4; clear h4 hb1
  go_wp2
  go_region
  go_wp2
  refine bodyPost_ret (v := .tuple #[.agg #[.string s, .int .i64 (p + z), .int .i64 (-1), .int .i64 0], .agg #[.int .i64 0, .int .u64 n, .bool false, .string ⟨#[]⟩, .int .i64 0]]) ?r1 rfl ⟨rfl, ?r2⟩
  case r1 =>
    obtain ⟨k0, k1, k2, k3, k4, k5, k6, k7, k8⟩ := H4.out.end_ (.string s) (.int .i64 (p + z)) (.int .i64 (-1)) (.int .i64 0) (.int .i64 0) (.int .u64 n) (.bool false) (.string ⟨#[]⟩) (.int .i64 0) (.cells #[.int .i64 z, .int .i64 0, .int .u64 n, .bool o] 58) (.cells #[.string s, .int .i64 (p + z), .int .i64 (-1), .int .i64 0] 36) _ rfl
    simp [results, Try.results19, go_sem, k0, k1, k2, k3, k4, k5, k6, k7, k8]
  case r2 =>
    repeat (first | (with_reducible refine Below.setCell ?_ (by dsimp only; omega) _) | (with_reducible refine Below.drew ?_) | (with_reducible refine below_more ?_ _))
    exact HB.out

set_option maxHeartbeats 1000000 in
theorem do_uint_form (s : ByteArray) (p : Nat) (bad : Int) (kind : Nat) (k : Int) (w : World) (m n : Nat) (o : Bool) (z : Nat) (hk : (kind : Int) % 6 = 1) (hs : s.size ≤ maxLen) (hz1 : 1 ≤ z) (hz9 : z ≤ 9) (hle : p + z ≤ s.size) (hn64 : n < 18446744073709551616) (hr : ReadsAs s p (some ⟨m, n, o, z⟩)) (hm : m ≠ 0) :
    Calls Try.prog 19 #[refV s p bad 0, .agg #[.int .u8 kind, .int .i64 k]] w fun e w' => e = .returned (.tuple #[refV s p p 2, toldV 0 0 false ⟨#[]⟩ 0]) ∧ Below w.heap.size w w' := by
  have hf := refFail_any s p bad 0 2
  have HF := Lib.hid hf; clear hf
  have HR := Lib.hid hr; clear hr
  unfold refV toldV
  have HS := Lib.hid hs
  unfold maxLen at hs
  have HN64 := Lib.hid hn64; clear hn64
  have hpI : (p : Int) ≤ (s.size : Int) := by omega
  have gz : ((z : Int) == 0) = false := by simp; omega
  have gm : ((m : Int) != 0) = true := by simp; omega
  have HM := Lib.hid hm; clear hm
  go_enter Try.func19, Try.ntmps19
  go_wp2_with fail
  refine (HR.out _).mono ?_
  unfold gotV
  dsimp only
  rintro e w1 ⟨rfl, hb1⟩
  have h4 := (Four.begin_ w s p bad 0 kind k).call hb1
  obtain ⟨a0, a1, a2, a3, b0, b1⟩ := h4.cells
  obtain ⟨z0, z1, z2, z3⟩ := h4.sizes
  have H4 := Lib.hid h4; clear h4 hb1
  go_wp2_with fail
  refine (HF.out _).mono ?_
  unfold refV toldV
  rintro e w2 ⟨rfl, hb2⟩
  have h4 := ((H4.out.alloc _).alloc _).call hb2
  clear a0 a1 a2 a3 b0 b1 z0 z1 z2 z3 hb2
  obtain ⟨r0, r1, r2, r3, q0, q1, q2, q3, q4, f0, f1⟩ := h4.results
  have HB := Lib.hid h4.below; clear h4
  go_wp2
  refine bodyPost_ret (v := .tuple #[.agg #[.string s, .int .i64 p, .int .i64 p, .int .i64 2], .agg #[.int .i64 0, .int .u64 0, .bool false, .string ⟨#[]⟩, .int .i64 0]]) ?r1 rfl ⟨rfl, ?r2⟩
  case r1 => simp [results, Try.results19, go_sem, r0, r1, r2, r3, q0, q1, q2, q3, q4]
  case r2 =>
    repeat (first | (with_reducible refine Below.setCell ?_ (by dsimp only; omega) _) | (with_reducible refine Below.drew ?_) | (with_reducible refine below_more ?_ _))
    exact HB.out

set_option maxHeartbeats 1000000 in
theorem do_array_form (s : ByteArray) (p : Nat) (bad : Int) (kind : Nat) (k : Int) (w : World) (m n : Nat) (o : Bool) (z : Nat) (hk : (kind : Int) % 6 = 4) (hs : s.size ≤ maxLen) (hz1 : 1 ≤ z) (hz9 : z ≤ 9) (hle : p + z ≤ s.size) (hn64 : n < 18446744073709551616) (hr : ReadsAs s p (some ⟨m, n, o, z⟩)) (hm : m ≠ 4) :
    Calls Try.prog 19 #[refV s p bad 0, .agg #[.int .u8 kind, .int .i64 k]] w fun e w' => e = .returned (.tuple #[refV s p p 2, toldV 0 0 false ⟨#[]⟩ 0]) ∧ Below w.heap.size w w' := by
  have hf := refFail_any s p bad 0 2
  have HF := Lib.hid hf; clear hf
  have HR := Lib.hid hr; clear hr
  unfold refV toldV
  have HS := Lib.hid hs
  unfold maxLen at hs
  have HN64 := Lib.hid hn64; clear hn64
  have hpI : (p : Int) ≤ (s.size : Int) := by omega
  have gz : ((z : Int) == 0) = false := by simp; omega
  have gm : ((m : Int) != 4) = true := by simp; omega
  have HM := Lib.hid hm; clear hm
  go_enter Try.func19, Try.ntmps19
  go_wp2_with fail
  refine (HR.out _).mono ?_
  unfold gotV
  dsimp only
  rintro e w1 ⟨rfl, hb1⟩
  have h4 := (Four.begin_ w s p bad 0 kind k).call hb1
  obtain ⟨a0, a1, a2, a3, b0, b1⟩ := h4.cells
  obtain ⟨z0, z1, z2, z3⟩ := h4.sizes
  have H4 := Lib.hid h4; clear h4 hb1
  go_wp2_with fail
  refine (HF.out _).mono ?_
  unfold refV toldV
  rintro e w2 ⟨rfl, hb2⟩
  have h4 := ((H4.out.alloc _).alloc _).call hb2
  clear a0 a1 a2 a3 b0 b1 z0 z1 z2 z3 hb2
  obtain ⟨r0, r1, r2, r3, q0, q1, q2, q3, q4, f0, f1⟩ := h4.results
  have HB := Lib.hid h4.below; clear h4
  go_wp2
  refine bodyPost_ret (v := .tuple #[.agg #[.string s, .int .i64 p, .int .i64 p, .int .i64 2], .agg #[.int .i64 0, .int .u64 0, .bool false, .string ⟨#[]⟩, .int .i64 0]]) ?r1 rfl ⟨rfl, ?r2⟩
  case r1 => simp [results, Try.results19, go_sem, r0, r1, r2, r3, q0, q1, q2, q3, q4]
  case r2 =>
    repeat (first | (with_reducible refine Below.setCell ?_ (by dsimp only; omega) _) | (with_reducible refine Below.drew ?_) | (with_reducible refine below_more ?_ _))
    exact HB.out

set_option maxHeartbeats 1000000 in
theorem do_array_open (s : ByteArray) (p : Nat) (bad : Int) (kind : Nat) (k : Int) (w : World) (m n : Nat) (o : Bool) (z : Nat) (hk : (kind : Int) % 6 = 4) (hs : s.size ≤ maxLen) (hz1 : 1 ≤ z) (hz9 : z ≤ 9) (hle : p + z ≤ s.size) (hn64 : n < 18446744073709551616) (hr : ReadsAs s p (some ⟨m, n, o, z⟩)) (hm : m = 4) (ho : o = true) :
    Calls Try.prog 19 #[refV s p bad 0, .agg #[.int .u8 kind, .int .i64 k]] w fun e w' => e = .returned (.tuple #[refV s (p + z) (-1) (0), toldV (0) (0) false ⟨#[]⟩ (-1)]) ∧ Below w.heap.size w w' := by
  have HR := Lib.hid hr; clear hr
  unfold refV toldV
  have HS := Lib.hid hs
  unfold maxLen at hs
  have HN64 := Lib.hid hn64; clear hn64
  have hpI : (p : Int) ≤ (s.size : Int) := by omega
  have gz : ((z : Int) == 0) = false := by simp; omega
  subst hm
  subst ho
  go_enter Try.func19, Try.ntmps19
  go_wp2_with fail
  refine (HR.out _).mono ?_
  unfold gotV
  dsimp only
  rintro e w1 ⟨rfl, hb1⟩
  have h4 := (Four.begin_ w s p bad 0 kind k).call hb1
  obtain ⟨a0, a1, a2, a3, b0, b1⟩ := h4.cells
  obtain ⟨z0, z1, z2, z3⟩ := h4.sizes
  obtain ⟨r0, r1, r2, r3, q0, q1, q2, q3, q4, f0, f1⟩ := h4.results
  have HB := Lib.hid h4.below
  have H4 := Lib.hid h4; clear h4 hb1
  go_wp2
  refine bodyPost_ret (v := .tuple #[.agg #[.string s, .int .i64 (p + z), .int .i64 (-1), .int .i64 0], .agg #[.int .i64 0, .int .u64 0, .bool false, .string ⟨#[]⟩, .int .i64 (-1)]]) ?r1 rfl ⟨rfl, ?r2⟩
  case r1 =>
    obtain ⟨k0, k1, k2, k3, k4, k5, k6, k7, k8⟩ := H4.out.end_ (.string s) (.int .i64 (p + z)) (.int .i64 (-1)) (.int .i64 0) (.int .i64 0) (.int .u64 0) (.bool false) (.string ⟨#[]⟩) (.int .i64 (-1)) (.cells #[.int .i64 z, .int .i64 4, .int .u64 n, .bool true] 58) (.cells #[.string s, .int .i64 (p + z), .int .i64 (-1), .int .i64 0] 36) _ rfl
    simp [results, Try.results19, go_sem, k0, k1, k2, k3, k4, k5, k6, k7, k8]
  case r2 =>
    repeat (first | (with_reducible refine Below.setCell ?_ (by dsimp only; omega) _) | (with_reducible refine Below.drew ?_) | (with_reducible refine below_more ?_ _))
    exact HB.out

set_option maxHeartbeats 1000000 in
theorem do_array_long (s : ByteArray) (p : Nat) (bad : Int) (kind : Nat) (k : Int) (w : World) (m n : Nat) (o : Bool) (z : Nat) (hk : (kind : Int) % 6 = 4) (hs : s.size ≤ maxLen) (hz1 : 1 ≤ z) (hz9 : z ≤ 9) (hle : p + z ≤ s.size) (hn64 : n < 18446744073709551616) (hr : ReadsAs s p (some ⟨m, n, o, z⟩)) (hm : m = 4) (ho : o = false) (hn : 1000 < n) :
    Calls Try.prog 19 #[refV s p bad 0, .agg #[.int .u8 kind, .int .i64 k]] w fun e w' => e = .returned (.tuple #[refV s p p 4, toldV 0 0 false ⟨#[]⟩ 0]) ∧ Below w.heap.size w w' := by
  have hf := refFail_any s p bad 0 4
  have HF := Lib.hid hf; clear hf
  have HR := Lib.hid hr; clear hr
  unfold refV toldV
  have HS := Lib.hid hs
  unfold maxLen at hs
  have HN64 := Lib.hid hn64; clear hn64
  have hpI : (p : Int) ≤ (s.size : Int) := by omega
  have gz : ((z : Int) == 0) = false := by simp; omega
  subst hm
  subst ho
  have gn : decide ((1000 : Int) < (n : Int)) = true := by simp; omega
  have HN := Lib.hid hn; clear hn
  go_enter Try.func19, Try.ntmps19
  go_wp2_with fail
  refine (HR.out _).mono ?_
  unfold gotV
  dsimp only
  rintro e w1 ⟨rfl, hb1⟩
  have h4 := (Four.begin_ w s p bad 0 kind k).call hb1
  obtain ⟨a0, a1, a2, a3, b0, b1⟩ := h4.cells
  obtain ⟨z0, z1, z2, z3⟩ := h4.sizes
  have H4 := Lib.hid h4; clear h4 hb1
  go_wp2_with fail
  refine (HF.out _).mono ?_
  unfold refV toldV
  rintro e w2 ⟨rfl, hb2⟩
  have h4 := ((H4.out.alloc _).alloc _).call hb2
  clear a0 a1 a2 a3 b0 b1 z0 z1 z2 z3 hb2
  obtain ⟨r0, r1, r2, r3, q0, q1, q2, q3, q4, f0, f1⟩ := h4.results
  have HB := Lib.hid h4.below; clear h4
  go_wp2
  refine bodyPost_ret (v := .tuple #[.agg #[.string s, .int .i64 p, .int .i64 p, .int .i64 4], .agg #[.int .i64 0, .int .u64 0, .bool false, .string ⟨#[]⟩, .int .i64 0]]) ?r1 rfl ⟨rfl, ?r2⟩
  case r1 => simp [results, Try.results19, go_sem, r0, r1, r2, r3, q0, q1, q2, q3, q4]
  case r2 =>
    repeat (first | (with_reducible refine Below.setCell ?_ (by dsimp only; omega) _) | (with_reducible refine Below.drew ?_) | (with_reducible refine below_more ?_ _))
    exact HB.out

set_option maxHeartbeats 1000000 in
theorem do_array (s : ByteArray) (p : Nat) (bad : Int) (kind : Nat) (k : Int) (w : World) (m n : Nat) (o : Bool) (z : Nat) (hk : (kind : Int) % 6 = 4) (hs : s.size ≤ maxLen) (hz1 : 1 ≤ z) (hz9 : z ≤ 9) (hle : p + z ≤ s.size) (hn64 : n < 18446744073709551616) (hr : ReadsAs s p (some ⟨m, n, o, z⟩)) (hm : m = 4) (ho : o = false) (hn : n ≤ 1000) :
    Calls Try.prog 19 #[refV s p bad 0, .agg #[.int .u8 kind, .int .i64 k]] w fun e w' => e = .returned (.tuple #[refV s (p + z) (-1) (0), toldV (0) (0) false ⟨#[]⟩ (n)]) ∧ Below w.heap.size w w' := by
  have HR := Lib.hid hr; clear hr
  unfold refV toldV
  have HS := Lib.hid hs
  unfold maxLen at hs
  have HN64 := Lib.hid hn64; clear hn64
  have hpI : (p : Int) ≤ (s.size : Int) := by omega
  have gz : ((z : Int) == 0) = false := by simp; omega
  subst hm
  subst ho
  have gn : decide ((1000 : Int) < (n : Int)) = false := by simp; omega
  have hnI : (n : Int) ≤ 1000 := by omega
  have HN := Lib.hid hn; clear hn
  go_enter Try.func19, Try.ntmps19
  go_wp2_with fail
  refine (HR.out _).mono ?_
  unfold gotV
  dsimp only
  rintro e w1 ⟨rfl, hb1⟩
  have h4 := (Four.begin_ w s p bad 0 kind k).call hb1
  obtain ⟨a0, a1, a2, a3, b0, b1⟩ := h4.cells
  obtain ⟨z0, z1, z2, z3⟩ := h4.sizes
  obtain ⟨r0, r1, r2, r3, q0, q1, q2, q3, q4, f0, f1⟩ := h4.results
  have HB := Lib.hid h4.below
  have H4 := Lib.hid h4; clear h4 hb1
  go_wp2
  go_region
  go_wp2
  refine bodyPost_ret (v := .tuple #[.agg #[.string s, .int .i64 (p + z), .int .i64 (-1), .int .i64 0], .agg #[.int .i64 0, .int .u64 0, .bool false, .string ⟨#[]⟩, .int .i64 n]]) ?r1 rfl ⟨rfl, ?r2⟩
  case r1 =>
    obtain ⟨k0, k1, k2, k3, k4, k5, k6, k7, k8⟩ := H4.out.end_ (.string s) (.int .i64 (p + z)) (.int .i64 (-1)) (.int .i64 0) (.int .i64 0) (.int .u64 0) (.bool false) (.string ⟨#[]⟩) (.int .i64 n) (.cells #[.int .i64 z, .int .i64 4, .int .u64 n, .bool false] 58) (.cells #[.string s, .int .i64 (p + z), .int .i64 (-1), .int .i64 0] 36) _ rfl
    simp [results, Try.results19, go_sem, k0, k1, k2, k3, k4, k5, k6, k7, k8]
  case r2 =>
    repeat (first | (with_reducible refine Below.setCell ?_ (by dsimp only; omega) _) | (with_reducible refine Below.drew ?_) | (with_reducible refine below_more ?_ _))
    exact HB.out

end Go.Proofs.Ytkaeklcmhoidjaa
