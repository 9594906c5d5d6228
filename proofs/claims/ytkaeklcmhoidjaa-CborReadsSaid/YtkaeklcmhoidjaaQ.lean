/-
  The contract of the reference reader's Do. Conditions: its text is no longer than memory allows, its offset lies within it.
-/
import Derived.Test.YtkaeklcmhoidjaaP
import Derived.Test.YtkaeklcmhoidjaaK
import Derived.Test.YtkaeklcmhoidjaaO
namespace Go.Proofs.Ytkaeklcmhoidjaa
open Go.ChangeShapes Go.WideShapes Go.ChangeAt Go.RowKit
open Plain
set_option linter.unusedVariables false

/-- Where the reference says that it failed. -/
def badOf (p : Nat) (c : Int) : Int := if c = 0 then -1 else p

set_option maxHeartbeats 400000 in
theorem do_failed (s : ByteArray) (p : Nat) (c : Int) (kind : Nat) (n : Int) (w : World) (hc : c ≠ 0) :
    Calls Try.prog 19 #[refV s p (badOf p c) c, .agg #[.int .u8 kind, .int .i64 n]] w fun e w' => e = .returned (.tuple #[refV s p (badOf p c) c, toldV 0 0 false ⟨#[]⟩ 0]) ∧ Below w.heap.size w w' := by
  unfold refV toldV
  generalize badOf p c = bad
  have g : (c != 0) = true := by simpa using hc
  clear hc
  go_enter Try.func19, Try.ntmps19
  go_wp2
  refine bodyPost_ret (v := .tuple #[.agg #[.string s, .int .i64 p, .int .i64 bad, .int .i64 c], .agg #[.int .i64 0, .int .u64 0, .bool false, .string ⟨#[]⟩, .int .i64 0]]) (by simp [results, Try.results19, go_sem]) rfl ⟨rfl, ((((Below.refl _ _).alloc (Nat.le_refl _) _).alloc (by simp) _).alloc (by simp <;> omega) _).alloc (by simp <;> omega) _⟩

/-- The four blocks of a call of Do, in a later world: the reader, the call, and the two results, still zero. -/
structure Four (w X : World) (s : ByteArray) (p bad c : Int) (kind n : Int) : Prop where
  a : X.heap[w.heap.size]? = some (.cells #[.string s, .int .i64 p, .int .i64 bad, .int .i64 c] 36 (0, 0))
  b : X.heap[w.heap.size + 1]? = some (.cells #[.int .u8 kind, .int .i64 n] 42 (0, 0))
  c' : X.heap[w.heap.size + 1 + 1]? = some (.cells #[.string ⟨#[]⟩, .int .i64 0, .int .i64 0, .int .i64 0] 36 (0, 0))
  d : X.heap[w.heap.size + 1 + 1 + 1]? = some (.cells #[.int .i64 0, .int .u64 0, .bool false, .string ⟨#[]⟩, .int .i64 0] 38 (0, 0))
  below : Below w.heap.size w X
  size : w.heap.size + 1 + 1 + 1 < X.heap.size

section
variable {w X Y : World} {s : ByteArray} {p bad c kind n : Int}
theorem Four.begin_ (w : World) (s : ByteArray) (p bad c kind n : Int) : Four w ((((w.alloc (.cells #[.string s, .int .i64 p, .int .i64 bad, .int .i64 c] 36)).alloc (.cells #[.int .u8 kind, .int .i64 n] 42)).alloc (.cells #[.string ⟨#[]⟩, .int .i64 0, .int .i64 0, .int .i64 0] 36)).alloc (.cells #[.int .i64 0, .int .u64 0, .bool false, .string ⟨#[]⟩, .int .i64 0] 38)) s p bad c kind n := by
  refine ⟨?_, ?_, ?_, ?_, ?_, ?_⟩
  · rw [Below.heap_alloc _ _ _ (by simp <;> omega), Below.heap_alloc _ _ _ (by simp <;> omega), Below.heap_alloc _ _ _ (by simp)]
    exact heap_alloc_new w _
  · rw [Below.heap_alloc _ _ _ (by simp <;> omega), Below.heap_alloc _ _ _ (by simp)]
    have := heap_alloc_new (w.alloc (.cells #[.string s, .int .i64 p, .int .i64 bad, .int .i64 c] 36)) (.cells #[.int .u8 kind, .int .i64 n] 42)
    rw [World.size_alloc] at this
    exact this
  · rw [Below.heap_alloc _ _ _ (by simp)]
    have := heap_alloc_new ((w.alloc (.cells #[.string s, .int .i64 p, .int .i64 bad, .int .i64 c] 36)).alloc (.cells #[.int .u8 kind, .int .i64 n] 42)) (.cells #[.string ⟨#[]⟩, .int .i64 0, .int .i64 0, .int .i64 0] 36)
    rw [World.size_alloc, World.size_alloc] at this
    exact this
  · have := heap_alloc_new (((w.alloc (.cells #[.string s, .int .i64 p, .int .i64 bad, .int .i64 c] 36)).alloc (.cells #[.int .u8 kind, .int .i64 n] 42)).alloc (.cells #[.string ⟨#[]⟩, .int .i64 0, .int .i64 0, .int .i64 0] 36)) (.cells #[.int .i64 0, .int .u64 0, .bool false, .string ⟨#[]⟩, .int .i64 0] 38)
    rw [World.size_alloc, World.size_alloc, World.size_alloc] at this
    exact this
  · exact ((((Below.refl w.heap.size w).alloc (Nat.le_refl _) _).alloc (by simp) _).alloc (by simp <;> omega) _).alloc (by simp <;> omega) _
  · simp

theorem Four.call (h : Four w X s p bad c kind n) (hb : Below X.heap.size X Y) : Four w Y s p bad c kind n := by
  have hs := h.size
  exact ⟨(hb.block _ (by omega)).trans h.a, (hb.block _ (by omega)).trans h.b, (hb.block _ (by omega)).trans h.c', (hb.block _ (by omega)).trans h.d, h.below.trans (hb.mono h.below.size), Nat.lt_of_lt_of_le hs hb.size⟩

theorem Four.alloc (h : Four w X s p bad c kind n) (o : Obj) : Four w (X.alloc o) s p bad c kind n := h.call ((Below.refl _ _).alloc (Nat.le_refl _) o)

theorem Four.cells (h : Four w X s p bad c kind n) :
    X.cell? ⟨w.heap.size, 0, none⟩ = some (.string s) ∧ X.cell? ⟨w.heap.size, 1, none⟩ = some (.int .i64 p) ∧ X.cell? ⟨w.heap.size, 2, none⟩ = some (.int .i64 bad) ∧ X.cell? ⟨w.heap.size, 3, none⟩ = some (.int .i64 c) ∧
    X.cell? ⟨w.heap.size + 1, 0, none⟩ = some (.int .u8 kind) ∧ X.cell? ⟨w.heap.size + 1, 1, none⟩ = some (.int .i64 n) :=
  ⟨cell_of_row X _ 0 _ _ _ h.a, cell_of_row X _ 1 _ _ _ h.a, cell_of_row X _ 2 _ _ _ h.a, cell_of_row X _ 3 _ _ _ h.a, cell_of_row X _ 0 _ _ _ h.b, cell_of_row X _ 1 _ _ _ h.b⟩

theorem Four.results (h : Four w X s p bad c kind n) :
    X.cell? ⟨w.heap.size + 1 + 1, 0, none⟩ = some (.string ⟨#[]⟩) ∧ X.cell? ⟨w.heap.size + 1 + 1, 1, none⟩ = some (.int .i64 0) ∧ X.cell? ⟨w.heap.size + 1 + 1, 2, none⟩ = some (.int .i64 0) ∧ X.cell? ⟨w.heap.size + 1 + 1, 3, none⟩ = some (.int .i64 0) ∧
    X.cell? ⟨w.heap.size + 1 + 1 + 1, 0, none⟩ = some (.int .i64 0) ∧ X.cell? ⟨w.heap.size + 1 + 1 + 1, 1, none⟩ = some (.int .u64 0) ∧ X.cell? ⟨w.heap.size + 1 + 1 + 1, 2, none⟩ = some (.bool false) ∧ X.cell? ⟨w.heap.size + 1 + 1 + 1, 3, none⟩ = some (.string ⟨#[]⟩) ∧ X.cell? ⟨w.heap.size + 1 + 1 + 1, 4, none⟩ = some (.int .i64 0) ∧
    (∀ i, X.frozen? ⟨w.heap.size + 1 + 1, i, none⟩ = false) ∧ (∀ i, X.frozen? ⟨w.heap.size + 1 + 1 + 1, i, none⟩ = false) :=
  ⟨cell_of_row X _ 0 _ _ _ h.c', cell_of_row X _ 1 _ _ _ h.c', cell_of_row X _ 2 _ _ _ h.c', cell_of_row X _ 3 _ _ _ h.c',
    cell_of_row X _ 0 _ _ _ h.d, cell_of_row X _ 1 _ _ _ h.d, cell_of_row X _ 2 _ _ _ h.d, cell_of_row X _ 3 _ _ _ h.d, cell_of_row X _ 4 _ _ _ h.d, free4 h.c', free4 h.d⟩
theorem Four.sizes (h : Four w X s p bad c kind n) : w.heap.size < X.heap.size ∧ w.heap.size + 1 < X.heap.size ∧ w.heap.size + 1 + 1 < X.heap.size ∧ w.heap.size + 1 + 1 + 1 < X.heap.size := by
  have := h.size
  exact ⟨by omega, by omega, by omega, by omega⟩
end

set_option maxHeartbeats 400000 in
theorem do_fail (s : ByteArray) (p : Nat) (bad : Int) (kind : Nat) (n : Int) (w : World) (hk : (kind : Int) % 6 = 5) :
    Calls Try.prog 19 #[refV s p bad 0, .agg #[.int .u8 kind, .int .i64 n]] w fun e w' => e = .returned (.tuple #[refV s p p 9, toldV 0 0 false ⟨#[]⟩ 0]) ∧ Below w.heap.size w w' := by
  have hf := refFail_any s p bad 0 9
  have HF := Lib.hid hf; clear hf
  unfold refV toldV
  go_enter Try.func19, Try.ntmps19
  go_wp2_with fail
  refine (HF.out _).mono ?_
  unfold refV toldV
  rintro e w1 ⟨rfl, hb⟩
  have h4 := (Four.begin_ w s p bad 0 kind n).call hb
  obtain ⟨r0, r1, r2, r3, q0, q1, q2, q3, q4, f0, f1⟩ := h4.results
  have HB := Lib.hid h4.below; clear h4 hb
  go_wp2
  refine bodyPost_ret (v := .tuple #[.agg #[.string s, .int .i64 p, .int .i64 p, .int .i64 9], .agg #[.int .i64 0, .int .u64 0, .bool false, .string ⟨#[]⟩, .int .i64 0]]) ?r1 rfl ⟨rfl, ?r2⟩
  case r1 => simp [results, Try.results19, go_sem, r0, r1, r2, r3, q0, q1, q2, q3, q4]
  case r2 =>
    repeat (refine Below.setCell ?_ (by dsimp only; omega) _)
    exact HB.out

/-- What the statement needs of the head that Read found. -/
def ReadsAs (s : ByteArray) (p : Nat) (x : Option Hd) : Prop := ∀ w : World, Calls Try.prog 29 #[.string (s.extract p s.size)] w fun e w' => e = .returned (gotV x) ∧ Below w.heap.size w w'

set_option maxHeartbeats 1000000 in
theorem do_none (s : ByteArray) (p : Nat) (bad : Int) (kind : Nat) (n : Int) (w : World) (hk : ((kind : Int) % 6 == 5) = false) (hs : s.size ≤ maxLen) (hp : p ≤ s.size) (hr : ReadsAs s p none) :
    Calls Try.prog 19 #[refV s p bad 0, .agg #[.int .u8 kind, .int .i64 n]] w fun e w' => e = .returned (.tuple #[refV s p p 2, toldV 0 0 false ⟨#[]⟩ 0]) ∧ Below w.heap.size w w' := by
  have hf := refFail_any s p bad 0 2
  have HF := Lib.hid hf; clear hf
  have HR := Lib.hid hr; clear hr
  unfold refV toldV
  unfold maxLen at hs
  have hpI : (p : Int) ≤ (s.size : Int) := by omega
  go_enter Try.func19, Try.ntmps19
  go_wp2_with fail
  refine (HR.out _).mono ?_
  unfold gotV
  rintro e w1 ⟨rfl, hb1⟩
  have h4 := (Four.begin_ w s p bad 0 kind n).call hb1
  obtain ⟨a0, a1, a2, a3, b0, b1⟩ := h4.cells
  obtain ⟨z0, z1, z2, z3⟩ := h4.sizes
  have H4 := Lib.hid h4; clear h4 hb1
  go_wp2_with fail
  refine (HF.out _).mono ?_
  unfold refV toldV
  rintro e w2 ⟨rfl, hb2⟩
  have h4 := (H4.out.alloc _).call hb2
  clear a0 a1 a2 a3 b0 b1 z0 z1 z2 z3 hb2
  obtain ⟨r0, r1, r2, r3, q0, q1, q2, q3, q4, f0, f1⟩ := h4.results
  have HB := Lib.hid h4.below; clear h4
  go_wp2
  refine bodyPost_ret (v := .tuple #[.agg #[.string s, .int .i64 p, .int .i64 p, .int .i64 2], .agg #[.int .i64 0, .int .u64 0, .bool false, .string ⟨#[]⟩, .int .i64 0]]) ?r1 rfl ⟨rfl, ?r2⟩
  case r1 => simp [results, Try.results19, go_sem, r0, r1, r2, r3, q0, q1, q2, q3, q4]
  case r2 =>
    repeat (refine Below.setCell ?_ (by dsimp only; omega) _)
    exact HB.out

end Go.Proofs.Ytkaeklcmhoidjaa
