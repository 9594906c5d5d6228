/-
  Joined: Lk. Conditions: as each part says.
-/
import Derived.Test.YtedoggejbhbebaaJ11
import Derived.Test.YtedoggejbhbebaaJ12

/-
  The walk of EngineBack: it returns true, given what the calls of an engine answer. Conditions: the answers are handed in.
-/
namespace Go.Proofs.Ytedoggejbhbebaa
namespace Eng
open Go.ChangeShapes Go.WideShapes Go.ChangeAt Go.RowKit Go.Great
open Gf Aes Gcm
set_option linter.unusedVariables false
set_option maxRecDepth 100000

theorem lie_one (o : Call) (X : World) : Lie (X.alloc (.cells #[.int .u8 o.kind, .int .i64 o.variant, .string o.key, .string o.nonce, .string o.beside, .string o.text, .string o.tag, .int .u8 o.back] 29)) (some ⟨X.heap.size, 0, none⟩) 1 (fun _ => o) := by
  constructor
  intro i hi
  refine ⟨X.heap.size, 0, rfl, by rw [alloc_size]; omega, fun j hj => ?_⟩
  rw [cell_of_row _ _ _ _ _ _ (heap_alloc_new X _)]
  have h8 : j = 0 ∨ j = 1 ∨ j = 2 ∨ j = 3 ∨ j = 4 ∨ j = 5 ∨ j = 6 ∨ j = 7 := by omega
  obtain rfl : i = 0 := by omega
  rcases h8 with rfl | rfl | rfl | rfl | rfl | rfl | rfl | rfl <;> rfl

/-- A call's eight cells in a block. -/
abbrev D8 (g : Nat) (c : Call) (w : World) : Prop := w.heap[g]? = some (.cells #[.int .u8 c.kind, .int .i64 c.variant, .string c.key, .string c.nonce, .string c.beside, .string c.text, .string c.tag, .int .u8 c.back] 29 (0, 0))
theorem D8.cell {g : Nat} {c : Call} {w w' : World} {B : Nat} (h : D8 g c w) (hg : g < B) (hb : Below B w w') (j : Nat) : w'.cell? ⟨g, j, none⟩ = c.cells[j]? := by
  rw [hb.cell (p := ⟨g, j, none⟩) hg, cell_of_row _ _ _ _ _ _ h]
  simp [Call.cells]

/-- What the calls of an engine answer, stage by stage. -/
structure Answers (W : World) (o : Call) (other : ByteArray) (M : Nat → Nat → World → Prop) (T0 T1 T3 S T2 S4 T4 : ByteArray) (e f : Int) : Prop where
  below : ∀ i g X, M i g X → Below W.heap.size W X
  c0 : ∀ g X, M 0 g X → Calls Try.prog 15 #[.pointer (some ⟨g, 0, none⟩), .int .i64 5, .string ⟨#[107]⟩, .string other] X fun r w' => r = .returned (.tuple #[.string T0, .int .i64 0]) ∧ M 1 g w'
  c1 : ∀ g X, M 1 g X → Calls Try.prog 15 #[.pointer (some ⟨g, 0, none⟩), .int .i64 o.variant, .string o.key, .string o.text] X fun r w' => r = .returned (.tuple #[.string T1, .int .i64 e]) ∧ M 2 g w'
  c2 : ∀ g X, M 2 g X → Calls Try.prog 16 #[.pointer (some ⟨g, 0, none⟩), .int .i64 o.variant, .string o.key, .string o.nonce, .string o.beside, .string o.text] X fun r w' => r = .returned (.tuple #[.string S, .string T2, .int .i64 f]) ∧ M 3 g w'
  c3 : ∀ g X, M 3 g X → Calls Try.prog 15 #[.pointer (some ⟨g, 0, none⟩), .int .i64 o.variant, .string o.key, .string other] X fun r w' => r = .returned (.tuple #[.string T3, .int .i64 e]) ∧ M 4 g w'
  c4 : ∀ g X, M 4 g X → Calls Try.prog 16 #[.pointer (some ⟨g, 0, none⟩), .int .i64 o.variant, .string o.key, .string o.nonce, .string o.beside, .string other] X fun r w' => r = .returned (.tuple #[.string S4, .string T4, .int .i64 f]) ∧ M 5 g w'

set_option maxHeartbeats 4000000 in
theorem back_few (ideal : Bool) (o : Call) (other : ByteArray) (w : World) (hfw : ¬ FewP (fun _ => o) 1 1) : Calls Try.prog 4 #[.bool ideal, .agg #[.int .u8 o.kind, .int .i64 o.variant, .string o.key, .string o.nonce, .string o.beside, .string o.text, .string o.tag, .int .u8 o.back], .string other] w fun e w' => e = .returned (.bool true) ∧ Below w.heap.size w w' := by
  obtain ⟨W0, hW0⟩ : ∃ W0, W0 = w.alloc (.cells #[.int .u8 o.kind, .int .i64 o.variant, .string o.key, .string o.nonce, .string o.beside, .string o.text, .string o.tag, .int .u8 o.back] 29) := ⟨_, rfl⟩
  have hs0 : W0.heap.size = w.heap.size + 1 := by rw [hW0, alloc_size]
  have hb0 : Below w.heap.size w W0 := by rw [hW0]; exact below_alloc (Below.refl _ _) _
  have ho : D8 w.heap.size o W0 := by rw [hW0]; exact heap_alloc_new w _
  have o0 : ∀ X, Below W0.heap.size W0 X → X.cell? ⟨w.heap.size, 0, none⟩ = some (.int .u8 o.kind) := fun X h => ho.cell (by omega) h 0
  have o1 : ∀ X, Below W0.heap.size W0 X → X.cell? ⟨w.heap.size, 1, none⟩ = some (.int .i64 o.variant) := fun X h => ho.cell (by omega) h 1
  have o2 : ∀ X, Below W0.heap.size W0 X → X.cell? ⟨w.heap.size, 2, none⟩ = some (.string o.key) := fun X h => ho.cell (by omega) h 2
  have o3 : ∀ X, Below W0.heap.size W0 X → X.cell? ⟨w.heap.size, 3, none⟩ = some (.string o.nonce) := fun X h => ho.cell (by omega) h 3
  have o4 : ∀ X, Below W0.heap.size W0 X → X.cell? ⟨w.heap.size, 4, none⟩ = some (.string o.beside) := fun X h => ho.cell (by omega) h 4
  have o5 : ∀ X, Below W0.heap.size W0 X → X.cell? ⟨w.heap.size, 5, none⟩ = some (.string o.text) := fun X h => ho.cell (by omega) h 5
  have o6 : ∀ X, Below W0.heap.size W0 X → X.cell? ⟨w.heap.size, 6, none⟩ = some (.string o.tag) := fun X h => ho.cell (by omega) h 6
  have o7 : ∀ X, Below W0.heap.size W0 X → X.cell? ⟨w.heap.size, 7, none⟩ = some (.int .u8 o.back) := fun X h => ho.cell (by omega) h 7
  have HS := Lib.hid (And.intro hs0 hb0)
  have HW := Lib.hid hW0
  clear ho hs0 hb0 hW0
  have g0 : ∀ X, Calls Try.prog 13 #[.slice (some ⟨X.heap.size, 0, none⟩) 1 1, .int .i64 1] (X.alloc (.cells #[.int .u8 o.kind, .int .i64 o.variant, .string o.key, .string o.nonce, .string o.beside, .string o.text, .string o.tag, .int .u8 o.back] 29)) fun e w' => e = .returned (.bool false) ∧ Below X.heap.size X w' := by
    intro X
    refine (rfew _ 1 1 1 _ _ (lie_one o X) false (by simp [hfw])).mono ?_
    rintro e w' ⟨rfl, hb⟩
    exact ⟨rfl, below_link (below_alloc (Below.refl _ _) _) hb⟩
  have G0 := Lib.hid g0
  clear g0
  clear hfw
  go_enter Try.func4, Try.ntmps4
  go_wp2_with fail
  rw [← HW.out]
  refine (awake_any _).mono ?_
  rintro e w1 ⟨rfl, hb1⟩
  go_wp2_with fail
  refine (G0.out _).mono ?_
  rintro e w2 ⟨rfl, hb2⟩
  have hb3 := below_link hb1 hb2
  clear hb1 hb2
  go_wp2_with fail
  refine (awake_any _).mono ?_
  rintro e w3 ⟨rfl, hb4⟩
  have HB := Lib.hid (below_link hb3 hb4); clear hb4
  go_wp2
  go_ret
  exact ⟨rfl, HS.out.2.trans (HB.out.mono (by have := HS.out.1; omega))⟩

set_option maxHeartbeats 4000000 in
theorem back_long (ideal : Bool) (o : Call) (other : ByteArray) (w : World) (hfw : FewP (fun _ => o) 1 1) (h100 : 100 < other.size) : Calls Try.prog 4 #[.bool ideal, .agg #[.int .u8 o.kind, .int .i64 o.variant, .string o.key, .string o.nonce, .string o.beside, .string o.text, .string o.tag, .int .u8 o.back], .string other] w fun e w' => e = .returned (.bool true) ∧ Below w.heap.size w w' := by
  obtain ⟨W0, hW0⟩ : ∃ W0, W0 = w.alloc (.cells #[.int .u8 o.kind, .int .i64 o.variant, .string o.key, .string o.nonce, .string o.beside, .string o.text, .string o.tag, .int .u8 o.back] 29) := ⟨_, rfl⟩
  have hs0 : W0.heap.size = w.heap.size + 1 := by rw [hW0, alloc_size]
  have hb0 : Below w.heap.size w W0 := by rw [hW0]; exact below_alloc (Below.refl _ _) _
  have ho : D8 w.heap.size o W0 := by rw [hW0]; exact heap_alloc_new w _
  have o0 : ∀ X, Below W0.heap.size W0 X → X.cell? ⟨w.heap.size, 0, none⟩ = some (.int .u8 o.kind) := fun X h => ho.cell (by omega) h 0
  have o1 : ∀ X, Below W0.heap.size W0 X → X.cell? ⟨w.heap.size, 1, none⟩ = some (.int .i64 o.variant) := fun X h => ho.cell (by omega) h 1
  have o2 : ∀ X, Below W0.heap.size W0 X → X.cell? ⟨w.heap.size, 2, none⟩ = some (.string o.key) := fun X h => ho.cell (by omega) h 2
  have o3 : ∀ X, Below W0.heap.size W0 X → X.cell? ⟨w.heap.size, 3, none⟩ = some (.string o.nonce) := fun X h => ho.cell (by omega) h 3
  have o4 : ∀ X, Below W0.heap.size W0 X → X.cell? ⟨w.heap.size, 4, none⟩ = some (.string o.beside) := fun X h => ho.cell (by omega) h 4
  have o5 : ∀ X, Below W0.heap.size W0 X → X.cell? ⟨w.heap.size, 5, none⟩ = some (.string o.text) := fun X h => ho.cell (by omega) h 5
  have o6 : ∀ X, Below W0.heap.size W0 X → X.cell? ⟨w.heap.size, 6, none⟩ = some (.string o.tag) := fun X h => ho.cell (by omega) h 6
  have o7 : ∀ X, Below W0.heap.size W0 X → X.cell? ⟨w.heap.size, 7, none⟩ = some (.int .u8 o.back) := fun X h => ho.cell (by omega) h 7
  have HS := Lib.hid (And.intro hs0 hb0)
  have HW := Lib.hid hW0
  clear ho hs0 hb0 hW0
  have g0 : ∀ X, Calls Try.prog 13 #[.slice (some ⟨X.heap.size, 0, none⟩) 1 1, .int .i64 1] (X.alloc (.cells #[.int .u8 o.kind, .int .i64 o.variant, .string o.key, .string o.nonce, .string o.beside, .string o.text, .string o.tag, .int .u8 o.back] 29)) fun e w' => e = .returned (.bool true) ∧ Below X.heap.size X w' := by
    intro X
    refine (rfew _ 1 1 1 _ _ (lie_one o X) true (by simp [hfw])).mono ?_
    rintro e w' ⟨rfl, hb⟩
    exact ⟨rfl, below_link (below_alloc (Below.refl _ _) _) hb⟩
  have G0 := Lib.hid g0
  clear g0
  have f1 : decide ((100 : Int) < (other.size : Int)) = true := by simp; omega
  have f2 : decide (100 < other.size) = true := by simp; omega
  clear hfw h100
  go_enter Try.func4, Try.ntmps4
  go_wp2_with fail
  rw [← HW.out]
  refine (awake_any _).mono ?_
  rintro e w1 ⟨rfl, hb1⟩
  go_wp2_with fail
  refine (G0.out _).mono ?_
  rintro e w2 ⟨rfl, hb2⟩
  have hb3 := below_link hb1 hb2
  clear hb1 hb2
  go_wp2_with fail
  refine (awake_any _).mono ?_
  rintro e w3 ⟨rfl, hb4⟩
  have HB := Lib.hid (below_link hb3 hb4); clear hb4
  go_wp2
  go_ret
  exact ⟨rfl, HS.out.2.trans (HB.out.mono (by have := HS.out.1; omega))⟩

set_option maxHeartbeats 4000000 in
theorem back_real_sign (o : Call) (other : ByteArray) (w : World) (hfw : FewP (fun _ => o) 1 1) (h100 : other.size ≤ 100) (M : Nat → Nat → World → Prop) (T0 T1 T3 S T2 S4 T4 : ByteArray) (hA : Answers (w.alloc (.cells #[.int .u8 o.kind, .int .i64 o.variant, .string o.key, .string o.nonce, .string o.beside, .string o.text, .string o.tag, .int .u8 o.back] 29)) o other M T0 T1 T3 S T2 S4 T4 0 1) (hmake : ∀ X, Below (w.alloc (.cells #[.int .u8 o.kind, .int .i64 o.variant, .string o.key, .string o.nonce, .string o.beside, .string o.text, .string o.tag, .int .u8 o.back] 29)).heap.size (w.alloc (.cells #[.int .u8 o.kind, .int .i64 o.variant, .string o.key, .string o.nonce, .string o.beside, .string o.text, .string o.tag, .int .u8 o.back] 29)) X → Calls Try.prog 11 #[] X fun e w' => ∃ g, e = .returned (.pointer (some ⟨g, 0, none⟩)) ∧ M 0 g w') (hs :  SignsP o.variant o.key) (hl : ¬ SealsP o.variant o.key o.nonce) (c5 : ∀ g X, M 5 g X → Calls Try.prog 19 #[.pointer (some ⟨g, 0, none⟩), .int .i64 o.variant, .string o.key, .string o.text, .string T1] X fun r w' => r = .returned (.int .i64 0) ∧ M 5 g w') : Calls Try.prog 4 #[.bool false, .agg #[.int .u8 o.kind, .int .i64 o.variant, .string o.key, .string o.nonce, .string o.beside, .string o.text, .string o.tag, .int .u8 o.back], .string other] w fun e w' => e = .returned (.bool true) ∧ Below w.heap.size w w' := by
  obtain ⟨W0, hW0⟩ : ∃ W0, W0 = w.alloc (.cells #[.int .u8 o.kind, .int .i64 o.variant, .string o.key, .string o.nonce, .string o.beside, .string o.text, .string o.tag, .int .u8 o.back] 29) := ⟨_, rfl⟩
  have hs0 : W0.heap.size = w.heap.size + 1 := by rw [hW0, alloc_size]
  have hb0 : Below w.heap.size w W0 := by rw [hW0]; exact below_alloc (Below.refl _ _) _
  have ho : D8 w.heap.size o W0 := by rw [hW0]; exact heap_alloc_new w _
  have o0 : ∀ X, Below W0.heap.size W0 X → X.cell? ⟨w.heap.size, 0, none⟩ = some (.int .u8 o.kind) := fun X h => ho.cell (by omega) h 0
  have o1 : ∀ X, Below W0.heap.size W0 X → X.cell? ⟨w.heap.size, 1, none⟩ = some (.int .i64 o.variant) := fun X h => ho.cell (by omega) h 1
  have o2 : ∀ X, Below W0.heap.size W0 X → X.cell? ⟨w.heap.size, 2, none⟩ = some (.string o.key) := fun X h => ho.cell (by omega) h 2
  have o3 : ∀ X, Below W0.heap.size W0 X → X.cell? ⟨w.heap.size, 3, none⟩ = some (.string o.nonce) := fun X h => ho.cell (by omega) h 3
  have o4 : ∀ X, Below W0.heap.size W0 X → X.cell? ⟨w.heap.size, 4, none⟩ = some (.string o.beside) := fun X h => ho.cell (by omega) h 4
  have o5 : ∀ X, Below W0.heap.size W0 X → X.cell? ⟨w.heap.size, 5, none⟩ = some (.string o.text) := fun X h => ho.cell (by omega) h 5
  have o6 : ∀ X, Below W0.heap.size W0 X → X.cell? ⟨w.heap.size, 6, none⟩ = some (.string o.tag) := fun X h => ho.cell (by omega) h 6
  have o7 : ∀ X, Below W0.heap.size W0 X → X.cell? ⟨w.heap.size, 7, none⟩ = some (.int .u8 o.back) := fun X h => ho.cell (by omega) h 7
  have HS := Lib.hid (And.intro hs0 hb0)
  have HW := Lib.hid hW0
  rw [← hW0] at hA hmake
  clear ho hs0 hb0 hW0
  have g0 : ∀ X, Calls Try.prog 13 #[.slice (some ⟨X.heap.size, 0, none⟩) 1 1, .int .i64 1] (X.alloc (.cells #[.int .u8 o.kind, .int .i64 o.variant, .string o.key, .string o.nonce, .string o.beside, .string o.text, .string o.tag, .int .u8 o.back] 29)) fun e w' => e = .returned (.bool true) ∧ Below X.heap.size X w' := by
    intro X
    refine (rfew _ 1 1 1 _ _ (lie_one o X) true (by simp [hfw])).mono ?_
    rintro e w' ⟨rfl, hb⟩
    exact ⟨rfl, below_link (below_alloc (Below.refl _ _) _) hb⟩
  have G0 := Lib.hid g0
  clear g0
  have f1 : decide ((100 : Int) < (other.size : Int)) = false := by simp; omega
  have f2 : decide (100 < other.size) = false := by simp; omega
  have HM := Lib.hid hA.below
  have A0 := Lib.hid hA.c0
  have A1 := Lib.hid hA.c1
  have A2 := Lib.hid hA.c2
  have A3 := Lib.hid hA.c3
  have A4 := Lib.hid hA.c4
  have MK := Lib.hid hmake
  have R1 := Lib.hid (rsigns o.variant o.key)
  have R2 := Lib.hid (rseals o.variant o.key o.nonce)
  rw [decide_eq_true hs] at R1
  rw [decide_eq_false hl] at R2
  have A5 := Lib.hid c5
  clear c5
  clear hfw h100 hA hmake hs hl
  go_enter Try.func4, Try.ntmps4
  go_wp2_with fail
  rw [← HW.out]
  refine (awake_any _).mono ?_
  rintro e w1 ⟨rfl, hb1⟩
  go_wp2_with fail
  refine (G0.out _).mono ?_
  rintro e w2 ⟨rfl, hb2⟩
  have hb3 := below_link hb1 hb2
  clear hb1 hb2
  go_wp2_with fail
  refine (MK.out _ hb3).mono ?_
  rintro e w4 ⟨g, rfl, ht⟩
  have T4' := Lib.hid ht
  have hb4 := HM.out _ _ _ ht
  clear ht hb3
  go_wp2_with fail
  refine (A0.out g _ T4'.out).mono ?_
  rintro e w5 ⟨rfl, ht⟩
  have T5' := Lib.hid ht
  have hb5 := HM.out _ _ _ ht
  clear ht hb4
  go_wp2_with fail
  refine (A1.out g _ T5'.out).mono ?_
  rintro e w6 ⟨rfl, ht⟩
  have T6' := Lib.hid ht
  have hb6 := HM.out _ _ _ ht
  clear ht hb5
  go_wp2_with fail
  refine (A2.out g _ T6'.out).mono ?_
  rintro e w7 ⟨rfl, ht⟩
  have T7' := Lib.hid ht
  have hb7 := HM.out _ _ _ ht
  clear ht hb6
  go_wp2_with fail
  refine (A3.out g _ T7'.out).mono ?_
  rintro e w8 ⟨rfl, ht⟩
  have T8' := Lib.hid ht
  have hb8 := HM.out _ _ _ ht
  clear ht hb7
  go_wp2_with fail
  refine (A4.out g _ T8'.out).mono ?_
  rintro e w9 ⟨rfl, ht⟩
  have T9' := Lib.hid ht
  have hb9 := HM.out _ _ _ ht
  clear ht hb8
  go_wp2_with fail
  refine (R1.out _).mono ?_
  rintro e wq ⟨rfl, hw⟩
  rw [hw]
  clear hw
  go_wp2_with fail
  refine (R2.out _).mono ?_
  rintro e wq ⟨rfl, hw⟩
  rw [hw]
  clear hw
  go_wp2_with fail
  refine (A5.out g _ T9'.out).mono ?_
  rintro e w10 ⟨rfl, ht⟩
  have T10' := Lib.hid ht
  have hb10 := HM.out _ _ _ ht
  clear ht hb9
  have HB := Lib.hid hb10
  go_wp2
  go_ret
  exact ⟨rfl, HS.out.2.trans (HB.out.mono (by have := HS.out.1; omega))⟩

set_option maxHeartbeats 4000000 in
theorem back_real_seal (o : Call) (other : ByteArray) (w : World) (hfw : FewP (fun _ => o) 1 1) (h100 : other.size ≤ 100) (M : Nat → Nat → World → Prop) (T0 T1 T3 S T2 S4 T4 : ByteArray) (hA : Answers (w.alloc (.cells #[.int .u8 o.kind, .int .i64 o.variant, .string o.key, .string o.nonce, .string o.beside, .string o.text, .string o.tag, .int .u8 o.back] 29)) o other M T0 T1 T3 S T2 S4 T4 1 0) (hmake : ∀ X, Below (w.alloc (.cells #[.int .u8 o.kind, .int .i64 o.variant, .string o.key, .string o.nonce, .string o.beside, .string o.text, .string o.tag, .int .u8 o.back] 29)).heap.size (w.alloc (.cells #[.int .u8 o.kind, .int .i64 o.variant, .string o.key, .string o.nonce, .string o.beside, .string o.text, .string o.tag, .int .u8 o.back] 29)) X → Calls Try.prog 11 #[] X fun e w' => ∃ g, e = .returned (.pointer (some ⟨g, 0, none⟩)) ∧ M 0 g w') (hs : ¬ SignsP o.variant o.key) (hl :  SealsP o.variant o.key o.nonce) (c6 : ∀ g X, M 5 g X → Calls Try.prog 20 #[.pointer (some ⟨g, 0, none⟩), .int .i64 o.variant, .string o.key, .string o.nonce, .string o.beside, .string S, .string T2] X fun r w' => r = .returned (.tuple #[.string o.text, .int .i64 0]) ∧ M 5 g w') (hS : S.size = o.text.size) : Calls Try.prog 4 #[.bool false, .agg #[.int .u8 o.kind, .int .i64 o.variant, .string o.key, .string o.nonce, .string o.beside, .string o.text, .string o.tag, .int .u8 o.back], .string other] w fun e w' => e = .returned (.bool true) ∧ Below w.heap.size w w' := by
  obtain ⟨W0, hW0⟩ : ∃ W0, W0 = w.alloc (.cells #[.int .u8 o.kind, .int .i64 o.variant, .string o.key, .string o.nonce, .string o.beside, .string o.text, .string o.tag, .int .u8 o.back] 29) := ⟨_, rfl⟩
  have hs0 : W0.heap.size = w.heap.size + 1 := by rw [hW0, alloc_size]
  have hb0 : Below w.heap.size w W0 := by rw [hW0]; exact below_alloc (Below.refl _ _) _
  have ho : D8 w.heap.size o W0 := by rw [hW0]; exact heap_alloc_new w _
  have o0 : ∀ X, Below W0.heap.size W0 X → X.cell? ⟨w.heap.size, 0, none⟩ = some (.int .u8 o.kind) := fun X h => ho.cell (by omega) h 0
  have o1 : ∀ X, Below W0.heap.size W0 X → X.cell? ⟨w.heap.size, 1, none⟩ = some (.int .i64 o.variant) := fun X h => ho.cell (by omega) h 1
  have o2 : ∀ X, Below W0.heap.size W0 X → X.cell? ⟨w.heap.size, 2, none⟩ = some (.string o.key) := fun X h => ho.cell (by omega) h 2
  have o3 : ∀ X, Below W0.heap.size W0 X → X.cell? ⟨w.heap.size, 3, none⟩ = some (.string o.nonce) := fun X h => ho.cell (by omega) h 3
  have o4 : ∀ X, Below W0.heap.size W0 X → X.cell? ⟨w.heap.size, 4, none⟩ = some (.string o.beside) := fun X h => ho.cell (by omega) h 4
  have o5 : ∀ X, Below W0.heap.size W0 X → X.cell? ⟨w.heap.size, 5, none⟩ = some (.string o.text) := fun X h => ho.cell (by omega) h 5
  have o6 : ∀ X, Below W0.heap.size W0 X → X.cell? ⟨w.heap.size, 6, none⟩ = some (.string o.tag) := fun X h => ho.cell (by omega) h 6
  have o7 : ∀ X, Below W0.heap.size W0 X → X.cell? ⟨w.heap.size, 7, none⟩ = some (.int .u8 o.back) := fun X h => ho.cell (by omega) h 7
  have HS := Lib.hid (And.intro hs0 hb0)
  have HW := Lib.hid hW0
  rw [← hW0] at hA hmake
  clear ho hs0 hb0 hW0
  have g0 : ∀ X, Calls Try.prog 13 #[.slice (some ⟨X.heap.size, 0, none⟩) 1 1, .int .i64 1] (X.alloc (.cells #[.int .u8 o.kind, .int .i64 o.variant, .string o.key, .string o.nonce, .string o.beside, .string o.text, .string o.tag, .int .u8 o.back] 29)) fun e w' => e = .returned (.bool true) ∧ Below X.heap.size X w' := by
    intro X
    refine (rfew _ 1 1 1 _ _ (lie_one o X) true (by simp [hfw])).mono ?_
    rintro e w' ⟨rfl, hb⟩
    exact ⟨rfl, below_link (below_alloc (Below.refl _ _) _) hb⟩
  have G0 := Lib.hid g0
  clear g0
  have f1 : decide ((100 : Int) < (other.size : Int)) = false := by simp; omega
  have f2 : decide (100 < other.size) = false := by simp; omega
  have HM := Lib.hid hA.below
  have A0 := Lib.hid hA.c0
  have A1 := Lib.hid hA.c1
  have A2 := Lib.hid hA.c2
  have A3 := Lib.hid hA.c3
  have A4 := Lib.hid hA.c4
  have MK := Lib.hid hmake
  have R1 := Lib.hid (rsigns o.variant o.key)
  have R2 := Lib.hid (rseals o.variant o.key o.nonce)
  rw [decide_eq_false hs] at R1
  rw [decide_eq_true hl] at R2
  have A6 := Lib.hid c6
  clear c6
  clear hfw h100 hA hmake hs hl
  go_enter Try.func4, Try.ntmps4
  go_wp2_with fail
  rw [← HW.out]
  refine (awake_any _).mono ?_
  rintro e w1 ⟨rfl, hb1⟩
  go_wp2_with fail
  refine (G0.out _).mono ?_
  rintro e w2 ⟨rfl, hb2⟩
  have hb3 := below_link hb1 hb2
  clear hb1 hb2
  go_wp2_with fail
  refine (MK.out _ hb3).mono ?_
  rintro e w4 ⟨g, rfl, ht⟩
  have T4' := Lib.hid ht
  have hb4 := HM.out _ _ _ ht
  clear ht hb3
  go_wp2_with fail
  refine (A0.out g _ T4'.out).mono ?_
  rintro e w5 ⟨rfl, ht⟩
  have T5' := Lib.hid ht
  have hb5 := HM.out _ _ _ ht
  clear ht hb4
  go_wp2_with fail
  refine (A1.out g _ T5'.out).mono ?_
  rintro e w6 ⟨rfl, ht⟩
  have T6' := Lib.hid ht
  have hb6 := HM.out _ _ _ ht
  clear ht hb5
  go_wp2_with fail
  refine (A2.out g _ T6'.out).mono ?_
  rintro e w7 ⟨rfl, ht⟩
  have T7' := Lib.hid ht
  have hb7 := HM.out _ _ _ ht
  clear ht hb6
  go_wp2_with fail
  refine (A3.out g _ T7'.out).mono ?_
  rintro e w8 ⟨rfl, ht⟩
  have T8' := Lib.hid ht
  have hb8 := HM.out _ _ _ ht
  clear ht hb7
  go_wp2_with fail
  refine (A4.out g _ T8'.out).mono ?_
  rintro e w9 ⟨rfl, ht⟩
  have T9' := Lib.hid ht
  have hb9 := HM.out _ _ _ ht
  clear ht hb8
  go_wp2_with fail
  refine (R1.out _).mono ?_
  rintro e wq ⟨rfl, hw⟩
  rw [hw]
  clear hw
  go_wp2_with fail
  refine (R2.out _).mono ?_
  rintro e wq ⟨rfl, hw⟩
  rw [hw]
  clear hw
  go_wp2_with fail
  refine (A6.out g _ T9'.out).mono ?_
  rintro e w10 ⟨rfl, ht⟩
  have T10' := Lib.hid ht
  have hb10 := HM.out _ _ _ ht
  clear ht hb9
  have HB := Lib.hid hb10
  go_wp2
  go_ret
  exact ⟨rfl, HS.out.2.trans (HB.out.mono (by have := HS.out.1; omega))⟩

set_option maxHeartbeats 4000000 in
theorem back_real_none (o : Call) (other : ByteArray) (w : World) (hfw : FewP (fun _ => o) 1 1) (h100 : other.size ≤ 100) (M : Nat → Nat → World → Prop) (T0 T1 T3 S T2 S4 T4 : ByteArray) (hA : Answers (w.alloc (.cells #[.int .u8 o.kind, .int .i64 o.variant, .string o.key, .string o.nonce, .string o.beside, .string o.text, .string o.tag, .int .u8 o.back] 29)) o other M T0 T1 T3 S T2 S4 T4 1 1) (hmake : ∀ X, Below (w.alloc (.cells #[.int .u8 o.kind, .int .i64 o.variant, .string o.key, .string o.nonce, .string o.beside, .string o.text, .string o.tag, .int .u8 o.back] 29)).heap.size (w.alloc (.cells #[.int .u8 o.kind, .int .i64 o.variant, .string o.key, .string o.nonce, .string o.beside, .string o.text, .string o.tag, .int .u8 o.back] 29)) X → Calls Try.prog 11 #[] X fun e w' => ∃ g, e = .returned (.pointer (some ⟨g, 0, none⟩)) ∧ M 0 g w') (hs : ¬ SignsP o.variant o.key) (hl : ¬ SealsP o.variant o.key o.nonce) : Calls Try.prog 4 #[.bool false, .agg #[.int .u8 o.kind, .int .i64 o.variant, .string o.key, .string o.nonce, .string o.beside, .string o.text, .string o.tag, .int .u8 o.back], .string other] w fun e w' => e = .returned (.bool true) ∧ Below w.heap.size w w' := by
  obtain ⟨W0, hW0⟩ : ∃ W0, W0 = w.alloc (.cells #[.int .u8 o.kind, .int .i64 o.variant, .string o.key, .string o.nonce, .string o.beside, .string o.text, .string o.tag, .int .u8 o.back] 29) := ⟨_, rfl⟩
  have hs0 : W0.heap.size = w.heap.size + 1 := by rw [hW0, alloc_size]
  have hb0 : Below w.heap.size w W0 := by rw [hW0]; exact below_alloc (Below.refl _ _) _
  have ho : D8 w.heap.size o W0 := by rw [hW0]; exact heap_alloc_new w _
  have o0 : ∀ X, Below W0.heap.size W0 X → X.cell? ⟨w.heap.size, 0, none⟩ = some (.int .u8 o.kind) := fun X h => ho.cell (by omega) h 0
  have o1 : ∀ X, Below W0.heap.size W0 X → X.cell? ⟨w.heap.size, 1, none⟩ = some (.int .i64 o.variant) := fun X h => ho.cell (by omega) h 1
  have o2 : ∀ X, Below W0.heap.size W0 X → X.cell? ⟨w.heap.size, 2, none⟩ = some (.string o.key) := fun X h => ho.cell (by omega) h 2
  have o3 : ∀ X, Below W0.heap.size W0 X → X.cell? ⟨w.heap.size, 3, none⟩ = some (.string o.nonce) := fun X h => ho.cell (by omega) h 3
  have o4 : ∀ X, Below W0.heap.size W0 X → X.cell? ⟨w.heap.size, 4, none⟩ = some (.string o.beside) := fun X h => ho.cell (by omega) h 4
  have o5 : ∀ X, Below W0.heap.size W0 X → X.cell? ⟨w.heap.size, 5, none⟩ = some (.string o.text) := fun X h => ho.cell (by omega) h 5
  have o6 : ∀ X, Below W0.heap.size W0 X → X.cell? ⟨w.heap.size, 6, none⟩ = some (.string o.tag) := fun X h => ho.cell (by omega) h 6
  have o7 : ∀ X, Below W0.heap.size W0 X → X.cell? ⟨w.heap.size, 7, none⟩ = some (.int .u8 o.back) := fun X h => ho.cell (by omega) h 7
  have HS := Lib.hid (And.intro hs0 hb0)
  have HW := Lib.hid hW0
  rw [← hW0] at hA hmake
  clear ho hs0 hb0 hW0
  have g0 : ∀ X, Calls Try.prog 13 #[.slice (some ⟨X.heap.size, 0, none⟩) 1 1, .int .i64 1] (X.alloc (.cells #[.int .u8 o.kind, .int .i64 o.variant, .string o.key, .string o.nonce, .string o.beside, .string o.text, .string o.tag, .int .u8 o.back] 29)) fun e w' => e = .returned (.bool true) ∧ Below X.heap.size X w' := by
    intro X
    refine (rfew _ 1 1 1 _ _ (lie_one o X) true (by simp [hfw])).mono ?_
    rintro e w' ⟨rfl, hb⟩
    exact ⟨rfl, below_link (below_alloc (Below.refl _ _) _) hb⟩
  have G0 := Lib.hid g0
  clear g0
  have f1 : decide ((100 : Int) < (other.size : Int)) = false := by simp; omega
  have f2 : decide (100 < other.size) = false := by simp; omega
  have HM := Lib.hid hA.below
  have A0 := Lib.hid hA.c0
  have A1 := Lib.hid hA.c1
  have A2 := Lib.hid hA.c2
  have A3 := Lib.hid hA.c3
  have A4 := Lib.hid hA.c4
  have MK := Lib.hid hmake
  have R1 := Lib.hid (rsigns o.variant o.key)
  have R2 := Lib.hid (rseals o.variant o.key o.nonce)
  rw [decide_eq_false hs] at R1
  rw [decide_eq_false hl] at R2
  clear hfw h100 hA hmake hs hl
  go_enter Try.func4, Try.ntmps4
  go_wp2_with fail
  rw [← HW.out]
  refine (awake_any _).mono ?_
  rintro e w1 ⟨rfl, hb1⟩
  go_wp2_with fail
  refine (G0.out _).mono ?_
  rintro e w2 ⟨rfl, hb2⟩
  have hb3 := below_link hb1 hb2
  clear hb1 hb2
  go_wp2_with fail
  refine (MK.out _ hb3).mono ?_
  rintro e w4 ⟨g, rfl, ht⟩
  have T4' := Lib.hid ht
  have hb4 := HM.out _ _ _ ht
  clear ht hb3
  go_wp2_with fail
  refine (A0.out g _ T4'.out).mono ?_
  rintro e w5 ⟨rfl, ht⟩
  have T5' := Lib.hid ht
  have hb5 := HM.out _ _ _ ht
  clear ht hb4
  go_wp2_with fail
  refine (A1.out g _ T5'.out).mono ?_
  rintro e w6 ⟨rfl, ht⟩
  have T6' := Lib.hid ht
  have hb6 := HM.out _ _ _ ht
  clear ht hb5
  go_wp2_with fail
  refine (A2.out g _ T6'.out).mono ?_
  rintro e w7 ⟨rfl, ht⟩
  have T7' := Lib.hid ht
  have hb7 := HM.out _ _ _ ht
  clear ht hb6
  go_wp2_with fail
  refine (A3.out g _ T7'.out).mono ?_
  rintro e w8 ⟨rfl, ht⟩
  have T8' := Lib.hid ht
  have hb8 := HM.out _ _ _ ht
  clear ht hb7
  go_wp2_with fail
  refine (A4.out g _ T8'.out).mono ?_
  rintro e w9 ⟨rfl, ht⟩
  have T9' := Lib.hid ht
  have hb9 := HM.out _ _ _ ht
  clear ht hb8
  go_wp2_with fail
  refine (R1.out _).mono ?_
  rintro e wq ⟨rfl, hw⟩
  rw [hw]
  clear hw
  go_wp2_with fail
  refine (R2.out _).mono ?_
  rintro e wq ⟨rfl, hw⟩
  rw [hw]
  clear hw
  have HB := Lib.hid hb9
  go_wp2
  go_ret
  exact ⟨rfl, HS.out.2.trans (HB.out.mono (by have := HS.out.1; omega))⟩

set_option maxHeartbeats 4000000 in
theorem back_ideal_sign (o : Call) (other : ByteArray) (w : World) (hfw : FewP (fun _ => o) 1 1) (h100 : other.size ≤ 100) (M : Nat → Nat → World → Prop) (T0 T1 T3 S T2 S4 T4 : ByteArray) (hA : Answers (w.alloc (.cells #[.int .u8 o.kind, .int .i64 o.variant, .string o.key, .string o.nonce, .string o.beside, .string o.text, .string o.tag, .int .u8 o.back] 29)) o other M T0 T1 T3 S T2 S4 T4 0 1) (hmake : ∀ X, Below (w.alloc (.cells #[.int .u8 o.kind, .int .i64 o.variant, .string o.key, .string o.nonce, .string o.beside, .string o.text, .string o.tag, .int .u8 o.back] 29)).heap.size (w.alloc (.cells #[.int .u8 o.kind, .int .i64 o.variant, .string o.key, .string o.nonce, .string o.beside, .string o.text, .string o.tag, .int .u8 o.back] 29)) X → Calls Try.prog 14 #[] X fun e w' => ∃ g, e = .returned (.pointer (some ⟨g, 0, none⟩)) ∧ M 0 g w') (hs :  SignsP o.variant o.key) (hl : ¬ SealsP o.variant o.key o.nonce) (c5 : ∀ g X, M 5 g X → Calls Try.prog 19 #[.pointer (some ⟨g, 0, none⟩), .int .i64 o.variant, .string o.key, .string o.text, .string T1] X fun r w' => r = .returned (.int .i64 0) ∧ M 5 g w') : Calls Try.prog 4 #[.bool true, .agg #[.int .u8 o.kind, .int .i64 o.variant, .string o.key, .string o.nonce, .string o.beside, .string o.text, .string o.tag, .int .u8 o.back], .string other] w fun e w' => e = .returned (.bool true) ∧ Below w.heap.size w w' := by
  obtain ⟨W0, hW0⟩ : ∃ W0, W0 = w.alloc (.cells #[.int .u8 o.kind, .int .i64 o.variant, .string o.key, .string o.nonce, .string o.beside, .string o.text, .string o.tag, .int .u8 o.back] 29) := ⟨_, rfl⟩
  have hs0 : W0.heap.size = w.heap.size + 1 := by rw [hW0, alloc_size]
  have hb0 : Below w.heap.size w W0 := by rw [hW0]; exact below_alloc (Below.refl _ _) _
  have ho : D8 w.heap.size o W0 := by rw [hW0]; exact heap_alloc_new w _
  have o0 : ∀ X, Below W0.heap.size W0 X → X.cell? ⟨w.heap.size, 0, none⟩ = some (.int .u8 o.kind) := fun X h => ho.cell (by omega) h 0
  have o1 : ∀ X, Below W0.heap.size W0 X → X.cell? ⟨w.heap.size, 1, none⟩ = some (.int .i64 o.variant) := fun X h => ho.cell (by omega) h 1
  have o2 : ∀ X, Below W0.heap.size W0 X → X.cell? ⟨w.heap.size, 2, none⟩ = some (.string o.key) := fun X h => ho.cell (by omega) h 2
  have o3 : ∀ X, Below W0.heap.size W0 X → X.cell? ⟨w.heap.size, 3, none⟩ = some (.string o.nonce) := fun X h => ho.cell (by omega) h 3
  have o4 : ∀ X, Below W0.heap.size W0 X → X.cell? ⟨w.heap.size, 4, none⟩ = some (.string o.beside) := fun X h => ho.cell (by omega) h 4
  have o5 : ∀ X, Below W0.heap.size W0 X → X.cell? ⟨w.heap.size, 5, none⟩ = some (.string o.text) := fun X h => ho.cell (by omega) h 5
  have o6 : ∀ X, Below W0.heap.size W0 X → X.cell? ⟨w.heap.size, 6, none⟩ = some (.string o.tag) := fun X h => ho.cell (by omega) h 6
  have o7 : ∀ X, Below W0.heap.size W0 X → X.cell? ⟨w.heap.size, 7, none⟩ = some (.int .u8 o.back) := fun X h => ho.cell (by omega) h 7
  have HS := Lib.hid (And.intro hs0 hb0)
  have HW := Lib.hid hW0
  rw [← hW0] at hA hmake
  clear ho hs0 hb0 hW0
  have g0 : ∀ X, Calls Try.prog 13 #[.slice (some ⟨X.heap.size, 0, none⟩) 1 1, .int .i64 1] (X.alloc (.cells #[.int .u8 o.kind, .int .i64 o.variant, .string o.key, .string o.nonce, .string o.beside, .string o.text, .string o.tag, .int .u8 o.back] 29)) fun e w' => e = .returned (.bool true) ∧ Below X.heap.size X w' := by
    intro X
    refine (rfew _ 1 1 1 _ _ (lie_one o X) true (by simp [hfw])).mono ?_
    rintro e w' ⟨rfl, hb⟩
    exact ⟨rfl, below_link (below_alloc (Below.refl _ _) _) hb⟩
  have G0 := Lib.hid g0
  clear g0
  have f1 : decide ((100 : Int) < (other.size : Int)) = false := by simp; omega
  have f2 : decide (100 < other.size) = false := by simp; omega
  have HM := Lib.hid hA.below
  have A0 := Lib.hid hA.c0
  have A1 := Lib.hid hA.c1
  have A2 := Lib.hid hA.c2
  have A3 := Lib.hid hA.c3
  have A4 := Lib.hid hA.c4
  have MK := Lib.hid hmake
  have R1 := Lib.hid (rsigns o.variant o.key)
  have R2 := Lib.hid (rseals o.variant o.key o.nonce)
  rw [decide_eq_true hs] at R1
  rw [decide_eq_false hl] at R2
  have A5 := Lib.hid c5
  clear c5
  clear hfw h100 hA hmake hs hl
  go_enter Try.func4, Try.ntmps4
  go_wp2_with fail
  rw [← HW.out]
  refine (awake_any _).mono ?_
  rintro e w1 ⟨rfl, hb1⟩
  go_wp2_with fail
  refine (G0.out _).mono ?_
  rintro e w2 ⟨rfl, hb2⟩
  have hb3 := below_link hb1 hb2
  clear hb1 hb2
  go_wp2_with fail
  refine (real_any _).mono ?_
  rintro e w3 ⟨g0, rfl, -, -, -, hb⟩
  have hb3' := below_link hb3 hb
  clear hb hb3
  go_wp2_with fail
  refine (MK.out _ hb3').mono ?_
  rintro e w4 ⟨g, rfl, ht⟩
  have T4' := Lib.hid ht
  have hb4 := HM.out _ _ _ ht
  clear ht hb3'
  go_wp2_with fail
  refine (A0.out g _ T4'.out).mono ?_
  rintro e w5 ⟨rfl, ht⟩
  have T5' := Lib.hid ht
  have hb5 := HM.out _ _ _ ht
  clear ht hb4
  go_wp2_with fail
  refine (A1.out g _ T5'.out).mono ?_
  rintro e w6 ⟨rfl, ht⟩
  have T6' := Lib.hid ht
  have hb6 := HM.out _ _ _ ht
  clear ht hb5
  go_wp2_with fail
  refine (A2.out g _ T6'.out).mono ?_
  rintro e w7 ⟨rfl, ht⟩
  have T7' := Lib.hid ht
  have hb7 := HM.out _ _ _ ht
  clear ht hb6
  go_wp2_with fail
  refine (A3.out g _ T7'.out).mono ?_
  rintro e w8 ⟨rfl, ht⟩
  have T8' := Lib.hid ht
  have hb8 := HM.out _ _ _ ht
  clear ht hb7
  go_wp2_with fail
  refine (A4.out g _ T8'.out).mono ?_
  rintro e w9 ⟨rfl, ht⟩
  have T9' := Lib.hid ht
  have hb9 := HM.out _ _ _ ht
  clear ht hb8
  go_wp2_with fail
  refine (R1.out _).mono ?_
  rintro e wq ⟨rfl, hw⟩
  rw [hw]
  clear hw
  go_wp2_with fail
  refine (R2.out _).mono ?_
  rintro e wq ⟨rfl, hw⟩
  rw [hw]
  clear hw
  go_wp2_with fail
  refine (A5.out g _ T9'.out).mono ?_
  rintro e w10 ⟨rfl, ht⟩
  have T10' := Lib.hid ht
  have hb10 := HM.out _ _ _ ht
  clear ht hb9
  have HB := Lib.hid hb10
  go_wp2
  go_ret
  exact ⟨rfl, HS.out.2.trans (HB.out.mono (by have := HS.out.1; omega))⟩

set_option maxHeartbeats 4000000 in
theorem back_ideal_seal (o : Call) (other : ByteArray) (w : World) (hfw : FewP (fun _ => o) 1 1) (h100 : other.size ≤ 100) (M : Nat → Nat → World → Prop) (T0 T1 T3 S T2 S4 T4 : ByteArray) (hA : Answers (w.alloc (.cells #[.int .u8 o.kind, .int .i64 o.variant, .string o.key, .string o.nonce, .string o.beside, .string o.text, .string o.tag, .int .u8 o.back] 29)) o other M T0 T1 T3 S T2 S4 T4 1 0) (hmake : ∀ X, Below (w.alloc (.cells #[.int .u8 o.kind, .int .i64 o.variant, .string o.key, .string o.nonce, .string o.beside, .string o.text, .string o.tag, .int .u8 o.back] 29)).heap.size (w.alloc (.cells #[.int .u8 o.kind, .int .i64 o.variant, .string o.key, .string o.nonce, .string o.beside, .string o.text, .string o.tag, .int .u8 o.back] 29)) X → Calls Try.prog 14 #[] X fun e w' => ∃ g, e = .returned (.pointer (some ⟨g, 0, none⟩)) ∧ M 0 g w') (hs : ¬ SignsP o.variant o.key) (hl :  SealsP o.variant o.key o.nonce) (c6 : ∀ g X, M 5 g X → Calls Try.prog 20 #[.pointer (some ⟨g, 0, none⟩), .int .i64 o.variant, .string o.key, .string o.nonce, .string o.beside, .string S, .string T2] X fun r w' => r = .returned (.tuple #[.string o.text, .int .i64 0]) ∧ M 5 g w') (hS : S.size = o.text.size) : Calls Try.prog 4 #[.bool true, .agg #[.int .u8 o.kind, .int .i64 o.variant, .string o.key, .string o.nonce, .string o.beside, .string o.text, .string o.tag, .int .u8 o.back], .string other] w fun e w' => e = .returned (.bool true) ∧ Below w.heap.size w w' := by
  obtain ⟨W0, hW0⟩ : ∃ W0, W0 = w.alloc (.cells #[.int .u8 o.kind, .int .i64 o.variant, .string o.key, .string o.nonce, .string o.beside, .string o.text, .string o.tag, .int .u8 o.back] 29) := ⟨_, rfl⟩
  have hs0 : W0.heap.size = w.heap.size + 1 := by rw [hW0, alloc_size]
  have hb0 : Below w.heap.size w W0 := by rw [hW0]; exact below_alloc (Below.refl _ _) _
  have ho : D8 w.heap.size o W0 := by rw [hW0]; exact heap_alloc_new w _
  have o0 : ∀ X, Below W0.heap.size W0 X → X.cell? ⟨w.heap.size, 0, none⟩ = some (.int .u8 o.kind) := fun X h => ho.cell (by omega) h 0
  have o1 : ∀ X, Below W0.heap.size W0 X → X.cell? ⟨w.heap.size, 1, none⟩ = some (.int .i64 o.variant) := fun X h => ho.cell (by omega) h 1
  have o2 : ∀ X, Below W0.heap.size W0 X → X.cell? ⟨w.heap.size, 2, none⟩ = some (.string o.key) := fun X h => ho.cell (by omega) h 2
  have o3 : ∀ X, Below W0.heap.size W0 X → X.cell? ⟨w.heap.size, 3, none⟩ = some (.string o.nonce) := fun X h => ho.cell (by omega) h 3
  have o4 : ∀ X, Below W0.heap.size W0 X → X.cell? ⟨w.heap.size, 4, none⟩ = some (.string o.beside) := fun X h => ho.cell (by omega) h 4
  have o5 : ∀ X, Below W0.heap.size W0 X → X.cell? ⟨w.heap.size, 5, none⟩ = some (.string o.text) := fun X h => ho.cell (by omega) h 5
  have o6 : ∀ X, Below W0.heap.size W0 X → X.cell? ⟨w.heap.size, 6, none⟩ = some (.string o.tag) := fun X h => ho.cell (by omega) h 6
  have o7 : ∀ X, Below W0.heap.size W0 X → X.cell? ⟨w.heap.size, 7, none⟩ = some (.int .u8 o.back) := fun X h => ho.cell (by omega) h 7
  have HS := Lib.hid (And.intro hs0 hb0)
  have HW := Lib.hid hW0
  rw [← hW0] at hA hmake
  clear ho hs0 hb0 hW0
  have g0 : ∀ X, Calls Try.prog 13 #[.slice (some ⟨X.heap.size, 0, none⟩) 1 1, .int .i64 1] (X.alloc (.cells #[.int .u8 o.kind, .int .i64 o.variant, .string o.key, .string o.nonce, .string o.beside, .string o.text, .string o.tag, .int .u8 o.back] 29)) fun e w' => e = .returned (.bool true) ∧ Below X.heap.size X w' := by
    intro X
    refine (rfew _ 1 1 1 _ _ (lie_one o X) true (by simp [hfw])).mono ?_
    rintro e w' ⟨rfl, hb⟩
    exact ⟨rfl, below_link (below_alloc (Below.refl _ _) _) hb⟩
  have G0 := Lib.hid g0
  clear g0
  have f1 : decide ((100 : Int) < (other.size : Int)) = false := by simp; omega
  have f2 : decide (100 < other.size) = false := by simp; omega
  have HM := Lib.hid hA.below
  have A0 := Lib.hid hA.c0
  have A1 := Lib.hid hA.c1
  have A2 := Lib.hid hA.c2
  have A3 := Lib.hid hA.c3
  have A4 := Lib.hid hA.c4
  have MK := Lib.hid hmake
  have R1 := Lib.hid (rsigns o.variant o.key)
  have R2 := Lib.hid (rseals o.variant o.key o.nonce)
  rw [decide_eq_false hs] at R1
  rw [decide_eq_true hl] at R2
  have A6 := Lib.hid c6
  clear c6
  clear hfw h100 hA hmake hs hl
  go_enter Try.func4, Try.ntmps4
  go_wp2_with fail
  rw [← HW.out]
  refine (awake_any _).mono ?_
  rintro e w1 ⟨rfl, hb1⟩
  go_wp2_with fail
  refine (G0.out _).mono ?_
  rintro e w2 ⟨rfl, hb2⟩
  have hb3 := below_link hb1 hb2
  clear hb1 hb2
  go_wp2_with fail
  refine (real_any _).mono ?_
  rintro e w3 ⟨g0, rfl, -, -, -, hb⟩
  have hb3' := below_link hb3 hb
  clear hb hb3
  go_wp2_with fail
  refine (MK.out _ hb3').mono ?_
  rintro e w4 ⟨g, rfl, ht⟩
  have T4' := Lib.hid ht
  have hb4 := HM.out _ _ _ ht
  clear ht hb3'
  go_wp2_with fail
  refine (A0.out g _ T4'.out).mono ?_
  rintro e w5 ⟨rfl, ht⟩
  have T5' := Lib.hid ht
  have hb5 := HM.out _ _ _ ht
  clear ht hb4
  go_wp2_with fail
  refine (A1.out g _ T5'.out).mono ?_
  rintro e w6 ⟨rfl, ht⟩
  have T6' := Lib.hid ht
  have hb6 := HM.out _ _ _ ht
  clear ht hb5
  go_wp2_with fail
  refine (A2.out g _ T6'.out).mono ?_
  rintro e w7 ⟨rfl, ht⟩
  have T7' := Lib.hid ht
  have hb7 := HM.out _ _ _ ht
  clear ht hb6
  go_wp2_with fail
  refine (A3.out g _ T7'.out).mono ?_
  rintro e w8 ⟨rfl, ht⟩
  have T8' := Lib.hid ht
  have hb8 := HM.out _ _ _ ht
  clear ht hb7
  go_wp2_with fail
  refine (A4.out g _ T8'.out).mono ?_
  rintro e w9 ⟨rfl, ht⟩
  have T9' := Lib.hid ht
  have hb9 := HM.out _ _ _ ht
  clear ht hb8
  go_wp2_with fail
  refine (R1.out _).mono ?_
  rintro e wq ⟨rfl, hw⟩
  rw [hw]
  clear hw
  go_wp2_with fail
  refine (R2.out _).mono ?_
  rintro e wq ⟨rfl, hw⟩
  rw [hw]
  clear hw
  go_wp2_with fail
  refine (A6.out g _ T9'.out).mono ?_
  rintro e w10 ⟨rfl, ht⟩
  have T10' := Lib.hid ht
  have hb10 := HM.out _ _ _ ht
  clear ht hb9
  have HB := Lib.hid hb10
  go_wp2
  go_ret
  exact ⟨rfl, HS.out.2.trans (HB.out.mono (by have := HS.out.1; omega))⟩

set_option maxHeartbeats 4000000 in
theorem back_ideal_none (o : Call) (other : ByteArray) (w : World) (hfw : FewP (fun _ => o) 1 1) (h100 : other.size ≤ 100) (M : Nat → Nat → World → Prop) (T0 T1 T3 S T2 S4 T4 : ByteArray) (hA : Answers (w.alloc (.cells #[.int .u8 o.kind, .int .i64 o.variant, .string o.key, .string o.nonce, .string o.beside, .string o.text, .string o.tag, .int .u8 o.back] 29)) o other M T0 T1 T3 S T2 S4 T4 1 1) (hmake : ∀ X, Below (w.alloc (.cells #[.int .u8 o.kind, .int .i64 o.variant, .string o.key, .string o.nonce, .string o.beside, .string o.text, .string o.tag, .int .u8 o.back] 29)).heap.size (w.alloc (.cells #[.int .u8 o.kind, .int .i64 o.variant, .string o.key, .string o.nonce, .string o.beside, .string o.text, .string o.tag, .int .u8 o.back] 29)) X → Calls Try.prog 14 #[] X fun e w' => ∃ g, e = .returned (.pointer (some ⟨g, 0, none⟩)) ∧ M 0 g w') (hs : ¬ SignsP o.variant o.key) (hl : ¬ SealsP o.variant o.key o.nonce) : Calls Try.prog 4 #[.bool true, .agg #[.int .u8 o.kind, .int .i64 o.variant, .string o.key, .string o.nonce, .string o.beside, .string o.text, .string o.tag, .int .u8 o.back], .string other] w fun e w' => e = .returned (.bool true) ∧ Below w.heap.size w w' := by
  obtain ⟨W0, hW0⟩ : ∃ W0, W0 = w.alloc (.cells #[.int .u8 o.kind, .int .i64 o.variant, .string o.key, .string o.nonce, .string o.beside, .string o.text, .string o.tag, .int .u8 o.back] 29) := ⟨_, rfl⟩
  have hs0 : W0.heap.size = w.heap.size + 1 := by rw [hW0, alloc_size]
  have hb0 : Below w.heap.size w W0 := by rw [hW0]; exact below_alloc (Below.refl _ _) _
  have ho : D8 w.heap.size o W0 := by rw [hW0]; exact heap_alloc_new w _
  have o0 : ∀ X, Below W0.heap.size W0 X → X.cell? ⟨w.heap.size, 0, none⟩ = some (.int .u8 o.kind) := fun X h => ho.cell (by omega) h 0
  have o1 : ∀ X, Below W0.heap.size W0 X → X.cell? ⟨w.heap.size, 1, none⟩ = some (.int .i64 o.variant) := fun X h => ho.cell (by omega) h 1
  have o2 : ∀ X, Below W0.heap.size W0 X → X.cell? ⟨w.heap.size, 2, none⟩ = some (.string o.key) := fun X h => ho.cell (by omega) h 2
  have o3 : ∀ X, Below W0.heap.size W0 X → X.cell? ⟨w.heap.size, 3, none⟩ = some (.string o.nonce) := fun X h => ho.cell (by omega) h 3
  have o4 : ∀ X, Below W0.heap.size W0 X → X.cell? ⟨w.heap.size, 4, none⟩ = some (.string o.beside) := fun X h => ho.cell (by omega) h 4
  have o5 : ∀ X, Below W0.heap.size W0 X → X.cell? ⟨w.heap.size, 5, none⟩ = some (.string o.text) := fun X h => ho.cell (by omega) h 5
  have o6 : ∀ X, Below W0.heap.size W0 X → X.cell? ⟨w.heap.size, 6, none⟩ = some (.string o.tag) := fun X h => ho.cell (by omega) h 6
  have o7 : ∀ X, Below W0.heap.size W0 X → X.cell? ⟨w.heap.size, 7, none⟩ = some (.int .u8 o.back) := fun X h => ho.cell (by omega) h 7
  have HS := Lib.hid (And.intro hs0 hb0)
  have HW := Lib.hid hW0
  rw [← hW0] at hA hmake
  clear ho hs0 hb0 hW0
  have g0 : ∀ X, Calls Try.prog 13 #[.slice (some ⟨X.heap.size, 0, none⟩) 1 1, .int .i64 1] (X.alloc (.cells #[.int .u8 o.kind, .int .i64 o.variant, .string o.key, .string o.nonce, .string o.beside, .string o.text, .string o.tag, .int .u8 o.back] 29)) fun e w' => e = .returned (.bool true) ∧ Below X.heap.size X w' := by
    intro X
    refine (rfew _ 1 1 1 _ _ (lie_one o X) true (by simp [hfw])).mono ?_
    rintro e w' ⟨rfl, hb⟩
    exact ⟨rfl, below_link (below_alloc (Below.refl _ _) _) hb⟩
  have G0 := Lib.hid g0
  clear g0
  have f1 : decide ((100 : Int) < (other.size : Int)) = false := by simp; omega
  have f2 : decide (100 < other.size) = false := by simp; omega
  have HM := Lib.hid hA.below
  have A0 := Lib.hid hA.c0
  have A1 := Lib.hid hA.c1
  have A2 := Lib.hid hA.c2
  have A3 := Lib.hid hA.c3
  have A4 := Lib.hid hA.c4
  have MK := Lib.hid hmake
  have R1 := Lib.hid (rsigns o.variant o.key)
  have R2 := Lib.hid (rseals o.variant o.key o.nonce)
  rw [decide_eq_false hs] at R1
  rw [decide_eq_false hl] at R2
  clear hfw h100 hA hmake hs hl
  go_enter Try.func4, Try.ntmps4
  go_wp2_with fail
  rw [← HW.out]
  refine (awake_any _).mono ?_
  rintro e w1 ⟨rfl, hb1⟩
  go_wp2_with fail
  refine (G0.out _).mono ?_
  rintro e w2 ⟨rfl, hb2⟩
  have hb3 := below_link hb1 hb2
  clear hb1 hb2
  go_wp2_with fail
  refine (real_any _).mono ?_
  rintro e w3 ⟨g0, rfl, -, -, -, hb⟩
  have hb3' := below_link hb3 hb
  clear hb hb3
  go_wp2_with fail
  refine (MK.out _ hb3').mono ?_
  rintro e w4 ⟨g, rfl, ht⟩
  have T4' := Lib.hid ht
  have hb4 := HM.out _ _ _ ht
  clear ht hb3'
  go_wp2_with fail
  refine (A0.out g _ T4'.out).mono ?_
  rintro e w5 ⟨rfl, ht⟩
  have T5' := Lib.hid ht
  have hb5 := HM.out _ _ _ ht
  clear ht hb4
  go_wp2_with fail
  refine (A1.out g _ T5'.out).mono ?_
  rintro e w6 ⟨rfl, ht⟩
  have T6' := Lib.hid ht
  have hb6 := HM.out _ _ _ ht
  clear ht hb5
  go_wp2_with fail
  refine (A2.out g _ T6'.out).mono ?_
  rintro e w7 ⟨rfl, ht⟩
  have T7' := Lib.hid ht
  have hb7 := HM.out _ _ _ ht
  clear ht hb6
  go_wp2_with fail
  refine (A3.out g _ T7'.out).mono ?_
  rintro e w8 ⟨rfl, ht⟩
  have T8' := Lib.hid ht
  have hb8 := HM.out _ _ _ ht
  clear ht hb7
  go_wp2_with fail
  refine (A4.out g _ T8'.out).mono ?_
  rintro e w9 ⟨rfl, ht⟩
  have T9' := Lib.hid ht
  have hb9 := HM.out _ _ _ ht
  clear ht hb8
  go_wp2_with fail
  refine (R1.out _).mono ?_
  rintro e wq ⟨rfl, hw⟩
  rw [hw]
  clear hw
  go_wp2_with fail
  refine (R2.out _).mono ?_
  rintro e wq ⟨rfl, hw⟩
  rw [hw]
  clear hw
  have HB := Lib.hid hb9
  go_wp2
  go_ret
  exact ⟨rfl, HS.out.2.trans (HB.out.mono (by have := HS.out.1; omega))⟩

end Eng
end Go.Proofs.Ytedoggejbhbebaa
