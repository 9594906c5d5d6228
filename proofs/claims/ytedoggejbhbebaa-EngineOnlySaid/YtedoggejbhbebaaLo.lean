/-
  The walk of EngineOnly: it returns true for every two calls. Conditions: none.
-/
import Derived.Test.YtedoggejbhbebaaKh
import Derived.Test.YtedoggejbhbebaaEf
namespace Go.Proofs.Ytedoggejbhbebaa
namespace Eng
open Go.ChangeShapes Go.WideShapes Go.ChangeAt Go.RowKit Go.Great
open Gf Aes Gcm
set_option linter.unusedVariables false
set_option maxRecDepth 100000

/-- A call's eight cells in a block. -/
abbrev C8 (g : Nat) (c : Call) (w : World) : Prop := w.heap[g]? = some (.cells #[.int .u8 c.kind, .int .i64 c.variant, .string c.key, .string c.nonce, .string c.beside, .string c.text, .string c.tag, .int .u8 c.back] 29 (0, 0))
theorem C8.cell {g : Nat} {c : Call} {w w' : World} {B : Nat} (h : C8 g c w) (hg : g < B) (hb : Below B w w') (j : Nat) : w'.cell? ⟨g, j, none⟩ = c.cells[j]? := by
  rw [hb.cell (p := ⟨g, j, none⟩) hg, cell_of_row _ _ _ _ _ _ h]
  simp [Call.cells]
theorem lie_two (o p : Call) (X : World) : Lie (X.alloc (.cells #[.int .u8 o.kind, .int .i64 o.variant, .string o.key, .string o.nonce, .string o.beside, .string o.text, .string o.tag, .int .u8 o.back, .int .u8 p.kind, .int .i64 p.variant, .string p.key, .string p.nonce, .string p.beside, .string p.text, .string p.tag, .int .u8 p.back] 29)) (some ⟨X.heap.size, 0, none⟩) 2 (fun i => if i = 0 then o else p) := by
  constructor
  intro i hi
  refine ⟨X.heap.size, 0, rfl, by rw [alloc_size]; omega, fun j hj => ?_⟩
  rw [cell_of_row _ _ _ _ _ _ (heap_alloc_new X _)]
  have h8 : j = 0 ∨ j = 1 ∨ j = 2 ∨ j = 3 ∨ j = 4 ∨ j = 5 ∨ j = 6 ∨ j = 7 := by omega
  rcases (show i = 0 ∨ i = 1 by omega) with rfl | rfl <;> rcases h8 with rfl | rfl | rfl | rfl | rfl | rfl | rfl | rfl <;> rfl

theorem only_nokey (o p : Call) (w : World) (hfw : FewP (fun i => if i = 0 then o else p) 2 2) (h5 : ¬ SignsP 5 o.key) : Calls Try.prog 5 #[.agg #[.int .u8 o.kind, .int .i64 o.variant, .string o.key, .string o.nonce, .string o.beside, .string o.text, .string o.tag, .int .u8 o.back], .agg #[.int .u8 p.kind, .int .i64 p.variant, .string p.key, .string p.nonce, .string p.beside, .string p.text, .string p.tag, .int .u8 p.back]] w fun e w' => e = .returned (.bool true) ∧ Below w.heap.size w w' := by
  obtain ⟨W0, hW0⟩ : ∃ W0, W0 = (w.alloc (.cells #[.int .u8 o.kind, .int .i64 o.variant, .string o.key, .string o.nonce, .string o.beside, .string o.text, .string o.tag, .int .u8 o.back] 29)).alloc (.cells #[.int .u8 p.kind, .int .i64 p.variant, .string p.key, .string p.nonce, .string p.beside, .string p.text, .string p.tag, .int .u8 p.back] 29) := ⟨_, rfl⟩
  have hs0 : W0.heap.size = w.heap.size + 2 := by rw [hW0, alloc_size, alloc_size]
  have hb0 : Below w.heap.size w W0 := by rw [hW0]; exact below_alloc (below_alloc (Below.refl _ _) _) _
  have ho : C8 w.heap.size o W0 := by rw [hW0]; exact keepAlloc (heap_alloc_new w _) _
  have hp : C8 (w.heap.size + 1) p W0 := by
    rw [hW0]
    have := heap_alloc_new (w.alloc (.cells #[.int .u8 o.kind, .int .i64 o.variant, .string o.key, .string o.nonce, .string o.beside, .string o.text, .string o.tag, .int .u8 o.back] 29)) (.cells #[.int .u8 p.kind, .int .i64 p.variant, .string p.key, .string p.nonce, .string p.beside, .string p.text, .string p.tag, .int .u8 p.back] 29)
    rwa [alloc_size] at this
  have o0 : ∀ X, Below W0.heap.size W0 X → X.cell? ⟨w.heap.size, 0, none⟩ = some (.int .u8 o.kind) := fun X h => ho.cell (by omega) h 0
  have o1 : ∀ X, Below W0.heap.size W0 X → X.cell? ⟨w.heap.size, 1, none⟩ = some (.int .i64 o.variant) := fun X h => ho.cell (by omega) h 1
  have o2 : ∀ X, Below W0.heap.size W0 X → X.cell? ⟨w.heap.size, 2, none⟩ = some (.string o.key) := fun X h => ho.cell (by omega) h 2
  have o3 : ∀ X, Below W0.heap.size W0 X → X.cell? ⟨w.heap.size, 3, none⟩ = some (.string o.nonce) := fun X h => ho.cell (by omega) h 3
  have o4 : ∀ X, Below W0.heap.size W0 X → X.cell? ⟨w.heap.size, 4, none⟩ = some (.string o.beside) := fun X h => ho.cell (by omega) h 4
  have o5 : ∀ X, Below W0.heap.size W0 X → X.cell? ⟨w.heap.size, 5, none⟩ = some (.string o.text) := fun X h => ho.cell (by omega) h 5
  have o6 : ∀ X, Below W0.heap.size W0 X → X.cell? ⟨w.heap.size, 6, none⟩ = some (.string o.tag) := fun X h => ho.cell (by omega) h 6
  have o7 : ∀ X, Below W0.heap.size W0 X → X.cell? ⟨w.heap.size, 7, none⟩ = some (.int .u8 o.back) := fun X h => ho.cell (by omega) h 7
  have p0 : ∀ X, Below W0.heap.size W0 X → X.cell? ⟨w.heap.size + 1, 0, none⟩ = some (.int .u8 p.kind) := fun X h => hp.cell (by omega) h 0
  have p1 : ∀ X, Below W0.heap.size W0 X → X.cell? ⟨w.heap.size + 1, 1, none⟩ = some (.int .i64 p.variant) := fun X h => hp.cell (by omega) h 1
  have p2 : ∀ X, Below W0.heap.size W0 X → X.cell? ⟨w.heap.size + 1, 2, none⟩ = some (.string p.key) := fun X h => hp.cell (by omega) h 2
  have p3 : ∀ X, Below W0.heap.size W0 X → X.cell? ⟨w.heap.size + 1, 3, none⟩ = some (.string p.nonce) := fun X h => hp.cell (by omega) h 3
  have p4 : ∀ X, Below W0.heap.size W0 X → X.cell? ⟨w.heap.size + 1, 4, none⟩ = some (.string p.beside) := fun X h => hp.cell (by omega) h 4
  have p5 : ∀ X, Below W0.heap.size W0 X → X.cell? ⟨w.heap.size + 1, 5, none⟩ = some (.string p.text) := fun X h => hp.cell (by omega) h 5
  have p6 : ∀ X, Below W0.heap.size W0 X → X.cell? ⟨w.heap.size + 1, 6, none⟩ = some (.string p.tag) := fun X h => hp.cell (by omega) h 6
  have p7 : ∀ X, Below W0.heap.size W0 X → X.cell? ⟨w.heap.size + 1, 7, none⟩ = some (.int .u8 p.back) := fun X h => hp.cell (by omega) h 7
  have HS := Lib.hid (And.intro hs0 hb0)
  have HW := Lib.hid hW0
  clear ho hp hs0 hb0 hW0
  have g0 : ∀ X, Calls Try.prog 13 #[.slice (some ⟨X.heap.size, 0, none⟩) 2 2, .int .i64 2] (X.alloc (.cells #[.int .u8 o.kind, .int .i64 o.variant, .string o.key, .string o.nonce, .string o.beside, .string o.text, .string o.tag, .int .u8 o.back, .int .u8 p.kind, .int .i64 p.variant, .string p.key, .string p.nonce, .string p.beside, .string p.text, .string p.tag, .int .u8 p.back] 29)) fun e w' => e = .returned (.bool true) ∧ Below X.heap.size X w' := by
    intro X
    refine (rfew _ 2 2 2 _ _ (lie_two o p X) true (by simp [hfw])).mono ?_
    rintro e w' ⟨rfl, hb⟩
    exact ⟨rfl, below_link (below_alloc (Below.refl _ _) _) hb⟩
  have G0 := Lib.hid g0
  clear g0
  have R5 := Lib.hid (rsigns 5 o.key)
  rw [decide_eq_false h5] at R5
  clear hfw h5
  go_enter Try.func5, Try.ntmps5
  go_wp2_with fail
  rw [← HW.out]
  refine (awake_any _).mono ?_
  rintro e w1 ⟨rfl, hb1⟩
  go_wp2_with fail
  refine (G0.out _).mono ?_
  rintro e w2 ⟨rfl, hb2⟩
  have hb3 := below_link hb1 hb2
  clear hb1 hb2
  go_wp2_with fail
  refine (R5.out _).mono ?_
  rintro e w3 ⟨rfl, hw⟩
  rw [hw]
  clear hw
  go_wp2_with fail
  refine (awake_any _).mono ?_
  rintro e w3 ⟨rfl, hb4⟩
  have HB := Lib.hid (below_link hb3 hb4); clear hb4
  go_wp2
  go_ret
  exact ⟨rfl, HS.out.2.trans (HB.out.mono (by have := HS.out.1; omega))⟩

theorem only_nokey2 (o p : Call) (w : World) (hfw : FewP (fun i => if i = 0 then o else p) 2 2) (h5 : SignsP 5 o.key) (h6 : ¬ SignsP 5 p.key) : Calls Try.prog 5 #[.agg #[.int .u8 o.kind, .int .i64 o.variant, .string o.key, .string o.nonce, .string o.beside, .string o.text, .string o.tag, .int .u8 o.back], .agg #[.int .u8 p.kind, .int .i64 p.variant, .string p.key, .string p.nonce, .string p.beside, .string p.text, .string p.tag, .int .u8 p.back]] w fun e w' => e = .returned (.bool true) ∧ Below w.heap.size w w' := by
  obtain ⟨W0, hW0⟩ : ∃ W0, W0 = (w.alloc (.cells #[.int .u8 o.kind, .int .i64 o.variant, .string o.key, .string o.nonce, .string o.beside, .string o.text, .string o.tag, .int .u8 o.back] 29)).alloc (.cells #[.int .u8 p.kind, .int .i64 p.variant, .string p.key, .string p.nonce, .string p.beside, .string p.text, .string p.tag, .int .u8 p.back] 29) := ⟨_, rfl⟩
  have hs0 : W0.heap.size = w.heap.size + 2 := by rw [hW0, alloc_size, alloc_size]
  have hb0 : Below w.heap.size w W0 := by rw [hW0]; exact below_alloc (below_alloc (Below.refl _ _) _) _
  have ho : C8 w.heap.size o W0 := by rw [hW0]; exact keepAlloc (heap_alloc_new w _) _
  have hp : C8 (w.heap.size + 1) p W0 := by
    rw [hW0]
    have := heap_alloc_new (w.alloc (.cells #[.int .u8 o.kind, .int .i64 o.variant, .string o.key, .string o.nonce, .string o.beside, .string o.text, .string o.tag, .int .u8 o.back] 29)) (.cells #[.int .u8 p.kind, .int .i64 p.variant, .string p.key, .string p.nonce, .string p.beside, .string p.text, .string p.tag, .int .u8 p.back] 29)
    rwa [alloc_size] at this
  have o0 : ∀ X, Below W0.heap.size W0 X → X.cell? ⟨w.heap.size, 0, none⟩ = some (.int .u8 o.kind) := fun X h => ho.cell (by omega) h 0
  have o1 : ∀ X, Below W0.heap.size W0 X → X.cell? ⟨w.heap.size, 1, none⟩ = some (.int .i64 o.variant) := fun X h => ho.cell (by omega) h 1
  have o2 : ∀ X, Below W0.heap.size W0 X → X.cell? ⟨w.heap.size, 2, none⟩ = some (.string o.key) := fun X h => ho.cell (by omega) h 2
  have o3 : ∀ X, Below W0.heap.size W0 X → X.cell? ⟨w.heap.size, 3, none⟩ = some (.string o.nonce) := fun X h => ho.cell (by omega) h 3
  have o4 : ∀ X, Below W0.heap.size W0 X → X.cell? ⟨w.heap.size, 4, none⟩ = some (.string o.beside) := fun X h => ho.cell (by omega) h 4
  have o5 : ∀ X, Below W0.heap.size W0 X → X.cell? ⟨w.heap.size, 5, none⟩ = some (.string o.text) := fun X h => ho.cell (by omega) h 5
  have o6 : ∀ X, Below W0.heap.size W0 X → X.cell? ⟨w.heap.size, 6, none⟩ = some (.string o.tag) := fun X h => ho.cell (by omega) h 6
  have o7 : ∀ X, Below W0.heap.size W0 X → X.cell? ⟨w.heap.size, 7, none⟩ = some (.int .u8 o.back) := fun X h => ho.cell (by omega) h 7
  have p0 : ∀ X, Below W0.heap.size W0 X → X.cell? ⟨w.heap.size + 1, 0, none⟩ = some (.int .u8 p.kind) := fun X h => hp.cell (by omega) h 0
  have p1 : ∀ X, Below W0.heap.size W0 X → X.cell? ⟨w.heap.size + 1, 1, none⟩ = some (.int .i64 p.variant) := fun X h => hp.cell (by omega) h 1
  have p2 : ∀ X, Below W0.heap.size W0 X → X.cell? ⟨w.heap.size + 1, 2, none⟩ = some (.string p.key) := fun X h => hp.cell (by omega) h 2
  have p3 : ∀ X, Below W0.heap.size W0 X → X.cell? ⟨w.heap.size + 1, 3, none⟩ = some (.string p.nonce) := fun X h => hp.cell (by omega) h 3
  have p4 : ∀ X, Below W0.heap.size W0 X → X.cell? ⟨w.heap.size + 1, 4, none⟩ = some (.string p.beside) := fun X h => hp.cell (by omega) h 4
  have p5 : ∀ X, Below W0.heap.size W0 X → X.cell? ⟨w.heap.size + 1, 5, none⟩ = some (.string p.text) := fun X h => hp.cell (by omega) h 5
  have p6 : ∀ X, Below W0.heap.size W0 X → X.cell? ⟨w.heap.size + 1, 6, none⟩ = some (.string p.tag) := fun X h => hp.cell (by omega) h 6
  have p7 : ∀ X, Below W0.heap.size W0 X → X.cell? ⟨w.heap.size + 1, 7, none⟩ = some (.int .u8 p.back) := fun X h => hp.cell (by omega) h 7
  have HS := Lib.hid (And.intro hs0 hb0)
  have HW := Lib.hid hW0
  clear ho hp hs0 hb0 hW0
  have g0 : ∀ X, Calls Try.prog 13 #[.slice (some ⟨X.heap.size, 0, none⟩) 2 2, .int .i64 2] (X.alloc (.cells #[.int .u8 o.kind, .int .i64 o.variant, .string o.key, .string o.nonce, .string o.beside, .string o.text, .string o.tag, .int .u8 o.back, .int .u8 p.kind, .int .i64 p.variant, .string p.key, .string p.nonce, .string p.beside, .string p.text, .string p.tag, .int .u8 p.back] 29)) fun e w' => e = .returned (.bool true) ∧ Below X.heap.size X w' := by
    intro X
    refine (rfew _ 2 2 2 _ _ (lie_two o p X) true (by simp [hfw])).mono ?_
    rintro e w' ⟨rfl, hb⟩
    exact ⟨rfl, below_link (below_alloc (Below.refl _ _) _) hb⟩
  have G0 := Lib.hid g0
  clear g0
  have R5 := Lib.hid (rsigns 5 o.key)
  rw [decide_eq_true h5] at R5
  have R6 := Lib.hid (rsigns 5 p.key)
  rw [decide_eq_false h6] at R6
  clear hfw h5 h6
  go_enter Try.func5, Try.ntmps5
  go_wp2_with fail
  rw [← HW.out]
  refine (awake_any _).mono ?_
  rintro e w1 ⟨rfl, hb1⟩
  go_wp2_with fail
  refine (G0.out _).mono ?_
  rintro e w2 ⟨rfl, hb2⟩
  have hb3 := below_link hb1 hb2
  clear hb1 hb2
  go_wp2_with fail
  refine (R5.out _).mono ?_
  rintro e w3 ⟨rfl, hw⟩
  rw [hw]
  clear hw
  go_wp2_with fail
  refine (R6.out _).mono ?_
  rintro e w3 ⟨rfl, hw⟩
  rw [hw]
  clear hw
  go_wp2_with fail
  refine (awake_any _).mono ?_
  rintro e w3 ⟨rfl, hb4⟩
  have HB := Lib.hid (below_link hb3 hb4); clear hb4
  go_wp2
  go_ret
  exact ⟨rfl, HS.out.2.trans (HB.out.mono (by have := HS.out.1; omega))⟩

/-- What Holds answers, by two comparisons. -/
def andV : Bool → Bool → Int
  | true, true => 0
  | true, false => 7
  | false, true => 7
  | false, false => 7
theorem andV_eq (a b : Bool) : holdsV (a && b) = andV a b := by cases a <;> cases b <;> rfl
/-- What Open answers, by three comparisons. -/
def opnV (t : ByteArray) : Bool → Bool → Bool → Value
  | true, true, true => .tuple #[.string t, .int .i64 0]
  | true, true, false => .tuple #[.string ⟨#[]⟩, .int .i64 7]
  | true, false, true => .tuple #[.string ⟨#[]⟩, .int .i64 7]
  | true, false, false => .tuple #[.string ⟨#[]⟩, .int .i64 7]
  | false, true, true => .tuple #[.string ⟨#[]⟩, .int .i64 7]
  | false, true, false => .tuple #[.string ⟨#[]⟩, .int .i64 7]
  | false, false, true => .tuple #[.string ⟨#[]⟩, .int .i64 7]
  | false, false, false => .tuple #[.string ⟨#[]⟩, .int .i64 7]
theorem opnV_eq (t : ByteArray) (a b c : Bool) : openV (if a && b && c then some t else none) = opnV t a b c := by cases a <;> cases b <;> cases c <;> rfl

theorem only_few (o p : Call) (w : World) (hfw : ¬ FewP (fun i => if i = 0 then o else p) 2 2) : Calls Try.prog 5 #[.agg #[.int .u8 o.kind, .int .i64 o.variant, .string o.key, .string o.nonce, .string o.beside, .string o.text, .string o.tag, .int .u8 o.back], .agg #[.int .u8 p.kind, .int .i64 p.variant, .string p.key, .string p.nonce, .string p.beside, .string p.text, .string p.tag, .int .u8 p.back]] w fun e w' => e = .returned (.bool true) ∧ Below w.heap.size w w' := by
  obtain ⟨W0, hW0⟩ : ∃ W0, W0 = (w.alloc (.cells #[.int .u8 o.kind, .int .i64 o.variant, .string o.key, .string o.nonce, .string o.beside, .string o.text, .string o.tag, .int .u8 o.back] 29)).alloc (.cells #[.int .u8 p.kind, .int .i64 p.variant, .string p.key, .string p.nonce, .string p.beside, .string p.text, .string p.tag, .int .u8 p.back] 29) := ⟨_, rfl⟩
  have hs0 : W0.heap.size = w.heap.size + 2 := by rw [hW0, alloc_size, alloc_size]
  have hb0 : Below w.heap.size w W0 := by rw [hW0]; exact below_alloc (below_alloc (Below.refl _ _) _) _
  have ho : C8 w.heap.size o W0 := by rw [hW0]; exact keepAlloc (heap_alloc_new w _) _
  have hp : C8 (w.heap.size + 1) p W0 := by
    rw [hW0]
    have := heap_alloc_new (w.alloc (.cells #[.int .u8 o.kind, .int .i64 o.variant, .string o.key, .string o.nonce, .string o.beside, .string o.text, .string o.tag, .int .u8 o.back] 29)) (.cells #[.int .u8 p.kind, .int .i64 p.variant, .string p.key, .string p.nonce, .string p.beside, .string p.text, .string p.tag, .int .u8 p.back] 29)
    rwa [alloc_size] at this
  have o0 : ∀ X, Below W0.heap.size W0 X → X.cell? ⟨w.heap.size, 0, none⟩ = some (.int .u8 o.kind) := fun X h => ho.cell (by omega) h 0
  have o1 : ∀ X, Below W0.heap.size W0 X → X.cell? ⟨w.heap.size, 1, none⟩ = some (.int .i64 o.variant) := fun X h => ho.cell (by omega) h 1
  have o2 : ∀ X, Below W0.heap.size W0 X → X.cell? ⟨w.heap.size, 2, none⟩ = some (.string o.key) := fun X h => ho.cell (by omega) h 2
  have o3 : ∀ X, Below W0.heap.size W0 X → X.cell? ⟨w.heap.size, 3, none⟩ = some (.string o.nonce) := fun X h => ho.cell (by omega) h 3
  have o4 : ∀ X, Below W0.heap.size W0 X → X.cell? ⟨w.heap.size, 4, none⟩ = some (.string o.beside) := fun X h => ho.cell (by omega) h 4
  have o5 : ∀ X, Below W0.heap.size W0 X → X.cell? ⟨w.heap.size, 5, none⟩ = some (.string o.text) := fun X h => ho.cell (by omega) h 5
  have o6 : ∀ X, Below W0.heap.size W0 X → X.cell? ⟨w.heap.size, 6, none⟩ = some (.string o.tag) := fun X h => ho.cell (by omega) h 6
  have o7 : ∀ X, Below W0.heap.size W0 X → X.cell? ⟨w.heap.size, 7, none⟩ = some (.int .u8 o.back) := fun X h => ho.cell (by omega) h 7
  have p0 : ∀ X, Below W0.heap.size W0 X → X.cell? ⟨w.heap.size + 1, 0, none⟩ = some (.int .u8 p.kind) := fun X h => hp.cell (by omega) h 0
  have p1 : ∀ X, Below W0.heap.size W0 X → X.cell? ⟨w.heap.size + 1, 1, none⟩ = some (.int .i64 p.variant) := fun X h => hp.cell (by omega) h 1
  have p2 : ∀ X, Below W0.heap.size W0 X → X.cell? ⟨w.heap.size + 1, 2, none⟩ = some (.string p.key) := fun X h => hp.cell (by omega) h 2
  have p3 : ∀ X, Below W0.heap.size W0 X → X.cell? ⟨w.heap.size + 1, 3, none⟩ = some (.string p.nonce) := fun X h => hp.cell (by omega) h 3
  have p4 : ∀ X, Below W0.heap.size W0 X → X.cell? ⟨w.heap.size + 1, 4, none⟩ = some (.string p.beside) := fun X h => hp.cell (by omega) h 4
  have p5 : ∀ X, Below W0.heap.size W0 X → X.cell? ⟨w.heap.size + 1, 5, none⟩ = some (.string p.text) := fun X h => hp.cell (by omega) h 5
  have p6 : ∀ X, Below W0.heap.size W0 X → X.cell? ⟨w.heap.size + 1, 6, none⟩ = some (.string p.tag) := fun X h => hp.cell (by omega) h 6
  have p7 : ∀ X, Below W0.heap.size W0 X → X.cell? ⟨w.heap.size + 1, 7, none⟩ = some (.int .u8 p.back) := fun X h => hp.cell (by omega) h 7
  have HS := Lib.hid (And.intro hs0 hb0)
  have HW := Lib.hid hW0
  clear ho hp hs0 hb0 hW0
  have g0 : ∀ X, Calls Try.prog 13 #[.slice (some ⟨X.heap.size, 0, none⟩) 2 2, .int .i64 2] (X.alloc (.cells #[.int .u8 o.kind, .int .i64 o.variant, .string o.key, .string o.nonce, .string o.beside, .string o.text, .string o.tag, .int .u8 o.back, .int .u8 p.kind, .int .i64 p.variant, .string p.key, .string p.nonce, .string p.beside, .string p.text, .string p.tag, .int .u8 p.back] 29)) fun e w' => e = .returned (.bool false) ∧ Below X.heap.size X w' := by
    intro X
    refine (rfew _ 2 2 2 _ _ (lie_two o p X) false (by simp [hfw])).mono ?_
    rintro e w' ⟨rfl, hb⟩
    exact ⟨rfl, below_link (below_alloc (Below.refl _ _) _) hb⟩
  have G0 := Lib.hid g0
  clear g0 hfw
  go_enter Try.func5, Try.ntmps5
  go_wp2_with fail
  rw [← HW.out]
  refine (awake_any _).mono ?_
  rintro e w1 ⟨rfl, hb1⟩
  go_wp2_with fail
  refine (G0.out _).mono ?_
  rintro e w2 ⟨rfl, hb2⟩
  have hb3 := below_link hb1 hb2
  clear hb1 hb2
  go_wp2_with fail
  refine (awake_any _).mono ?_
  rintro e w3 ⟨rfl, hb4⟩
  have HB := Lib.hid (below_link hb3 hb4); clear hb4
  go_wp2
  go_ret
  exact ⟨rfl, HS.out.2.trans (HB.out.mono (by have := HS.out.1; omega))⟩

set_option maxHeartbeats 4000000 in
theorem only_main (o p : Call) (w : World) (hfw : FewP (fun i => if i = 0 then o else p) 2 2) (h5 : SignsP 5 o.key) (h6 : SignsP 5 p.key) : Calls Try.prog 5 #[.agg #[.int .u8 o.kind, .int .i64 o.variant, .string o.key, .string o.nonce, .string o.beside, .string o.text, .string o.tag, .int .u8 o.back], .agg #[.int .u8 p.kind, .int .i64 p.variant, .string p.key, .string p.nonce, .string p.beside, .string p.text, .string p.tag, .int .u8 p.back]] w fun e w' => e = .returned (.bool true) ∧ Below w.heap.size w w' := by
  obtain ⟨W0, hW0⟩ : ∃ W0, W0 = (w.alloc (.cells #[.int .u8 o.kind, .int .i64 o.variant, .string o.key, .string o.nonce, .string o.beside, .string o.text, .string o.tag, .int .u8 o.back] 29)).alloc (.cells #[.int .u8 p.kind, .int .i64 p.variant, .string p.key, .string p.nonce, .string p.beside, .string p.text, .string p.tag, .int .u8 p.back] 29) := ⟨_, rfl⟩
  have hs0 : W0.heap.size = w.heap.size + 2 := by rw [hW0, alloc_size, alloc_size]
  have hb0 : Below w.heap.size w W0 := by rw [hW0]; exact below_alloc (below_alloc (Below.refl _ _) _) _
  have ho : C8 w.heap.size o W0 := by rw [hW0]; exact keepAlloc (heap_alloc_new w _) _
  have hp : C8 (w.heap.size + 1) p W0 := by
    rw [hW0]
    have := heap_alloc_new (w.alloc (.cells #[.int .u8 o.kind, .int .i64 o.variant, .string o.key, .string o.nonce, .string o.beside, .string o.text, .string o.tag, .int .u8 o.back] 29)) (.cells #[.int .u8 p.kind, .int .i64 p.variant, .string p.key, .string p.nonce, .string p.beside, .string p.text, .string p.tag, .int .u8 p.back] 29)
    rwa [alloc_size] at this
  have o0 : ∀ X, Below W0.heap.size W0 X → X.cell? ⟨w.heap.size, 0, none⟩ = some (.int .u8 o.kind) := fun X h => ho.cell (by omega) h 0
  have o1 : ∀ X, Below W0.heap.size W0 X → X.cell? ⟨w.heap.size, 1, none⟩ = some (.int .i64 o.variant) := fun X h => ho.cell (by omega) h 1
  have o2 : ∀ X, Below W0.heap.size W0 X → X.cell? ⟨w.heap.size, 2, none⟩ = some (.string o.key) := fun X h => ho.cell (by omega) h 2
  have o3 : ∀ X, Below W0.heap.size W0 X → X.cell? ⟨w.heap.size, 3, none⟩ = some (.string o.nonce) := fun X h => ho.cell (by omega) h 3
  have o4 : ∀ X, Below W0.heap.size W0 X → X.cell? ⟨w.heap.size, 4, none⟩ = some (.string o.beside) := fun X h => ho.cell (by omega) h 4
  have o5 : ∀ X, Below W0.heap.size W0 X → X.cell? ⟨w.heap.size, 5, none⟩ = some (.string o.text) := fun X h => ho.cell (by omega) h 5
  have o6 : ∀ X, Below W0.heap.size W0 X → X.cell? ⟨w.heap.size, 6, none⟩ = some (.string o.tag) := fun X h => ho.cell (by omega) h 6
  have o7 : ∀ X, Below W0.heap.size W0 X → X.cell? ⟨w.heap.size, 7, none⟩ = some (.int .u8 o.back) := fun X h => ho.cell (by omega) h 7
  have p0 : ∀ X, Below W0.heap.size W0 X → X.cell? ⟨w.heap.size + 1, 0, none⟩ = some (.int .u8 p.kind) := fun X h => hp.cell (by omega) h 0
  have p1 : ∀ X, Below W0.heap.size W0 X → X.cell? ⟨w.heap.size + 1, 1, none⟩ = some (.int .i64 p.variant) := fun X h => hp.cell (by omega) h 1
  have p2 : ∀ X, Below W0.heap.size W0 X → X.cell? ⟨w.heap.size + 1, 2, none⟩ = some (.string p.key) := fun X h => hp.cell (by omega) h 2
  have p3 : ∀ X, Below W0.heap.size W0 X → X.cell? ⟨w.heap.size + 1, 3, none⟩ = some (.string p.nonce) := fun X h => hp.cell (by omega) h 3
  have p4 : ∀ X, Below W0.heap.size W0 X → X.cell? ⟨w.heap.size + 1, 4, none⟩ = some (.string p.beside) := fun X h => hp.cell (by omega) h 4
  have p5 : ∀ X, Below W0.heap.size W0 X → X.cell? ⟨w.heap.size + 1, 5, none⟩ = some (.string p.text) := fun X h => hp.cell (by omega) h 5
  have p6 : ∀ X, Below W0.heap.size W0 X → X.cell? ⟨w.heap.size + 1, 6, none⟩ = some (.string p.tag) := fun X h => hp.cell (by omega) h 6
  have p7 : ∀ X, Below W0.heap.size W0 X → X.cell? ⟨w.heap.size + 1, 7, none⟩ = some (.int .u8 p.back) := fun X h => hp.cell (by omega) h 7
  have HS := Lib.hid (And.intro hs0 hb0)
  have HW := Lib.hid hW0
  clear ho hp hs0 hb0 hW0
  have g0 : ∀ X, Calls Try.prog 13 #[.slice (some ⟨X.heap.size, 0, none⟩) 2 2, .int .i64 2] (X.alloc (.cells #[.int .u8 o.kind, .int .i64 o.variant, .string o.key, .string o.nonce, .string o.beside, .string o.text, .string o.tag, .int .u8 o.back, .int .u8 p.kind, .int .i64 p.variant, .string p.key, .string p.nonce, .string p.beside, .string p.text, .string p.tag, .int .u8 p.back] 29)) fun e w' => e = .returned (.bool true) ∧ Below X.heap.size X w' := by
    intro X
    refine (rfew _ 2 2 2 _ _ (lie_two o p X) true (by simp [hfw])).mono ?_
    rintro e w' ⟨rfl, hb⟩
    exact ⟨rfl, below_link (below_alloc (Below.refl _ _) _) hb⟩
  have G0 := Lib.hid g0
  clear g0
  have R5 := Lib.hid (rsigns 5 o.key)
  rw [decide_eq_true h5] at R5
  have R6 := Lib.hid (rsigns 5 p.key)
  rw [decide_eq_true h6] at R6
  have hst : o.text.size ≤ 1073741824 := by
    have h := hfw.1 0 (by omega) (by omega)
    unfold Small at h
    simp only [if_true] at h
    omega
  obtain ⟨kb, hkb⟩ : ∃ kb, kb = decide (o.key = p.key) := ⟨_, rfl⟩
  obtain ⟨tb, htb⟩ : ∃ tb, tb = decide (o.text = p.text) := ⟨_, rfl⟩
  obtain ⟨e1, he1⟩ : ∃ e1 : Ent, e1 = ⟨5, o.key, ⟨#[]⟩, ⟨#[]⟩, o.text⟩ := ⟨_, rfl⟩
  obtain ⟨T, hT⟩ : ∃ T, T = freshTag 1 5 := ⟨_, rfl⟩
  have hit1 : hit [e1] T = some e1 := by
    have := hit_new [] [] e1 (by decide) (by rw [he1]; show sizeOf 5 ≠ 0; decide)
    rw [he1] at this ⊢
    rw [hT]
    exact this
  have hS1 : ∀ X g c, St W0 g c [] X → Calls Try.prog 15 #[.pointer (some ⟨g, 0, none⟩), .int .i64 5, .string o.key, .string o.text] X fun e w' => e = .returned (.tuple #[.string T, .int .i64 0]) ∧ St W0 g c [e1] w' := by
    intro X g c h
    rw [hT, he1]
    exact ssign W0 X g c [] 5 o.key o.text h (by simp) h5
  have hH1 : ∀ X g c, St W0 g c [e1] X → Calls Try.prog 19 #[.pointer (some ⟨g, 0, none⟩), .int .i64 5, .string p.key, .string p.text, .string T] X fun e w' => e = .returned (.int .i64 (andV kb tb)) ∧ St W0 g c [e1] w' := by
    intro X g c h
    rw [← andV_eq]
    refine sholds W0 X g c [e1] 5 p.key p.text T h (by simp) h6 _ ?_
    rw [hit1, he1, hkb, htb]
    simp
  have hH2 : ∀ X g c, St W0 g c [e1] X → Calls Try.prog 19 #[.pointer (some ⟨g, 0, none⟩), .int .i64 6, .string o.key, .string o.text, .string T] X fun e w' => e = .returned (.int .i64 7) ∧ St W0 g c [e1] w' := by
    intro X g c h
    refine sholds W0 X g c [e1] 6 o.key o.text T h (by simp) ⟨by omega, h5.2⟩ false ?_
    rw [hit1, he1]
    simp
  have S1 := Lib.hid hS1
  have H1 := Lib.hid hH1
  have H2 := Lib.hid hH2
  have kk : (o.key.toList == p.key.toList) = kb := by rw [text_beq, hkb]
  have tt : (o.text.toList == p.text.toList) = tb := by rw [text_beq, htb]
  clear hS1 hH1 hH2
  obtain ⟨nb, hnb⟩ : ∃ nb, nb = decide (o.nonce = p.nonce) := ⟨_, rfl⟩
  obtain ⟨bb, hbb⟩ : ∃ bb, bb = decide (o.beside = p.beside) := ⟨_, rfl⟩
  have nn : (o.nonce.toList == p.nonce.toList) = nb := by rw [text_beq, hnb]
  have ss : (o.beside.toList == p.beside.toList) = bb := by rw [text_beq, hbb]
  by_cases hs : SealsP 1 o.key o.nonce
  · obtain ⟨e2, he2⟩ : ∃ e2 : Ent, e2 = ⟨1, o.key, o.nonce, o.beside, o.text⟩ := ⟨_, rfl⟩
    obtain ⟨T2, hT2⟩ : ∃ T, T = freshTag 2 1 := ⟨_, rfl⟩
    obtain ⟨S, hS⟩ : ∃ S, S = toE (freshL 2 o.text.size) := ⟨_, rfl⟩
    have hit2 : hit [e1, e2] T2 = some e2 := by
      have := hit_new [e1] [] e2 (by simp) (by rw [he2]; show sizeOf 1 ≠ 0; decide)
      rw [he2] at this ⊢
      rw [hT2]
      exact this
    have hN1 : ∀ X g c, St W0 g c [e1] X → Calls Try.prog 16 #[.pointer (some ⟨g, 0, none⟩), .int .i64 1, .string o.key, .string o.nonce, .string o.beside, .string o.text] X fun e w' => e = .returned (.tuple #[.string S, .string T2, .int .i64 0]) ∧ St W0 g c [e1, e2] w' := by
      intro X g c h
      rw [hT2, hS, he2]
      exact sseal W0 X g c [e1] 1 o.key o.nonce o.beside o.text h (by simp) hst hs
    have N1 := Lib.hid hN1
    clear hN1
    have R7 := Lib.hid (rseals 1 p.key p.nonce)
    by_cases hsp : SealsP 1 p.key p.nonce
    · rw [decide_eq_true hsp] at R7
      have hO : ∀ X g c, St W0 g c [e1, e2] X → Calls Try.prog 20 #[.pointer (some ⟨g, 0, none⟩), .int .i64 1, .string p.key, .string p.nonce, .string p.beside, .string S, .string T2] X fun e w' => e = .returned (opnV o.text kb nb bb) ∧ St W0 g c [e1, e2] w' := by
        intro X g c h
        rw [← opnV_eq]
        refine sopen W0 X g c [e1, e2] 1 p.key p.nonce p.beside S T2 h (by simp) ?_ hsp _ ?_
        · intro x hx
          simp only [List.mem_cons, List.not_mem_nil, or_false] at hx
          rcases hx with rfl | rfl
          · rw [he1]; exact hst
          · rw [he2]; exact hst
        · unfold openOf
          rw [hit2]
          have hn2 : numOf T2 = 2 := by rw [hT2]; exact freshTag_num 2 1 (by decide) (by decide)
          simp only [hn2]
          rw [he2, hS, hkb, hnb, hbb]
          simp [and_assoc]
      have O := Lib.hid hO
      clear hO hs hsp hit1 hit2 hT hT2 hS he1 he2 hkb htb hnb hbb hst hfw h5 h6
      cases kb <;> cases tb <;> simp only [andV] at H1
      all_goals (cases nb <;> cases bb <;> simp only [opnV] at O)
      all_goals (
        have kk2 := kk
        have tt2 := tt
        have nn2 := nn
        have ss2 := ss
        simp only [beq_eq_false_iff_ne, beq_iff_eq, ne_eq] at kk2 tt2 nn2 ss2
        go_enter Try.func5, Try.ntmps5
        go_wp2_with fail
        rw [← HW.out]
        refine (awake_any _).mono ?_
        rintro e w1 ⟨rfl, hb1⟩
        go_wp2_with fail
        refine (G0.out _).mono ?_
        rintro e w2 ⟨rfl, hb2⟩
        have hb3 := below_link hb1 hb2
        clear hb1 hb2
        go_wp2_with fail
        refine (R5.out _).mono ?_
        rintro e w3 ⟨rfl, hw⟩
        rw [hw]
        clear hw
        go_wp2_with fail
        refine (R6.out _).mono ?_
        rintro e w3 ⟨rfl, hw⟩
        rw [hw]
        clear hw
        go_wp2_with fail
        refine (sideal W0 _ hb3).mono ?_
        rintro e w4 ⟨g, c, rfl, ht4⟩
        have T4 := Lib.hid ht4
        have hb4 := ht4.below
        clear ht4 hb3
        go_wp2_with fail
        refine (S1.out _ g c T4.out).mono ?_
        rintro e w5 ⟨rfl, ht5⟩
        have T5 := Lib.hid ht5
        have hb5 := ht5.below
        clear ht5 hb4
        go_wp2_with fail
        refine (H1.out _ g c T5.out).mono ?_
        rintro e w6 ⟨rfl, ht6⟩
        have T6 := Lib.hid ht6
        have hb6 := ht6.below
        clear ht6 hb5
        go_wp2_with fail
        refine (H2.out _ g c T6.out).mono ?_
        rintro e w7 ⟨rfl, ht7⟩
        have T7 := Lib.hid ht7
        have hb7 := ht7.below
        clear ht7 hb6
        go_wp2_with fail
        refine (N1.out _ g c T7.out).mono ?_
        rintro e w8 ⟨rfl, ht8⟩
        have T8 := Lib.hid ht8
        have hb8 := ht8.below
        clear ht8 hb7
        go_wp2_with fail
        refine (R7.out _).mono ?_
        rintro e w9 ⟨rfl, hw⟩
        rw [hw]
        clear hw
        go_wp2_with fail
        refine (O.out _ g c T8.out).mono ?_
        rintro e w10 ⟨rfl, ht10⟩
        have HB := Lib.hid ht10.below
        have hb10 := ht10.below
        clear ht10 hb8
        go_wp2
        go_ret
        exact ⟨rfl, HS.out.2.trans (HB.out.mono (by have := HS.out.1; omega))⟩)
    · rw [decide_eq_false hsp] at R7
      clear hs hsp hit1 hit2 hT hT2 hS he1 he2 hkb htb hnb hbb hst hfw h5 h6 nn ss
      cases kb <;> cases tb <;> simp only [andV] at H1
      all_goals (
        have kk2 := kk
        have tt2 := tt
        simp only [beq_eq_false_iff_ne, beq_iff_eq, ne_eq] at kk2 tt2
        go_enter Try.func5, Try.ntmps5
        go_wp2_with fail
        rw [← HW.out]
        refine (awake_any _).mono ?_
        rintro e w1 ⟨rfl, hb1⟩
        go_wp2_with fail
        refine (G0.out _).mono ?_
        rintro e w2 ⟨rfl, hb2⟩
        have hb3 := below_link hb1 hb2
        clear hb1 hb2
        go_wp2_with fail
        refine (R5.out _).mono ?_
        rintro e w3 ⟨rfl, hw⟩
        rw [hw]
        clear hw
        go_wp2_with fail
        refine (R6.out _).mono ?_
        rintro e w3 ⟨rfl, hw⟩
        rw [hw]
        clear hw
        go_wp2_with fail
        refine (sideal W0 _ hb3).mono ?_
        rintro e w4 ⟨g, c, rfl, ht4⟩
        have T4 := Lib.hid ht4
        have hb4 := ht4.below
        clear ht4 hb3
        go_wp2_with fail
        refine (S1.out _ g c T4.out).mono ?_
        rintro e w5 ⟨rfl, ht5⟩
        have T5 := Lib.hid ht5
        have hb5 := ht5.below
        clear ht5 hb4
        go_wp2_with fail
        refine (H1.out _ g c T5.out).mono ?_
        rintro e w6 ⟨rfl, ht6⟩
        have T6 := Lib.hid ht6
        have hb6 := ht6.below
        clear ht6 hb5
        go_wp2_with fail
        refine (H2.out _ g c T6.out).mono ?_
        rintro e w7 ⟨rfl, ht7⟩
        have T7 := Lib.hid ht7
        have hb7 := ht7.below
        clear ht7 hb6
        go_wp2_with fail
        refine (N1.out _ g c T7.out).mono ?_
        rintro e w8 ⟨rfl, ht8⟩
        have HB := Lib.hid ht8.below
        have hb8 := ht8.below
        clear ht8 hb7
        go_wp2_with fail
        refine (R7.out _).mono ?_
        rintro e w9 ⟨rfl, hw⟩
        rw [hw]
        clear hw
        go_wp2
        go_ret
        exact ⟨rfl, HS.out.2.trans (HB.out.mono (by have := HS.out.1; omega))⟩)
  · have N1 := Lib.hid (fun X g c (h : St W0 g c [e1] X) => sseal_no W0 X g c [e1] 1 o.key o.nonce o.beside o.text h hs)
    clear hs hit1 hT he1 hkb htb hnb hbb hst hfw h5 h6 nn ss
    cases kb <;> cases tb <;> simp only [andV] at H1
    all_goals (
      have kk2 := kk
      have tt2 := tt
      simp only [beq_eq_false_iff_ne, beq_iff_eq, ne_eq] at kk2 tt2
      go_enter Try.func5, Try.ntmps5
      go_wp2_with fail
      rw [← HW.out]
      refine (awake_any _).mono ?_
      rintro e w1 ⟨rfl, hb1⟩
      go_wp2_with fail
      refine (G0.out _).mono ?_
      rintro e w2 ⟨rfl, hb2⟩
      have hb3 := below_link hb1 hb2
      clear hb1 hb2
      go_wp2_with fail
      refine (R5.out _).mono ?_
      rintro e w3 ⟨rfl, hw⟩
      rw [hw]
      clear hw
      go_wp2_with fail
      refine (R6.out _).mono ?_
      rintro e w3 ⟨rfl, hw⟩
      rw [hw]
      clear hw
      go_wp2_with fail
      refine (sideal W0 _ hb3).mono ?_
      rintro e w4 ⟨g, c, rfl, ht4⟩
      have T4 := Lib.hid ht4
      have hb4 := ht4.below
      clear ht4 hb3
      go_wp2_with fail
      refine (S1.out _ g c T4.out).mono ?_
      rintro e w5 ⟨rfl, ht5⟩
      have T5 := Lib.hid ht5
      have hb5 := ht5.below
      clear ht5 hb4
      go_wp2_with fail
      refine (H1.out _ g c T5.out).mono ?_
      rintro e w6 ⟨rfl, ht6⟩
      have T6 := Lib.hid ht6
      have hb6 := ht6.below
      clear ht6 hb5
      go_wp2_with fail
      refine (H2.out _ g c T6.out).mono ?_
      rintro e w7 ⟨rfl, ht7⟩
      have T7 := Lib.hid ht7
      have hb7 := ht7.below
      clear ht7 hb6
      go_wp2_with fail
      refine (N1.out _ g c T7.out).mono ?_
      rintro e w8 ⟨rfl, ht8⟩
      have HB := Lib.hid ht8.below
      clear ht8 hb7
      go_wp2
      go_ret
      exact ⟨rfl, HS.out.2.trans (HB.out.mono (by have := HS.out.1; omega))⟩)

theorem only_walk (o p : Call) (w : World) : Calls Try.prog 5 #[.agg #[.int .u8 o.kind, .int .i64 o.variant, .string o.key, .string o.nonce, .string o.beside, .string o.text, .string o.tag, .int .u8 o.back], .agg #[.int .u8 p.kind, .int .i64 p.variant, .string p.key, .string p.nonce, .string p.beside, .string p.text, .string p.tag, .int .u8 p.back]] w fun e w' => e = .returned (.bool true) ∧ Below w.heap.size w w' := by
  by_cases hfw : FewP (fun i => if i = 0 then o else p) 2 2
  · by_cases h5 : SignsP 5 o.key
    · by_cases h6 : SignsP 5 p.key
      · exact only_main o p w hfw h5 h6
      · exact only_nokey2 o p w hfw h5 h6
    · exact only_nokey o p w hfw h5
  · exact only_few o p w hfw
end Eng
end Go.Proofs.Ytedoggejbhbebaa
