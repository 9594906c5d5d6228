/-
  Contracts of cbor.Open and cbor.NewReader. Conditions: none.
-/
import Derived.Test.YtpmepnejjjlodaaB
namespace Go.Proofs.Ytpmepnejjjlodaa
open Go.ChangeShapes Go.WideShapes Go.ChangeAt Go.RowKit
open Plain
set_option linter.unusedVariables false

/-- Has this type an open head? -/
def opens (m : Int) : Bool := decide ((2 ≤ m ∧ m ≤ 5) ∨ m = 7)

theorem opens_yes {m : Int} (h : (2 ≤ m ∧ m ≤ 5) ∨ m = 7) : opens m = true := by simp [opens, h]
theorem opens_no {m : Int} (h : ¬ ((2 ≤ m ∧ m ≤ 5) ∨ m = 7)) : opens m = false := by simp only [opens, decide_eq_false_iff_not]; exact h

theorem mayOpen_any (m : Int) (w : World) : Calls Try.prog 67 #[.int .i64 m] w fun e w' => e = .returned (.bool (opens m)) ∧ w = w' := by
  rcases (show m < 2 ∨ (2 ≤ m ∧ m ≤ 5) ∨ m = 6 ∨ m = 7 ∨ 7 < m from by omega) with h | ⟨h, h'⟩ | rfl | rfl | h
  · rw [opens_no (by omega)]
    have g1 : decide (2 ≤ m) = false := by simp; omega
    have g3 : (m == 7) = false := by simp; omega
    go_enter Try.func67, Try.ntmps67
    go_wp2
    go_ret
    exact ⟨rfl, rfl⟩
  · rw [opens_yes (by omega)]
    have g1 : decide (2 ≤ m) = true := by simp; omega
    have g2 : decide (m ≤ 5) = true := by simp; omega
    go_enter Try.func67, Try.ntmps67
    go_wp2
    go_ret
    exact ⟨rfl, rfl⟩
  · go_enter Try.func67, Try.ntmps67
    go_wp2
    go_ret
    exact ⟨rfl, rfl⟩
  · go_enter Try.func67, Try.ntmps67
    go_wp2
    go_ret
    exact ⟨rfl, rfl⟩
  · rw [opens_no (by omega)]
    have g1 : decide (2 ≤ m) = true := by simp; omega
    have g2 : decide (m ≤ 5) = false := by simp; omega
    have g3 : (m == 7) = false := by simp; omega
    go_enter Try.func67, Try.ntmps67
    go_wp2
    go_ret
    exact ⟨rfl, rfl⟩

/-- The open head of a type. -/
def openOf (m : Int) : List UInt8 := if opens m then [first (typeOf m) 31] else []

/-- cbor.Open. -/
theorem open_any (m : Int) (w : World) : Calls Try.prog 53 #[.int .i64 m] w fun e w' => e = .returned (.string ⟨(openOf m).toArray⟩) ∧ Below w.heap.size w w' := by
  unfold openOf
  cases ho : opens m
  · have HO := Lib.hid ho; clear ho
    go_enter Try.func53, Try.ntmps53
    go_wp2_with fail
    refine (mayOpen_any m _).mono ?_
    rw [HO.out]
    rintro e w' ⟨rfl, rfl⟩
    go_wp2
    go_ret
    exact ⟨rfl, Below.refl _ _⟩
  · have HO := Lib.hid ho; clear ho
    go_enter Try.func53, Try.ntmps53
    go_wp2_with fail
    refine (mayOpen_any m _).mono ?_
    rw [HO.out]
    rintro e w' ⟨rfl, rfl⟩
    go_wp2_with fail
    refine (spell_any m 31 0 0 _ (by omega) (by omega) (by omega) (by omega)).mono ?_
    rintro e w' ⟨rfl, hb⟩
    go_wp2
    go_ret
    exact ⟨rfl, hb⟩

/-- cbor.NewReader: a new block. -/
theorem newReader_any (s : ByteArray) (w : World) : Calls Try.prog 27 #[.string s] w fun e w' =>
    e = .returned (.pointer (some ⟨w.heap.size, 0, none⟩)) ∧ w' = w.alloc (.cells #[.string s, .int .i64 0, .int .i64 0] 73) := by
  go_enter Try.func27, Try.ntmps27
  go_wp2
  go_ret
  exact ⟨rfl, rfl⟩

end Go.Proofs.Ytpmepnejjjlodaa
