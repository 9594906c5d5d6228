/-
  The contract of the statements' awake. Conditions: none.
-/
import Derived.Test.YtelgglnamojegaaIaMore
namespace Go.Proofs.Ytelgglnamojegaa
open Go.ChangeShapes Go.WideShapes Go.ChangeAt Go.RowKit
set_option linter.unusedVariables false

theorem After_below {w w0 w' : World} {b : Nat} {v : Value} {most : Nat} {es : List (Int × ByteArray)} (h : Ia.After w0 b v most es w') (hb : Below w.heap.size w w0) (ho : ∀ k, Own2 b v k → w.heap.size ≤ k) : Below w.heap.size w w' := by
  obtain ⟨v', t, o, c⟩ := h
  exact hb.trans (c.below hb.size ho)

set_option maxHeartbeats 1000000 in
theorem awake_any (w : World) : Calls Try.prog 5 #[] w fun e w' => e = .returned (.bool true) ∧ Below w.heap.size w w' := by
  go_enter Try.func5, Try.ntmps5
  go_wp2_with fail
  refine (Ia.new_any 1 w (by omega)).mono ?_
  rintro e w1 ⟨rfl, ht, hb1⟩
  have hput := Ia.put_new w.heap.size _ 1 [] 3 ⟨#[120]⟩ w1 ht (by intro j e he; simp at he) (by simp) (by simp)
  have HP := Lib.hid hput; clear hput
  have HB := Lib.hid hb1; clear hb1 ht
  go_wp2_with fail
  refine HP.out.mono ?_
  rintro e w2 ⟨rfl, ha⟩
  have hb2 := After_below ha HB.out (by rintro k (rfl | hk); exact Nat.le_refl _; simp [Value.ownBlock] at hk)
  have HB2 := Lib.hid hb2; clear hb2
  obtain ⟨v', t, o, c⟩ := ha
  have hlen := Ia.len_any _ _ _ _ _ t
  have HL := Lib.hid hlen; clear hlen t o c
  go_wp2_with fail
  refine HL.out.mono ?_
  rintro e w3 ⟨rfl, rfl⟩
  go_wp2
  go_ret
  exact ⟨rfl, HB2.out⟩

end Go.Proofs.Ytelgglnamojegaa
