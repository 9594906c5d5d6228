/-
  Contracts of sha.Root at a known root and outside of 2 to 1000, of sha.Size at 384, and of the statements' awake. Conditions: none.
-/
import Derived.Test.YtfahmbkeibeceaaDoorRd
namespace Go.Proofs.YtfahmbkeibeceaaDoor
open Go.ChangeShapes Go.WideShapes Go.ChangeAt Go.RowKit

theorem whole_one {W V p e : Nat} (h1 : W ^ e ≤ p) (h2 : p < (W + 1) ^ e) (h3 : V ^ e ≤ p) (h4 : p < (V + 1) ^ e) : W = V := by
  rcases Nat.lt_trichotomy W V with h | h | h
  · have := Nat.pow_le_pow_left (show W + 1 ≤ V from h) e
    omega
  · exact h
  · have := Nat.pow_le_pow_left (show V + 1 ≤ W from h) e
    omega

theorem root_known2 (p r W : Nat) (hp : 2 ≤ p) (hq : p ≤ 1000) (h1 : W ^ 2 ≤ p) (h2 : p < (W + 1) ^ 2) (h : Sha.IsR p r 2 W) (w : World) :
    Calls Tryd.prog 20 #[.int .u64 p, .bool false] w fun x w' => x = .returned (.int .u64 (r : Nat)) ∧ Below w.heap.size w w' := by
  refine (root_2 p hp hq w).mono ?_
  rintro x w' ⟨s, V, rfl, -, g1, g2, g, hb⟩
  obtain rfl := whole_one g1 g2 h1 h2
  obtain rfl := Sha.isR_one g h
  exact ⟨rfl, hb⟩

theorem root_small2 (p : Nat) (h : p < 2) (w : World) : Calls Tryd.prog 20 #[.int .u64 p, .bool false] w fun x w' => x = .returned (.int .u64 0) ∧ w' = w := by
  have d1 : decide ((p : Int) < 2) = true := by simp; omega
  have HP := Lib.hid h; clear h
  go_enter Tryd.func20, Tryd.ntmps20
  go_wp2
  go_ret
  exact ⟨rfl, rfl⟩

theorem root_large2 (p : Nat) (h : 1000 < p) (w : World) : Calls Tryd.prog 20 #[.int .u64 p, .bool false] w fun x w' => x = .returned (.int .u64 0) ∧ w' = w := by
  have d1 : decide ((p : Int) < 2) = false := by simp; omega
  have d2 : decide ((1000 : Int) < p) = true := by simp; omega
  have HP := Lib.hid h; clear h
  go_enter Tryd.func20, Tryd.ntmps20
  go_wp2
  go_ret
  exact ⟨rfl, rfl⟩

theorem root_none2 (p : Nat) (h : p < 2 ∨ 1000 < p) (w : World) : Calls Tryd.prog 20 #[.int .u64 p, .bool false] w fun x w' => x = .returned (.int .u64 0) ∧ w' = w := by
  rcases h with h | h
  · exact root_small2 p h w
  · exact root_large2 p h w

theorem root_known3 (p r W : Nat) (hp : 2 ≤ p) (hq : p ≤ 1000) (h1 : W ^ 3 ≤ p) (h2 : p < (W + 1) ^ 3) (h : Sha.IsR p r 3 W) (w : World) :
    Calls Tryd.prog 20 #[.int .u64 p, .bool true] w fun x w' => x = .returned (.int .u64 (r : Nat)) ∧ Below w.heap.size w w' := by
  refine (root_3 p hp hq w).mono ?_
  rintro x w' ⟨s, V, rfl, -, g1, g2, g, hb⟩
  obtain rfl := whole_one g1 g2 h1 h2
  obtain rfl := Sha.isR_one g h
  exact ⟨rfl, hb⟩

theorem root_small3 (p : Nat) (h : p < 2) (w : World) : Calls Tryd.prog 20 #[.int .u64 p, .bool true] w fun x w' => x = .returned (.int .u64 0) ∧ w' = w := by
  have d1 : decide ((p : Int) < 2) = true := by simp; omega
  have HP := Lib.hid h; clear h
  go_enter Tryd.func20, Tryd.ntmps20
  go_wp2
  go_ret
  exact ⟨rfl, rfl⟩

theorem root_large3 (p : Nat) (h : 1000 < p) (w : World) : Calls Tryd.prog 20 #[.int .u64 p, .bool true] w fun x w' => x = .returned (.int .u64 0) ∧ w' = w := by
  have d1 : decide ((p : Int) < 2) = false := by simp; omega
  have d2 : decide ((1000 : Int) < p) = true := by simp; omega
  have HP := Lib.hid h; clear h
  go_enter Tryd.func20, Tryd.ntmps20
  go_wp2
  go_ret
  exact ⟨rfl, rfl⟩

theorem root_none3 (p : Nat) (h : p < 2 ∨ 1000 < p) (w : World) : Calls Tryd.prog 20 #[.int .u64 p, .bool true] w fun x w' => x = .returned (.int .u64 0) ∧ w' = w := by
  rcases h with h | h
  · exact root_small3 p h w
  · exact root_large3 p h w

theorem size384 (w : World) : Calls Tryd.prog 19 #[.int .i64 384] w fun x w' => x = .returned (.int .i64 48) ∧ w' = w := by
  go_enter Tryd.func19, Tryd.ntmps19
  go_wp2
  go_ret
  exact ⟨rfl, rfl⟩

theorem two_cube : Sha.IsR 2 4794697086780616226 3 1 := by decide +kernel

theorem awake_any (w : World) : Calls Tryd.prog 10 #[] w fun e w' => e = .returned (.bool true) ∧ Below w.heap.size w w' := by
  go_enter Tryd.func10, Tryd.ntmps10
  go_wp2_with fail
  refine (size384 _).mono ?_
  rintro e w1 ⟨rfl, rfl⟩
  go_wp2_with fail
  refine (root_known3 2 4794697086780616226 1 (by decide) (by decide) (by decide) (by decide) two_cube _).mono ?_
  rintro e w2 ⟨rfl, hb⟩
  have HB := Lib.hid hb; clear hb
  go_wp2
  go_ret
  exact ⟨rfl, HB.out⟩

end Go.Proofs.YtfahmbkeibeceaaDoor
