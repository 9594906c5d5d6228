/-
  Contracts of sha.rotate, rotations and shifts, for words of 32 and of 64 bits. Conditions: the distances lie between 0 and the word's bits.
-/
import Derived.Test.YtfahmbkeibeceaaDoorRd
import Derived.Test.YtfahmbkeibeceaaDoorShaSpec
import Derived.Deep.QuietTactic
import Derived.Deep.RegionHeld3
import Derived.Deep.DeepCutAuto
namespace Go.Proofs.YtfahmbkeibeceaaDoor
open Go.ChangeShapes Go.WideShapes Go.ChangeAt Go.RowKit
open Sha
set_option linter.unusedVariables false

theorem below_drewN (w : World) (n : Nat) : Below w.heap.size w (w.drewN n) := ⟨rfl, rfl, rfl, Nat.le_refl _, fun _ _ => rfl⟩

theorem shr_32 (x n : Nat) : (x : Int) / 2 ^ n = ((x / 2 ^ n : Nat) : Int) := by
  rw [Int.natCast_ediv]; simp
theorem shl_32 (x n : Nat) : IntKind.u32.wrap ((x : Int) * 2 ^ n) = ((x * 2 ^ n % 4294967296 : Nat) : Int) := by
  rw [IntKind.wrap_u32]; simp

theorem rotate_32 (x n : Nat) (w : World) (hx : x < 4294967296) (hn : 0 < n ∧ n < 32) :
    Calls Tryd.prog 55 #[.int .u32 x, .int .i64 n, .int .i64 32] w fun e w' => e = .returned (.int .u32 (rotr 32 x n : Nat)) ∧ Below w.heap.size w w' := by
  obtain ⟨m, hm⟩ : ∃ m, m = 32 - n := ⟨_, rfl⟩
  obtain ⟨q, hq⟩ : ∃ q, q = x / 2 ^ n := ⟨_, rfl⟩
  obtain ⟨s, hs⟩ : ∃ s, s = x * 2 ^ m % 4294967296 := ⟨_, rfl⟩
  have h0 : ¬ ((n : Int) < 0) := by omega
  have e1 : IntKind.i64.wrap (32 - (n : Int)) = (m : Int) := by rw [IntKind.wrap_i64]; omega
  have e2 : (x : Int) / 2 ^ n = (q : Int) := by rw [hq]; exact shr_32 x n
  have e3 : IntKind.u32.wrap ((x : Int) * 2 ^ m) = (s : Int) := by rw [hs]; exact shl_32 x m
  have hr : q ||| s = rotr 32 x n := by rw [hq, hs, hm]; rfl
  have e4 := u32_or_nat q s (by rw [hq]; exact Nat.lt_of_le_of_lt (Nat.div_le_self _ _) hx) (by rw [hs]; exact Nat.mod_lt _ (by decide))
  rw [hr] at e4
  have hm2 : (m : Int) ≤ 32 := by omega
  have hn2 : (n : Int) ≤ 32 := by omega
  clear hq hs hm hr hx hn
  generalize rotr 32 x n = R at *
  go_enter Tryd.func55, Tryd.ntmps55
  go_wp2
  go_quiet (fail)
  go_wp2
  go_ret
  exact ⟨rfl, below_drewN w nq⟩

/-- Three distances in memory. -/
structure By32 (w : World) (a b c : Nat) (X : World) : Prop where
  row : X.heap[w.heap.size]? = some (.cells #[.int .i64 a, .int .i64 b, .int .i64 c] 23 (0, 0))
  below : Below w.heap.size w X
theorem By32.next {w X Y : World} {a b c : Nat} (h : By32 w a b c X) (hb : Below X.heap.size X Y) : By32 w a b c Y :=
  ⟨by rw [hb.block _ (Array.getElem?_eq_some_iff.1 h.row).1]; exact h.row, below_link h.below hb⟩
theorem By32.drew {w X : World} {a b c : Nat} (h : By32 w a b c X) : By32 w a b c X.drew := ⟨h.row, h.below.drew⟩
theorem By32.cells {w X : World} {a b c : Nat} (h : By32 w a b c X) : X.cell? ⟨w.heap.size, 0, none⟩ = some (.int .i64 a) ∧ X.cell? ⟨w.heap.size, 1, none⟩ = some (.int .i64 b) ∧ X.cell? ⟨w.heap.size, 2, none⟩ = some (.int .i64 c) :=
  ⟨cell_of_row _ _ _ _ _ _ h.row, cell_of_row _ _ _ _ _ _ h.row, cell_of_row _ _ _ _ _ _ h.row⟩

theorem rotations_32 (x a b c : Nat) (w : World) (hx : x < 4294967296) (ha : 0 < a ∧ a < 32) (hb : 0 < b ∧ b < 32) (hc : 0 < c ∧ c < 32) :
    Calls Tryd.prog 46 #[.int .u32 x, .agg #[.int .i64 a, .int .i64 b, .int .i64 c], .int .i64 32] w fun e w' => e = .returned (.int .u32 ((rotr 32 x a ^^^ rotr 32 x b) ^^^ rotr 32 x c : Nat)) ∧ Below w.heap.size w w' := by
  have la := rotr_lt (n := a) (show x < 2 ^ 32 from hx)
  have lb := rotr_lt (n := b) (show x < 2 ^ 32 from hx)
  have lc := rotr_lt (n := c) (show x < 2 ^ 32 from hx)
  have x1 := u32_xor_nat _ _ la lb
  have x2 := u32_xor_nat _ _ (Nat.xor_lt_two_pow la lb) lc
  have FA := Lib.hid (fun w => rotate_32 x a w hx ha)
  have FB := Lib.hid (fun w => rotate_32 x b w hx hb)
  have FC := Lib.hid (fun w => rotate_32 x c w hx hc)
  clear hx la lb lc ha hb hc
  generalize rotr 32 x a = A at *
  generalize rotr 32 x b = B at *
  generalize rotr 32 x c = C at *
  have r0 : By32 w a b c (w.alloc (.cells #[.int .i64 a, .int .i64 b, .int .i64 c] 23)) := ⟨heap_alloc_new w _, (Below.refl _ _).alloc (Nat.le_refl _) _⟩
  have rd := r0.drew
  have HR := Lib.hid (fun X h => By32.cells (w := w) (a := a) (b := b) (c := c) (X := X) h)
  go_enter Tryd.func46, Tryd.ntmps46
  go_wp2_with fail
  go_region_held3 (fun X => X.cell? ⟨w.heap.size, 0, none⟩ = some (.int .i64 a) ∧ X.cell? ⟨w.heap.size, 1, none⟩ = some (.int .i64 b) ∧ X.cell? ⟨w.heap.size, 2, none⟩ = some (.int .i64 c)) ((refine HR.out _ ?_; (with_reducible assumption)))
    (first | (go_at_call 55; with_reducible refine (FA.out _).mono ?_; rintro e w' ⟨rfl, hbw⟩; have hbx' := By32.next (by with_reducible assumption) hbw) | (go_at_call 55; with_reducible refine (FB.out _).mono ?_; rintro e w' ⟨rfl, hbw⟩; have hbx' := By32.next (by with_reducible assumption) hbw) | (go_at_call 55; with_reducible refine (FC.out _).mono ?_; rintro e w' ⟨rfl, hbw⟩; have hbx' := By32.next (by with_reducible assumption) hbw))
  all_goals (go_wp2; go_ret)
  all_goals exact ⟨rfl, By32.below (by with_reducible assumption)⟩

theorem shifts_32 (x a b c : Nat) (w : World) (hx : x < 4294967296) (ha : 0 < a ∧ a < 32) (hb : 0 < b ∧ b < 32) (hc : 0 < c ∧ c < 32) :
    Calls Tryd.prog 54 #[.int .u32 x, .agg #[.int .i64 a, .int .i64 b, .int .i64 c], .int .i64 32] w fun e w' => e = .returned (.int .u32 ((rotr 32 x a ^^^ rotr 32 x b) ^^^ x / 2 ^ c : Nat)) ∧ Below w.heap.size w w' := by
  have la := rotr_lt (n := a) (show x < 2 ^ 32 from hx)
  have lb := rotr_lt (n := b) (show x < 2 ^ 32 from hx)
  have lc : x / 2 ^ c < 2 ^ 32 := Nat.lt_of_le_of_lt (Nat.div_le_self _ _) hx
  have x1 := u32_xor_nat _ _ la lb
  have x2 := u32_xor_nat _ _ (Nat.xor_lt_two_pow la lb) lc
  have FA := Lib.hid (fun w => rotate_32 x a w hx ha)
  have FB := Lib.hid (fun w => rotate_32 x b w hx hb)
  have e2 := shr_32 x c
  have h0 : ¬ ((c : Int) < 0) := by omega
  have hn2 : (c : Int) ≤ 32 := by omega
  clear hx la lb lc ha hb hc
  generalize rotr 32 x a = A at *
  generalize rotr 32 x b = B at *
  generalize x / 2 ^ c = C at *
  have r0 : By32 w a b c (w.alloc (.cells #[.int .i64 a, .int .i64 b, .int .i64 c] 23)) := ⟨heap_alloc_new w _, (Below.refl _ _).alloc (Nat.le_refl _) _⟩
  have rd := r0.drew
  have HR := Lib.hid (fun X h => By32.cells (w := w) (a := a) (b := b) (c := c) (X := X) h)
  go_enter Tryd.func54, Tryd.ntmps54
  go_wp2_with fail
  go_region_held3 (fun X => X.cell? ⟨w.heap.size, 0, none⟩ = some (.int .i64 a) ∧ X.cell? ⟨w.heap.size, 1, none⟩ = some (.int .i64 b) ∧ X.cell? ⟨w.heap.size, 2, none⟩ = some (.int .i64 c)) ((refine HR.out _ ?_; (with_reducible assumption)))
    (first | (go_at_call 55; with_reducible refine (FA.out _).mono ?_; rintro e w' ⟨rfl, hbw⟩; have hbx' := By32.next (by with_reducible assumption) hbw) | (go_at_call 55; with_reducible refine (FB.out _).mono ?_; rintro e w' ⟨rfl, hbw⟩; have hbx' := By32.next (by with_reducible assumption) hbw))
  all_goals (go_wp2; go_ret)
  all_goals exact ⟨rfl, By32.below (by with_reducible assumption)⟩

theorem shr_64 (x n : Nat) : (x : Int) / 2 ^ n = ((x / 2 ^ n : Nat) : Int) := by
  rw [Int.natCast_ediv]; simp
theorem shl_64 (x n : Nat) : IntKind.u64.wrap ((x : Int) * 2 ^ n) = ((x * 2 ^ n % 18446744073709551616 : Nat) : Int) := by
  rw [IntKind.wrap_u64]; simp

theorem rotate_64 (x n : Nat) (w : World) (hx : x < 18446744073709551616) (hn : 0 < n ∧ n < 64) :
    Calls Tryd.prog 57 #[.int .u64 x, .int .i64 n, .int .i64 64] w fun e w' => e = .returned (.int .u64 (rotr 64 x n : Nat)) ∧ Below w.heap.size w w' := by
  obtain ⟨m, hm⟩ : ∃ m, m = 64 - n := ⟨_, rfl⟩
  obtain ⟨q, hq⟩ : ∃ q, q = x / 2 ^ n := ⟨_, rfl⟩
  obtain ⟨s, hs⟩ : ∃ s, s = x * 2 ^ m % 18446744073709551616 := ⟨_, rfl⟩
  have h0 : ¬ ((n : Int) < 0) := by omega
  have e1 : IntKind.i64.wrap (64 - (n : Int)) = (m : Int) := by rw [IntKind.wrap_i64]; omega
  have e2 : (x : Int) / 2 ^ n = (q : Int) := by rw [hq]; exact shr_64 x n
  have e3 : IntKind.u64.wrap ((x : Int) * 2 ^ m) = (s : Int) := by rw [hs]; exact shl_64 x m
  have hr : q ||| s = rotr 64 x n := by rw [hq, hs, hm]; rfl
  have e4 := u64_or_nat q s (by rw [hq]; exact Nat.lt_of_le_of_lt (Nat.div_le_self _ _) hx) (by rw [hs]; exact Nat.mod_lt _ (by decide))
  rw [hr] at e4
  have hm2 : (m : Int) ≤ 64 := by omega
  have hn2 : (n : Int) ≤ 64 := by omega
  clear hq hs hm hr hx hn
  generalize rotr 64 x n = R at *
  go_enter Tryd.func57, Tryd.ntmps57
  go_wp2
  go_quiet (fail)
  go_wp2
  go_ret
  exact ⟨rfl, below_drewN w nq⟩

/-- Three distances in memory. -/
structure By64 (w : World) (a b c : Nat) (X : World) : Prop where
  row : X.heap[w.heap.size]? = some (.cells #[.int .i64 a, .int .i64 b, .int .i64 c] 23 (0, 0))
  below : Below w.heap.size w X
theorem By64.next {w X Y : World} {a b c : Nat} (h : By64 w a b c X) (hb : Below X.heap.size X Y) : By64 w a b c Y :=
  ⟨by rw [hb.block _ (Array.getElem?_eq_some_iff.1 h.row).1]; exact h.row, below_link h.below hb⟩
theorem By64.drew {w X : World} {a b c : Nat} (h : By64 w a b c X) : By64 w a b c X.drew := ⟨h.row, h.below.drew⟩
theorem By64.cells {w X : World} {a b c : Nat} (h : By64 w a b c X) : X.cell? ⟨w.heap.size, 0, none⟩ = some (.int .i64 a) ∧ X.cell? ⟨w.heap.size, 1, none⟩ = some (.int .i64 b) ∧ X.cell? ⟨w.heap.size, 2, none⟩ = some (.int .i64 c) :=
  ⟨cell_of_row _ _ _ _ _ _ h.row, cell_of_row _ _ _ _ _ _ h.row, cell_of_row _ _ _ _ _ _ h.row⟩

theorem rotations_64 (x a b c : Nat) (w : World) (hx : x < 18446744073709551616) (ha : 0 < a ∧ a < 64) (hb : 0 < b ∧ b < 64) (hc : 0 < c ∧ c < 64) :
    Calls Tryd.prog 48 #[.int .u64 x, .agg #[.int .i64 a, .int .i64 b, .int .i64 c], .int .i64 64] w fun e w' => e = .returned (.int .u64 ((rotr 64 x a ^^^ rotr 64 x b) ^^^ rotr 64 x c : Nat)) ∧ Below w.heap.size w w' := by
  have la := rotr_lt (n := a) (show x < 2 ^ 64 from hx)
  have lb := rotr_lt (n := b) (show x < 2 ^ 64 from hx)
  have lc := rotr_lt (n := c) (show x < 2 ^ 64 from hx)
  have x1 := u64_xor_nat _ _ la lb
  have x2 := u64_xor_nat _ _ (Nat.xor_lt_two_pow la lb) lc
  have FA := Lib.hid (fun w => rotate_64 x a w hx ha)
  have FB := Lib.hid (fun w => rotate_64 x b w hx hb)
  have FC := Lib.hid (fun w => rotate_64 x c w hx hc)
  clear hx la lb lc ha hb hc
  generalize rotr 64 x a = A at *
  generalize rotr 64 x b = B at *
  generalize rotr 64 x c = C at *
  have r0 : By64 w a b c (w.alloc (.cells #[.int .i64 a, .int .i64 b, .int .i64 c] 23)) := ⟨heap_alloc_new w _, (Below.refl _ _).alloc (Nat.le_refl _) _⟩
  have rd := r0.drew
  have HR := Lib.hid (fun X h => By64.cells (w := w) (a := a) (b := b) (c := c) (X := X) h)
  go_enter Tryd.func48, Tryd.ntmps48
  go_wp2_with fail
  go_region_held3 (fun X => X.cell? ⟨w.heap.size, 0, none⟩ = some (.int .i64 a) ∧ X.cell? ⟨w.heap.size, 1, none⟩ = some (.int .i64 b) ∧ X.cell? ⟨w.heap.size, 2, none⟩ = some (.int .i64 c)) ((refine HR.out _ ?_; (with_reducible assumption)))
    (first | (go_at_call 57; with_reducible refine (FA.out _).mono ?_; rintro e w' ⟨rfl, hbw⟩; have hbx' := By64.next (by with_reducible assumption) hbw) | (go_at_call 57; with_reducible refine (FB.out _).mono ?_; rintro e w' ⟨rfl, hbw⟩; have hbx' := By64.next (by with_reducible assumption) hbw) | (go_at_call 57; with_reducible refine (FC.out _).mono ?_; rintro e w' ⟨rfl, hbw⟩; have hbx' := By64.next (by with_reducible assumption) hbw))
  all_goals (go_wp2; go_ret)
  all_goals exact ⟨rfl, By64.below (by with_reducible assumption)⟩

theorem shifts_64 (x a b c : Nat) (w : World) (hx : x < 18446744073709551616) (ha : 0 < a ∧ a < 64) (hb : 0 < b ∧ b < 64) (hc : 0 < c ∧ c < 64) :
    Calls Tryd.prog 56 #[.int .u64 x, .agg #[.int .i64 a, .int .i64 b, .int .i64 c], .int .i64 64] w fun e w' => e = .returned (.int .u64 ((rotr 64 x a ^^^ rotr 64 x b) ^^^ x / 2 ^ c : Nat)) ∧ Below w.heap.size w w' := by
  have la := rotr_lt (n := a) (show x < 2 ^ 64 from hx)
  have lb := rotr_lt (n := b) (show x < 2 ^ 64 from hx)
  have lc : x / 2 ^ c < 2 ^ 64 := Nat.lt_of_le_of_lt (Nat.div_le_self _ _) hx
  have x1 := u64_xor_nat _ _ la lb
  have x2 := u64_xor_nat _ _ (Nat.xor_lt_two_pow la lb) lc
  have FA := Lib.hid (fun w => rotate_64 x a w hx ha)
  have FB := Lib.hid (fun w => rotate_64 x b w hx hb)
  have e2 := shr_64 x c
  have h0 : ¬ ((c : Int) < 0) := by omega
  have hn2 : (c : Int) ≤ 64 := by omega
  clear hx la lb lc ha hb hc
  generalize rotr 64 x a = A at *
  generalize rotr 64 x b = B at *
  generalize x / 2 ^ c = C at *
  have r0 : By64 w a b c (w.alloc (.cells #[.int .i64 a, .int .i64 b, .int .i64 c] 23)) := ⟨heap_alloc_new w _, (Below.refl _ _).alloc (Nat.le_refl _) _⟩
  have rd := r0.drew
  have HR := Lib.hid (fun X h => By64.cells (w := w) (a := a) (b := b) (c := c) (X := X) h)
  go_enter Tryd.func56, Tryd.ntmps56
  go_wp2_with fail
  go_region_held3 (fun X => X.cell? ⟨w.heap.size, 0, none⟩ = some (.int .i64 a) ∧ X.cell? ⟨w.heap.size, 1, none⟩ = some (.int .i64 b) ∧ X.cell? ⟨w.heap.size, 2, none⟩ = some (.int .i64 c)) ((refine HR.out _ ?_; (with_reducible assumption)))
    (first | (go_at_call 57; with_reducible refine (FA.out _).mono ?_; rintro e w' ⟨rfl, hbw⟩; have hbx' := By64.next (by with_reducible assumption) hbw) | (go_at_call 57; with_reducible refine (FB.out _).mono ?_; rintro e w' ⟨rfl, hbw⟩; have hbx' := By64.next (by with_reducible assumption) hbw))
  all_goals (go_wp2; go_ret)
  all_goals exact ⟨rfl, By64.below (by with_reducible assumption)⟩

end Go.Proofs.YtfahmbkeibeceaaDoor
