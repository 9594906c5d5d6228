/-
  Contract of the method three of dromondref05.Form. Conditions: the word has no more bits than the form says.
-/
import Derived.Test.YtfahmbkeibeceaaDoorTa
namespace Go.Proofs.YtfahmbkeibeceaaDoor
open Go.ChangeShapes Go.WideShapes Go.ChangeAt Go.RowKit Go.Great
open Sha
set_option linter.unusedVariables false

/-- The form in memory. -/
structure Fm32 (w : World) (X : World) : Prop where
  row : X.heap[w.heap.size]? = some (.cells form32 47 (0, 0))
  below : Below w.heap.size w X
theorem Fm32.next {w X Y : World} (h : Fm32 w X) (hb : Below X.heap.size X Y) : Fm32 w Y := ⟨keepBlock h.row hb, below_link h.below hb⟩
theorem Fm32.drew {w X : World} (h : Fm32 w X) : Fm32 w X.drew := ⟨h.row, h.below.drew⟩
theorem Fm32.at {w X : World} (h : Fm32 w X) (j : Nat) : X.cell? ⟨w.heap.size, j, none⟩ = form32[j]? := cell_of_row _ _ _ _ _ _ h.row

theorem Fm32.cells {w X : World} (h : Fm32 w X) : X.cell? ⟨w.heap.size, 0, none⟩ = some (.int .i64 32) ∧ X.cell? ⟨w.heap.size, 1, none⟩ = some (.int .i64 64) ∧ X.cell? ⟨w.heap.size, 2, none⟩ = some (.int .u64 2) ∧ X.cell? ⟨w.heap.size, 3, none⟩ = some (.int .u64 13) ∧ X.cell? ⟨w.heap.size, 4, none⟩ = some (.int .u64 22) ∧ X.cell? ⟨w.heap.size, 5, none⟩ = some (.int .u64 6) ∧ X.cell? ⟨w.heap.size, 6, none⟩ = some (.int .u64 11) ∧ X.cell? ⟨w.heap.size, 7, none⟩ = some (.int .u64 25) ∧ X.cell? ⟨w.heap.size, 8, none⟩ = some (.int .u64 7) ∧ X.cell? ⟨w.heap.size, 9, none⟩ = some (.int .u64 18) ∧ X.cell? ⟨w.heap.size, 10, none⟩ = some (.int .u64 3) ∧ X.cell? ⟨w.heap.size, 11, none⟩ = some (.int .u64 17) ∧ X.cell? ⟨w.heap.size, 12, none⟩ = some (.int .u64 19) ∧ X.cell? ⟨w.heap.size, 13, none⟩ = some (.int .u64 10) :=
  ⟨h.at 0, h.at 1, h.at 2, h.at 3, h.at 4, h.at 5, h.at 6, h.at 7, h.at 8, h.at 9, h.at 10, h.at 11, h.at 12, h.at 13⟩

set_option maxHeartbeats 2000000 in
theorem three0_32 (x : Nat) (w : World) (hx : x < 4294967296) :
    Calls Tryd.prog 39 #[.agg form32, .int .u64 x, .int .i64 0, .bool false] w fun e w' => e = .returned (.int .u64 (big 32 0 x : Nat)) ∧ Below w.heap.size w w' := by
  have la := rotr_lt (n := 2) (show x < 2 ^ 32 from hx)
  have lb := rotr_lt (n := 13) (show x < 2 ^ 32 from hx)
  have h64 : ∀ y : Nat, y < 2 ^ 32 → y < 2 ^ 64 := fun y hy => Nat.lt_of_lt_of_le hy (Nat.pow_le_pow_right (by decide) (by decide))
  have lc : rotr 32 x 22 < 2 ^ 32 := rotr_lt hx
  have x1 := u64_xor_nat _ _ (h64 _ la) (h64 _ lb)
  have x2 := u64_xor_nat _ _ (h64 _ (Nat.xor_lt_two_pow la lb)) (h64 _ lc)
  have hr : (rotr 32 x 2 ^^^ rotr 32 x 13) ^^^ rotr 32 x 22 = big 32 0 x := rfl
  rw [hr] at x2
  have F : ∀ n : Nat, 0 < n ∧ n < 32 → ∀ X, Calls Tryd.prog 49 #[.agg #[.int .i64 32, .int .i64 64, .int .u64 2, .int .u64 13, .int .u64 22, .int .u64 6, .int .u64 11, .int .u64 25, .int .u64 7, .int .u64 18, .int .u64 3, .int .u64 17, .int .u64 19, .int .u64 10], .int .u64 x, .int .u64 n] X fun e w' => e = .returned (.int .u64 (rotr 32 x n : Nat)) ∧ Below X.heap.size X w' := fun n hn X => right_32 x n X hx hn
  have FA := Lib.hid (show ∀ X, Calls Tryd.prog 49 #[.agg #[.int .i64 32, .int .i64 64, .int .u64 2, .int .u64 13, .int .u64 22, .int .u64 6, .int .u64 11, .int .u64 25, .int .u64 7, .int .u64 18, .int .u64 3, .int .u64 17, .int .u64 19, .int .u64 10], .int .u64 x, .int .u64 2] X fun e w' => e = .returned (.int .u64 (rotr 32 x 2 : Nat)) ∧ Below X.heap.size X w' from F 2 (by decide))
  have FB := Lib.hid (show ∀ X, Calls Tryd.prog 49 #[.agg #[.int .i64 32, .int .i64 64, .int .u64 2, .int .u64 13, .int .u64 22, .int .u64 6, .int .u64 11, .int .u64 25, .int .u64 7, .int .u64 18, .int .u64 3, .int .u64 17, .int .u64 19, .int .u64 10], .int .u64 x, .int .u64 13] X fun e w' => e = .returned (.int .u64 (rotr 32 x 13 : Nat)) ∧ Below X.heap.size X w' from F 13 (by decide))
  have FC := Lib.hid (show ∀ X, Calls Tryd.prog 49 #[.agg #[.int .i64 32, .int .i64 64, .int .u64 2, .int .u64 13, .int .u64 22, .int .u64 6, .int .u64 11, .int .u64 25, .int .u64 7, .int .u64 18, .int .u64 3, .int .u64 17, .int .u64 19, .int .u64 10], .int .u64 x, .int .u64 22] X fun e w' => e = .returned (.int .u64 (rotr 32 x 22 : Nat)) ∧ Below X.heap.size X w' from F 22 (by decide))
  have w1 : IntKind.i64.wrap 1 = 1 := by rfl
  have w2 : IntKind.i64.wrap 2 = 2 := by rfl
  clear F hx la lb lc h64 hr
  generalize big 32 0 x = R at *
  generalize rotr 32 x 2 = A at *
  generalize rotr 32 x 13 = B at *
  generalize rotr 32 x 22 = C at *
  have r0 : Fm32 w (w.alloc (.cells #[.int .i64 32, .int .i64 64, .int .u64 2, .int .u64 13, .int .u64 22, .int .u64 6, .int .u64 11, .int .u64 25, .int .u64 7, .int .u64 18, .int .u64 3, .int .u64 17, .int .u64 19, .int .u64 10] 47)) := ⟨heap_alloc_new w _, (Below.refl _ _).alloc (Nat.le_refl _) _⟩
  have rd := r0.drew
  have HR := Lib.hid (fun X h => Fm32.cells (w := w) (X := X) h)
  unfold form32
  go_enter Tryd.func39, Tryd.ntmps39
  go_wp2_with fail
  go_region_held3 (fun X => X.cell? ⟨w.heap.size, 0, none⟩ = some (.int .i64 32) ∧ X.cell? ⟨w.heap.size, 1, none⟩ = some (.int .i64 64) ∧ X.cell? ⟨w.heap.size, 2, none⟩ = some (.int .u64 2) ∧ X.cell? ⟨w.heap.size, 3, none⟩ = some (.int .u64 13) ∧ X.cell? ⟨w.heap.size, 4, none⟩ = some (.int .u64 22) ∧ X.cell? ⟨w.heap.size, 5, none⟩ = some (.int .u64 6) ∧ X.cell? ⟨w.heap.size, 6, none⟩ = some (.int .u64 11) ∧ X.cell? ⟨w.heap.size, 7, none⟩ = some (.int .u64 25) ∧ X.cell? ⟨w.heap.size, 8, none⟩ = some (.int .u64 7) ∧ X.cell? ⟨w.heap.size, 9, none⟩ = some (.int .u64 18) ∧ X.cell? ⟨w.heap.size, 10, none⟩ = some (.int .u64 3) ∧ X.cell? ⟨w.heap.size, 11, none⟩ = some (.int .u64 17) ∧ X.cell? ⟨w.heap.size, 12, none⟩ = some (.int .u64 19) ∧ X.cell? ⟨w.heap.size, 13, none⟩ = some (.int .u64 10)) ((refine HR.out _ ?_; (with_reducible assumption)))
    (first | (go_at_call 49; with_reducible refine (FA.out _).mono ?_; rintro e w' ⟨rfl, hbw⟩; have hbx' := Fm32.next (by with_reducible assumption) hbw) | (go_at_call 49; with_reducible refine (FB.out _).mono ?_; rintro e w' ⟨rfl, hbw⟩; have hbx' := Fm32.next (by with_reducible assumption) hbw) | (go_at_call 49; with_reducible refine (FC.out _).mono ?_; rintro e w' ⟨rfl, hbw⟩; have hbx' := Fm32.next (by with_reducible assumption) hbw))
  all_goals
    have rd2 := hbx'.drew
    go_wp2_with fail
    go_region_held3 (fun X => X.cell? ⟨w.heap.size, 0, none⟩ = some (.int .i64 32) ∧ X.cell? ⟨w.heap.size, 1, none⟩ = some (.int .i64 64) ∧ X.cell? ⟨w.heap.size, 2, none⟩ = some (.int .u64 2) ∧ X.cell? ⟨w.heap.size, 3, none⟩ = some (.int .u64 13) ∧ X.cell? ⟨w.heap.size, 4, none⟩ = some (.int .u64 22) ∧ X.cell? ⟨w.heap.size, 5, none⟩ = some (.int .u64 6) ∧ X.cell? ⟨w.heap.size, 6, none⟩ = some (.int .u64 11) ∧ X.cell? ⟨w.heap.size, 7, none⟩ = some (.int .u64 25) ∧ X.cell? ⟨w.heap.size, 8, none⟩ = some (.int .u64 7) ∧ X.cell? ⟨w.heap.size, 9, none⟩ = some (.int .u64 18) ∧ X.cell? ⟨w.heap.size, 10, none⟩ = some (.int .u64 3) ∧ X.cell? ⟨w.heap.size, 11, none⟩ = some (.int .u64 17) ∧ X.cell? ⟨w.heap.size, 12, none⟩ = some (.int .u64 19) ∧ X.cell? ⟨w.heap.size, 13, none⟩ = some (.int .u64 10)) ((refine HR.out _ ?_; (with_reducible assumption)))
      (first | (go_at_call 49; with_reducible refine (FA.out _).mono ?_; rintro e w' ⟨rfl, hbw⟩; have hbx' := Fm32.next (by with_reducible assumption) hbw) | (go_at_call 49; with_reducible refine (FB.out _).mono ?_; rintro e w' ⟨rfl, hbw⟩; have hbx' := Fm32.next (by with_reducible assumption) hbw) | (go_at_call 49; with_reducible refine (FC.out _).mono ?_; rintro e w' ⟨rfl, hbw⟩; have hbx' := Fm32.next (by with_reducible assumption) hbw))
  all_goals (go_wp2; go_ret)
  all_goals exact ⟨rfl, Fm32.below (by with_reducible assumption)⟩

set_option maxHeartbeats 2000000 in
theorem three3_32 (x : Nat) (w : World) (hx : x < 4294967296) :
    Calls Tryd.prog 39 #[.agg form32, .int .u64 x, .int .i64 3, .bool false] w fun e w' => e = .returned (.int .u64 (big 32 3 x : Nat)) ∧ Below w.heap.size w w' := by
  have la := rotr_lt (n := 6) (show x < 2 ^ 32 from hx)
  have lb := rotr_lt (n := 11) (show x < 2 ^ 32 from hx)
  have h64 : ∀ y : Nat, y < 2 ^ 32 → y < 2 ^ 64 := fun y hy => Nat.lt_of_lt_of_le hy (Nat.pow_le_pow_right (by decide) (by decide))
  have lc : rotr 32 x 25 < 2 ^ 32 := rotr_lt hx
  have x1 := u64_xor_nat _ _ (h64 _ la) (h64 _ lb)
  have x2 := u64_xor_nat _ _ (h64 _ (Nat.xor_lt_two_pow la lb)) (h64 _ lc)
  have hr : (rotr 32 x 6 ^^^ rotr 32 x 11) ^^^ rotr 32 x 25 = big 32 3 x := rfl
  rw [hr] at x2
  have F : ∀ n : Nat, 0 < n ∧ n < 32 → ∀ X, Calls Tryd.prog 49 #[.agg #[.int .i64 32, .int .i64 64, .int .u64 2, .int .u64 13, .int .u64 22, .int .u64 6, .int .u64 11, .int .u64 25, .int .u64 7, .int .u64 18, .int .u64 3, .int .u64 17, .int .u64 19, .int .u64 10], .int .u64 x, .int .u64 n] X fun e w' => e = .returned (.int .u64 (rotr 32 x n : Nat)) ∧ Below X.heap.size X w' := fun n hn X => right_32 x n X hx hn
  have FA := Lib.hid (show ∀ X, Calls Tryd.prog 49 #[.agg #[.int .i64 32, .int .i64 64, .int .u64 2, .int .u64 13, .int .u64 22, .int .u64 6, .int .u64 11, .int .u64 25, .int .u64 7, .int .u64 18, .int .u64 3, .int .u64 17, .int .u64 19, .int .u64 10], .int .u64 x, .int .u64 6] X fun e w' => e = .returned (.int .u64 (rotr 32 x 6 : Nat)) ∧ Below X.heap.size X w' from F 6 (by decide))
  have FB := Lib.hid (show ∀ X, Calls Tryd.prog 49 #[.agg #[.int .i64 32, .int .i64 64, .int .u64 2, .int .u64 13, .int .u64 22, .int .u64 6, .int .u64 11, .int .u64 25, .int .u64 7, .int .u64 18, .int .u64 3, .int .u64 17, .int .u64 19, .int .u64 10], .int .u64 x, .int .u64 11] X fun e w' => e = .returned (.int .u64 (rotr 32 x 11 : Nat)) ∧ Below X.heap.size X w' from F 11 (by decide))
  have FC := Lib.hid (show ∀ X, Calls Tryd.prog 49 #[.agg #[.int .i64 32, .int .i64 64, .int .u64 2, .int .u64 13, .int .u64 22, .int .u64 6, .int .u64 11, .int .u64 25, .int .u64 7, .int .u64 18, .int .u64 3, .int .u64 17, .int .u64 19, .int .u64 10], .int .u64 x, .int .u64 25] X fun e w' => e = .returned (.int .u64 (rotr 32 x 25 : Nat)) ∧ Below X.heap.size X w' from F 25 (by decide))
  have w1 : IntKind.i64.wrap 4 = 4 := by rfl
  have w2 : IntKind.i64.wrap 5 = 5 := by rfl
  clear F hx la lb lc h64 hr
  generalize big 32 3 x = R at *
  generalize rotr 32 x 6 = A at *
  generalize rotr 32 x 11 = B at *
  generalize rotr 32 x 25 = C at *
  have r0 : Fm32 w (w.alloc (.cells #[.int .i64 32, .int .i64 64, .int .u64 2, .int .u64 13, .int .u64 22, .int .u64 6, .int .u64 11, .int .u64 25, .int .u64 7, .int .u64 18, .int .u64 3, .int .u64 17, .int .u64 19, .int .u64 10] 47)) := ⟨heap_alloc_new w _, (Below.refl _ _).alloc (Nat.le_refl _) _⟩
  have rd := r0.drew
  have HR := Lib.hid (fun X h => Fm32.cells (w := w) (X := X) h)
  unfold form32
  go_enter Tryd.func39, Tryd.ntmps39
  go_wp2_with fail
  go_region_held3 (fun X => X.cell? ⟨w.heap.size, 0, none⟩ = some (.int .i64 32) ∧ X.cell? ⟨w.heap.size, 1, none⟩ = some (.int .i64 64) ∧ X.cell? ⟨w.heap.size, 2, none⟩ = some (.int .u64 2) ∧ X.cell? ⟨w.heap.size, 3, none⟩ = some (.int .u64 13) ∧ X.cell? ⟨w.heap.size, 4, none⟩ = some (.int .u64 22) ∧ X.cell? ⟨w.heap.size, 5, none⟩ = some (.int .u64 6) ∧ X.cell? ⟨w.heap.size, 6, none⟩ = some (.int .u64 11) ∧ X.cell? ⟨w.heap.size, 7, none⟩ = some (.int .u64 25) ∧ X.cell? ⟨w.heap.size, 8, none⟩ = some (.int .u64 7) ∧ X.cell? ⟨w.heap.size, 9, none⟩ = some (.int .u64 18) ∧ X.cell? ⟨w.heap.size, 10, none⟩ = some (.int .u64 3) ∧ X.cell? ⟨w.heap.size, 11, none⟩ = some (.int .u64 17) ∧ X.cell? ⟨w.heap.size, 12, none⟩ = some (.int .u64 19) ∧ X.cell? ⟨w.heap.size, 13, none⟩ = some (.int .u64 10)) ((refine HR.out _ ?_; (with_reducible assumption)))
    (first | (go_at_call 49; with_reducible refine (FA.out _).mono ?_; rintro e w' ⟨rfl, hbw⟩; have hbx' := Fm32.next (by with_reducible assumption) hbw) | (go_at_call 49; with_reducible refine (FB.out _).mono ?_; rintro e w' ⟨rfl, hbw⟩; have hbx' := Fm32.next (by with_reducible assumption) hbw) | (go_at_call 49; with_reducible refine (FC.out _).mono ?_; rintro e w' ⟨rfl, hbw⟩; have hbx' := Fm32.next (by with_reducible assumption) hbw))
  all_goals
    have rd2 := hbx'.drew
    go_wp2_with fail
    go_region_held3 (fun X => X.cell? ⟨w.heap.size, 0, none⟩ = some (.int .i64 32) ∧ X.cell? ⟨w.heap.size, 1, none⟩ = some (.int .i64 64) ∧ X.cell? ⟨w.heap.size, 2, none⟩ = some (.int .u64 2) ∧ X.cell? ⟨w.heap.size, 3, none⟩ = some (.int .u64 13) ∧ X.cell? ⟨w.heap.size, 4, none⟩ = some (.int .u64 22) ∧ X.cell? ⟨w.heap.size, 5, none⟩ = some (.int .u64 6) ∧ X.cell? ⟨w.heap.size, 6, none⟩ = some (.int .u64 11) ∧ X.cell? ⟨w.heap.size, 7, none⟩ = some (.int .u64 25) ∧ X.cell? ⟨w.heap.size, 8, none⟩ = some (.int .u64 7) ∧ X.cell? ⟨w.heap.size, 9, none⟩ = some (.int .u64 18) ∧ X.cell? ⟨w.heap.size, 10, none⟩ = some (.int .u64 3) ∧ X.cell? ⟨w.heap.size, 11, none⟩ = some (.int .u64 17) ∧ X.cell? ⟨w.heap.size, 12, none⟩ = some (.int .u64 19) ∧ X.cell? ⟨w.heap.size, 13, none⟩ = some (.int .u64 10)) ((refine HR.out _ ?_; (with_reducible assumption)))
      (first | (go_at_call 49; with_reducible refine (FA.out _).mono ?_; rintro e w' ⟨rfl, hbw⟩; have hbx' := Fm32.next (by with_reducible assumption) hbw) | (go_at_call 49; with_reducible refine (FB.out _).mono ?_; rintro e w' ⟨rfl, hbw⟩; have hbx' := Fm32.next (by with_reducible assumption) hbw) | (go_at_call 49; with_reducible refine (FC.out _).mono ?_; rintro e w' ⟨rfl, hbw⟩; have hbx' := Fm32.next (by with_reducible assumption) hbw))
  all_goals (go_wp2; go_ret)
  all_goals exact ⟨rfl, Fm32.below (by with_reducible assumption)⟩

set_option maxHeartbeats 2000000 in
theorem three6_32 (x : Nat) (w : World) (hx : x < 4294967296) :
    Calls Tryd.prog 39 #[.agg form32, .int .u64 x, .int .i64 6, .bool true] w fun e w' => e = .returned (.int .u64 (little 32 6 x : Nat)) ∧ Below w.heap.size w w' := by
  have la := rotr_lt (n := 7) (show x < 2 ^ 32 from hx)
  have lb := rotr_lt (n := 18) (show x < 2 ^ 32 from hx)
  have h64 : ∀ y : Nat, y < 2 ^ 32 → y < 2 ^ 64 := fun y hy => Nat.lt_of_lt_of_le hy (Nat.pow_le_pow_right (by decide) (by decide))
  have lc : x / 2 ^ 3 < 2 ^ 32 := Nat.lt_of_le_of_lt (Nat.div_le_self _ _) hx
  have x1 := u64_xor_nat _ _ (h64 _ la) (h64 _ lb)
  have x2 := u64_xor_nat _ _ (h64 _ (Nat.xor_lt_two_pow la lb)) (h64 _ lc)
  have hr : (rotr 32 x 7 ^^^ rotr 32 x 18) ^^^ x / 2 ^ 3 = little 32 6 x := rfl
  rw [hr] at x2
  have F : ∀ n : Nat, 0 < n ∧ n < 32 → ∀ X, Calls Tryd.prog 49 #[.agg #[.int .i64 32, .int .i64 64, .int .u64 2, .int .u64 13, .int .u64 22, .int .u64 6, .int .u64 11, .int .u64 25, .int .u64 7, .int .u64 18, .int .u64 3, .int .u64 17, .int .u64 19, .int .u64 10], .int .u64 x, .int .u64 n] X fun e w' => e = .returned (.int .u64 (rotr 32 x n : Nat)) ∧ Below X.heap.size X w' := fun n hn X => right_32 x n X hx hn
  have FA := Lib.hid (show ∀ X, Calls Tryd.prog 49 #[.agg #[.int .i64 32, .int .i64 64, .int .u64 2, .int .u64 13, .int .u64 22, .int .u64 6, .int .u64 11, .int .u64 25, .int .u64 7, .int .u64 18, .int .u64 3, .int .u64 17, .int .u64 19, .int .u64 10], .int .u64 x, .int .u64 7] X fun e w' => e = .returned (.int .u64 (rotr 32 x 7 : Nat)) ∧ Below X.heap.size X w' from F 7 (by decide))
  have FB := Lib.hid (show ∀ X, Calls Tryd.prog 49 #[.agg #[.int .i64 32, .int .i64 64, .int .u64 2, .int .u64 13, .int .u64 22, .int .u64 6, .int .u64 11, .int .u64 25, .int .u64 7, .int .u64 18, .int .u64 3, .int .u64 17, .int .u64 19, .int .u64 10], .int .u64 x, .int .u64 18] X fun e w' => e = .returned (.int .u64 (rotr 32 x 18 : Nat)) ∧ Below X.heap.size X w' from F 18 (by decide))
  have xs : (x : Int) / 8 = ((x / 2 ^ 3 : Nat) : Int) := by omega
  have w1 : IntKind.i64.wrap 7 = 7 := by rfl
  have w2 : IntKind.i64.wrap 8 = 8 := by rfl
  clear F hx la lb lc h64 hr
  generalize little 32 6 x = R at *
  generalize rotr 32 x 7 = A at *
  generalize rotr 32 x 18 = B at *
  generalize x / 2 ^ 3 = C at *
  have r0 : Fm32 w (w.alloc (.cells #[.int .i64 32, .int .i64 64, .int .u64 2, .int .u64 13, .int .u64 22, .int .u64 6, .int .u64 11, .int .u64 25, .int .u64 7, .int .u64 18, .int .u64 3, .int .u64 17, .int .u64 19, .int .u64 10] 47)) := ⟨heap_alloc_new w _, (Below.refl _ _).alloc (Nat.le_refl _) _⟩
  have rd := r0.drew
  have HR := Lib.hid (fun X h => Fm32.cells (w := w) (X := X) h)
  unfold form32
  go_enter Tryd.func39, Tryd.ntmps39
  go_wp2_with fail
  go_region_held3 (fun X => X.cell? ⟨w.heap.size, 0, none⟩ = some (.int .i64 32) ∧ X.cell? ⟨w.heap.size, 1, none⟩ = some (.int .i64 64) ∧ X.cell? ⟨w.heap.size, 2, none⟩ = some (.int .u64 2) ∧ X.cell? ⟨w.heap.size, 3, none⟩ = some (.int .u64 13) ∧ X.cell? ⟨w.heap.size, 4, none⟩ = some (.int .u64 22) ∧ X.cell? ⟨w.heap.size, 5, none⟩ = some (.int .u64 6) ∧ X.cell? ⟨w.heap.size, 6, none⟩ = some (.int .u64 11) ∧ X.cell? ⟨w.heap.size, 7, none⟩ = some (.int .u64 25) ∧ X.cell? ⟨w.heap.size, 8, none⟩ = some (.int .u64 7) ∧ X.cell? ⟨w.heap.size, 9, none⟩ = some (.int .u64 18) ∧ X.cell? ⟨w.heap.size, 10, none⟩ = some (.int .u64 3) ∧ X.cell? ⟨w.heap.size, 11, none⟩ = some (.int .u64 17) ∧ X.cell? ⟨w.heap.size, 12, none⟩ = some (.int .u64 19) ∧ X.cell? ⟨w.heap.size, 13, none⟩ = some (.int .u64 10)) ((refine HR.out _ ?_; (with_reducible assumption)))
    (first | (go_at_call 49; with_reducible refine (FA.out _).mono ?_; rintro e w' ⟨rfl, hbw⟩; have hbx' := Fm32.next (by with_reducible assumption) hbw) | (go_at_call 49; with_reducible refine (FB.out _).mono ?_; rintro e w' ⟨rfl, hbw⟩; have hbx' := Fm32.next (by with_reducible assumption) hbw))
  all_goals (go_wp2; go_ret)
  all_goals exact ⟨rfl, Fm32.below (by with_reducible assumption)⟩

set_option maxHeartbeats 2000000 in
theorem three9_32 (x : Nat) (w : World) (hx : x < 4294967296) :
    Calls Tryd.prog 39 #[.agg form32, .int .u64 x, .int .i64 9, .bool true] w fun e w' => e = .returned (.int .u64 (little 32 9 x : Nat)) ∧ Below w.heap.size w w' := by
  have la := rotr_lt (n := 17) (show x < 2 ^ 32 from hx)
  have lb := rotr_lt (n := 19) (show x < 2 ^ 32 from hx)
  have h64 : ∀ y : Nat, y < 2 ^ 32 → y < 2 ^ 64 := fun y hy => Nat.lt_of_lt_of_le hy (Nat.pow_le_pow_right (by decide) (by decide))
  have lc : x / 2 ^ 10 < 2 ^ 32 := Nat.lt_of_le_of_lt (Nat.div_le_self _ _) hx
  have x1 := u64_xor_nat _ _ (h64 _ la) (h64 _ lb)
  have x2 := u64_xor_nat _ _ (h64 _ (Nat.xor_lt_two_pow la lb)) (h64 _ lc)
  have hr : (rotr 32 x 17 ^^^ rotr 32 x 19) ^^^ x / 2 ^ 10 = little 32 9 x := rfl
  rw [hr] at x2
  have F : ∀ n : Nat, 0 < n ∧ n < 32 → ∀ X, Calls Tryd.prog 49 #[.agg #[.int .i64 32, .int .i64 64, .int .u64 2, .int .u64 13, .int .u64 22, .int .u64 6, .int .u64 11, .int .u64 25, .int .u64 7, .int .u64 18, .int .u64 3, .int .u64 17, .int .u64 19, .int .u64 10], .int .u64 x, .int .u64 n] X fun e w' => e = .returned (.int .u64 (rotr 32 x n : Nat)) ∧ Below X.heap.size X w' := fun n hn X => right_32 x n X hx hn
  have FA := Lib.hid (show ∀ X, Calls Tryd.prog 49 #[.agg #[.int .i64 32, .int .i64 64, .int .u64 2, .int .u64 13, .int .u64 22, .int .u64 6, .int .u64 11, .int .u64 25, .int .u64 7, .int .u64 18, .int .u64 3, .int .u64 17, .int .u64 19, .int .u64 10], .int .u64 x, .int .u64 17] X fun e w' => e = .returned (.int .u64 (rotr 32 x 17 : Nat)) ∧ Below X.heap.size X w' from F 17 (by decide))
  have FB := Lib.hid (show ∀ X, Calls Tryd.prog 49 #[.agg #[.int .i64 32, .int .i64 64, .int .u64 2, .int .u64 13, .int .u64 22, .int .u64 6, .int .u64 11, .int .u64 25, .int .u64 7, .int .u64 18, .int .u64 3, .int .u64 17, .int .u64 19, .int .u64 10], .int .u64 x, .int .u64 19] X fun e w' => e = .returned (.int .u64 (rotr 32 x 19 : Nat)) ∧ Below X.heap.size X w' from F 19 (by decide))
  have xs : (x : Int) / 1024 = ((x / 2 ^ 10 : Nat) : Int) := by omega
  have w1 : IntKind.i64.wrap 10 = 10 := by rfl
  have w2 : IntKind.i64.wrap 11 = 11 := by rfl
  clear F hx la lb lc h64 hr
  generalize little 32 9 x = R at *
  generalize rotr 32 x 17 = A at *
  generalize rotr 32 x 19 = B at *
  generalize x / 2 ^ 10 = C at *
  have r0 : Fm32 w (w.alloc (.cells #[.int .i64 32, .int .i64 64, .int .u64 2, .int .u64 13, .int .u64 22, .int .u64 6, .int .u64 11, .int .u64 25, .int .u64 7, .int .u64 18, .int .u64 3, .int .u64 17, .int .u64 19, .int .u64 10] 47)) := ⟨heap_alloc_new w _, (Below.refl _ _).alloc (Nat.le_refl _) _⟩
  have rd := r0.drew
  have HR := Lib.hid (fun X h => Fm32.cells (w := w) (X := X) h)
  unfold form32
  go_enter Tryd.func39, Tryd.ntmps39
  go_wp2_with fail
  go_region_held3 (fun X => X.cell? ⟨w.heap.size, 0, none⟩ = some (.int .i64 32) ∧ X.cell? ⟨w.heap.size, 1, none⟩ = some (.int .i64 64) ∧ X.cell? ⟨w.heap.size, 2, none⟩ = some (.int .u64 2) ∧ X.cell? ⟨w.heap.size, 3, none⟩ = some (.int .u64 13) ∧ X.cell? ⟨w.heap.size, 4, none⟩ = some (.int .u64 22) ∧ X.cell? ⟨w.heap.size, 5, none⟩ = some (.int .u64 6) ∧ X.cell? ⟨w.heap.size, 6, none⟩ = some (.int .u64 11) ∧ X.cell? ⟨w.heap.size, 7, none⟩ = some (.int .u64 25) ∧ X.cell? ⟨w.heap.size, 8, none⟩ = some (.int .u64 7) ∧ X.cell? ⟨w.heap.size, 9, none⟩ = some (.int .u64 18) ∧ X.cell? ⟨w.heap.size, 10, none⟩ = some (.int .u64 3) ∧ X.cell? ⟨w.heap.size, 11, none⟩ = some (.int .u64 17) ∧ X.cell? ⟨w.heap.size, 12, none⟩ = some (.int .u64 19) ∧ X.cell? ⟨w.heap.size, 13, none⟩ = some (.int .u64 10)) ((refine HR.out _ ?_; (with_reducible assumption)))
    (first | (go_at_call 49; with_reducible refine (FA.out _).mono ?_; rintro e w' ⟨rfl, hbw⟩; have hbx' := Fm32.next (by with_reducible assumption) hbw) | (go_at_call 49; with_reducible refine (FB.out _).mono ?_; rintro e w' ⟨rfl, hbw⟩; have hbx' := Fm32.next (by with_reducible assumption) hbw))
  all_goals (go_wp2; go_ret)
  all_goals exact ⟨rfl, Fm32.below (by with_reducible assumption)⟩

/-- The form in memory. -/
structure Fm64 (w : World) (X : World) : Prop where
  row : X.heap[w.heap.size]? = some (.cells form64 47 (0, 0))
  below : Below w.heap.size w X
theorem Fm64.next {w X Y : World} (h : Fm64 w X) (hb : Below X.heap.size X Y) : Fm64 w Y := ⟨keepBlock h.row hb, below_link h.below hb⟩
theorem Fm64.drew {w X : World} (h : Fm64 w X) : Fm64 w X.drew := ⟨h.row, h.below.drew⟩
theorem Fm64.at {w X : World} (h : Fm64 w X) (j : Nat) : X.cell? ⟨w.heap.size, j, none⟩ = form64[j]? := cell_of_row _ _ _ _ _ _ h.row

theorem Fm64.cells {w X : World} (h : Fm64 w X) : X.cell? ⟨w.heap.size, 0, none⟩ = some (.int .i64 64) ∧ X.cell? ⟨w.heap.size, 1, none⟩ = some (.int .i64 80) ∧ X.cell? ⟨w.heap.size, 2, none⟩ = some (.int .u64 28) ∧ X.cell? ⟨w.heap.size, 3, none⟩ = some (.int .u64 34) ∧ X.cell? ⟨w.heap.size, 4, none⟩ = some (.int .u64 39) ∧ X.cell? ⟨w.heap.size, 5, none⟩ = some (.int .u64 14) ∧ X.cell? ⟨w.heap.size, 6, none⟩ = some (.int .u64 18) ∧ X.cell? ⟨w.heap.size, 7, none⟩ = some (.int .u64 41) ∧ X.cell? ⟨w.heap.size, 8, none⟩ = some (.int .u64 1) ∧ X.cell? ⟨w.heap.size, 9, none⟩ = some (.int .u64 8) ∧ X.cell? ⟨w.heap.size, 10, none⟩ = some (.int .u64 7) ∧ X.cell? ⟨w.heap.size, 11, none⟩ = some (.int .u64 19) ∧ X.cell? ⟨w.heap.size, 12, none⟩ = some (.int .u64 61) ∧ X.cell? ⟨w.heap.size, 13, none⟩ = some (.int .u64 6) :=
  ⟨h.at 0, h.at 1, h.at 2, h.at 3, h.at 4, h.at 5, h.at 6, h.at 7, h.at 8, h.at 9, h.at 10, h.at 11, h.at 12, h.at 13⟩

set_option maxHeartbeats 2000000 in
theorem three0_64 (x : Nat) (w : World) (hx : x < 18446744073709551616) :
    Calls Tryd.prog 39 #[.agg form64, .int .u64 x, .int .i64 0, .bool false] w fun e w' => e = .returned (.int .u64 (big 64 0 x : Nat)) ∧ Below w.heap.size w w' := by
  have la := rotr_lt (n := 28) (show x < 2 ^ 64 from hx)
  have lb := rotr_lt (n := 34) (show x < 2 ^ 64 from hx)
  have h64 : ∀ y : Nat, y < 2 ^ 64 → y < 2 ^ 64 := fun y hy => Nat.lt_of_lt_of_le hy (Nat.pow_le_pow_right (by decide) (by decide))
  have lc : rotr 64 x 39 < 2 ^ 64 := rotr_lt hx
  have x1 := u64_xor_nat _ _ (h64 _ la) (h64 _ lb)
  have x2 := u64_xor_nat _ _ (h64 _ (Nat.xor_lt_two_pow la lb)) (h64 _ lc)
  have hr : (rotr 64 x 28 ^^^ rotr 64 x 34) ^^^ rotr 64 x 39 = big 64 0 x := rfl
  rw [hr] at x2
  have F : ∀ n : Nat, 0 < n ∧ n < 64 → ∀ X, Calls Tryd.prog 49 #[.agg #[.int .i64 64, .int .i64 80, .int .u64 28, .int .u64 34, .int .u64 39, .int .u64 14, .int .u64 18, .int .u64 41, .int .u64 1, .int .u64 8, .int .u64 7, .int .u64 19, .int .u64 61, .int .u64 6], .int .u64 x, .int .u64 n] X fun e w' => e = .returned (.int .u64 (rotr 64 x n : Nat)) ∧ Below X.heap.size X w' := fun n hn X => right_64 x n X hx hn
  have FA := Lib.hid (show ∀ X, Calls Tryd.prog 49 #[.agg #[.int .i64 64, .int .i64 80, .int .u64 28, .int .u64 34, .int .u64 39, .int .u64 14, .int .u64 18, .int .u64 41, .int .u64 1, .int .u64 8, .int .u64 7, .int .u64 19, .int .u64 61, .int .u64 6], .int .u64 x, .int .u64 28] X fun e w' => e = .returned (.int .u64 (rotr 64 x 28 : Nat)) ∧ Below X.heap.size X w' from F 28 (by decide))
  have FB := Lib.hid (show ∀ X, Calls Tryd.prog 49 #[.agg #[.int .i64 64, .int .i64 80, .int .u64 28, .int .u64 34, .int .u64 39, .int .u64 14, .int .u64 18, .int .u64 41, .int .u64 1, .int .u64 8, .int .u64 7, .int .u64 19, .int .u64 61, .int .u64 6], .int .u64 x, .int .u64 34] X fun e w' => e = .returned (.int .u64 (rotr 64 x 34 : Nat)) ∧ Below X.heap.size X w' from F 34 (by decide))
  have FC := Lib.hid (show ∀ X, Calls Tryd.prog 49 #[.agg #[.int .i64 64, .int .i64 80, .int .u64 28, .int .u64 34, .int .u64 39, .int .u64 14, .int .u64 18, .int .u64 41, .int .u64 1, .int .u64 8, .int .u64 7, .int .u64 19, .int .u64 61, .int .u64 6], .int .u64 x, .int .u64 39] X fun e w' => e = .returned (.int .u64 (rotr 64 x 39 : Nat)) ∧ Below X.heap.size X w' from F 39 (by decide))
  have w1 : IntKind.i64.wrap 1 = 1 := by rfl
  have w2 : IntKind.i64.wrap 2 = 2 := by rfl
  clear F hx la lb lc h64 hr
  generalize big 64 0 x = R at *
  generalize rotr 64 x 28 = A at *
  generalize rotr 64 x 34 = B at *
  generalize rotr 64 x 39 = C at *
  have r0 : Fm64 w (w.alloc (.cells #[.int .i64 64, .int .i64 80, .int .u64 28, .int .u64 34, .int .u64 39, .int .u64 14, .int .u64 18, .int .u64 41, .int .u64 1, .int .u64 8, .int .u64 7, .int .u64 19, .int .u64 61, .int .u64 6] 47)) := ⟨heap_alloc_new w _, (Below.refl _ _).alloc (Nat.le_refl _) _⟩
  have rd := r0.drew
  have HR := Lib.hid (fun X h => Fm64.cells (w := w) (X := X) h)
  unfold form64
  go_enter Tryd.func39, Tryd.ntmps39
  go_wp2_with fail
  go_region_held3 (fun X => X.cell? ⟨w.heap.size, 0, none⟩ = some (.int .i64 64) ∧ X.cell? ⟨w.heap.size, 1, none⟩ = some (.int .i64 80) ∧ X.cell? ⟨w.heap.size, 2, none⟩ = some (.int .u64 28) ∧ X.cell? ⟨w.heap.size, 3, none⟩ = some (.int .u64 34) ∧ X.cell? ⟨w.heap.size, 4, none⟩ = some (.int .u64 39) ∧ X.cell? ⟨w.heap.size, 5, none⟩ = some (.int .u64 14) ∧ X.cell? ⟨w.heap.size, 6, none⟩ = some (.int .u64 18) ∧ X.cell? ⟨w.heap.size, 7, none⟩ = some (.int .u64 41) ∧ X.cell? ⟨w.heap.size, 8, none⟩ = some (.int .u64 1) ∧ X.cell? ⟨w.heap.size, 9, none⟩ = some (.int .u64 8) ∧ X.cell? ⟨w.heap.size, 10, none⟩ = some (.int .u64 7) ∧ X.cell? ⟨w.heap.size, 11, none⟩ = some (.int .u64 19) ∧ X.cell? ⟨w.heap.size, 12, none⟩ = some (.int .u64 61) ∧ X.cell? ⟨w.heap.size, 13, none⟩ = some (.int .u64 6)) ((refine HR.out _ ?_; (with_reducible assumption)))
    (first | (go_at_call 49; with_reducible refine (FA.out _).mono ?_; rintro e w' ⟨rfl, hbw⟩; have hbx' := Fm64.next (by with_reducible assumption) hbw) | (go_at_call 49; with_reducible refine (FB.out _).mono ?_; rintro e w' ⟨rfl, hbw⟩; have hbx' := Fm64.next (by with_reducible assumption) hbw) | (go_at_call 49; with_reducible refine (FC.out _).mono ?_; rintro e w' ⟨rfl, hbw⟩; have hbx' := Fm64.next (by with_reducible assumption) hbw))
  all_goals
    have rd2 := hbx'.drew
    go_wp2_with fail
    go_region_held3 (fun X => X.cell? ⟨w.heap.size, 0, none⟩ = some (.int .i64 64) ∧ X.cell? ⟨w.heap.size, 1, none⟩ = some (.int .i64 80) ∧ X.cell? ⟨w.heap.size, 2, none⟩ = some (.int .u64 28) ∧ X.cell? ⟨w.heap.size, 3, none⟩ = some (.int .u64 34) ∧ X.cell? ⟨w.heap.size, 4, none⟩ = some (.int .u64 39) ∧ X.cell? ⟨w.heap.size, 5, none⟩ = some (.int .u64 14) ∧ X.cell? ⟨w.heap.size, 6, none⟩ = some (.int .u64 18) ∧ X.cell? ⟨w.heap.size, 7, none⟩ = some (.int .u64 41) ∧ X.cell? ⟨w.heap.size, 8, none⟩ = some (.int .u64 1) ∧ X.cell? ⟨w.heap.size, 9, none⟩ = some (.int .u64 8) ∧ X.cell? ⟨w.heap.size, 10, none⟩ = some (.int .u64 7) ∧ X.cell? ⟨w.heap.size, 11, none⟩ = some (.int .u64 19) ∧ X.cell? ⟨w.heap.size, 12, none⟩ = some (.int .u64 61) ∧ X.cell? ⟨w.heap.size, 13, none⟩ = some (.int .u64 6)) ((refine HR.out _ ?_; (with_reducible assumption)))
      (first | (go_at_call 49; with_reducible refine (FA.out _).mono ?_; rintro e w' ⟨rfl, hbw⟩; have hbx' := Fm64.next (by with_reducible assumption) hbw) | (go_at_call 49; with_reducible refine (FB.out _).mono ?_; rintro e w' ⟨rfl, hbw⟩; have hbx' := Fm64.next (by with_reducible assumption) hbw) | (go_at_call 49; with_reducible refine (FC.out _).mono ?_; rintro e w' ⟨rfl, hbw⟩; have hbx' := Fm64.next (by with_reducible assumption) hbw))
  all_goals (go_wp2; go_ret)
  all_goals exact ⟨rfl, Fm64.below (by with_reducible assumption)⟩

set_option maxHeartbeats 2000000 in
theorem three3_64 (x : Nat) (w : World) (hx : x < 18446744073709551616) :
    Calls Tryd.prog 39 #[.agg form64, .int .u64 x, .int .i64 3, .bool false] w fun e w' => e = .returned (.int .u64 (big 64 3 x : Nat)) ∧ Below w.heap.size w w' := by
  have la := rotr_lt (n := 14) (show x < 2 ^ 64 from hx)
  have lb := rotr_lt (n := 18) (show x < 2 ^ 64 from hx)
  have h64 : ∀ y : Nat, y < 2 ^ 64 → y < 2 ^ 64 := fun y hy => Nat.lt_of_lt_of_le hy (Nat.pow_le_pow_right (by decide) (by decide))
  have lc : rotr 64 x 41 < 2 ^ 64 := rotr_lt hx
  have x1 := u64_xor_nat _ _ (h64 _ la) (h64 _ lb)
  have x2 := u64_xor_nat _ _ (h64 _ (Nat.xor_lt_two_pow la lb)) (h64 _ lc)
  have hr : (rotr 64 x 14 ^^^ rotr 64 x 18) ^^^ rotr 64 x 41 = big 64 3 x := rfl
  rw [hr] at x2
  have F : ∀ n : Nat, 0 < n ∧ n < 64 → ∀ X, Calls Tryd.prog 49 #[.agg #[.int .i64 64, .int .i64 80, .int .u64 28, .int .u64 34, .int .u64 39, .int .u64 14, .int .u64 18, .int .u64 41, .int .u64 1, .int .u64 8, .int .u64 7, .int .u64 19, .int .u64 61, .int .u64 6], .int .u64 x, .int .u64 n] X fun e w' => e = .returned (.int .u64 (rotr 64 x n : Nat)) ∧ Below X.heap.size X w' := fun n hn X => right_64 x n X hx hn
  have FA := Lib.hid (show ∀ X, Calls Tryd.prog 49 #[.agg #[.int .i64 64, .int .i64 80, .int .u64 28, .int .u64 34, .int .u64 39, .int .u64 14, .int .u64 18, .int .u64 41, .int .u64 1, .int .u64 8, .int .u64 7, .int .u64 19, .int .u64 61, .int .u64 6], .int .u64 x, .int .u64 14] X fun e w' => e = .returned (.int .u64 (rotr 64 x 14 : Nat)) ∧ Below X.heap.size X w' from F 14 (by decide))
  have FB := Lib.hid (show ∀ X, Calls Tryd.prog 49 #[.agg #[.int .i64 64, .int .i64 80, .int .u64 28, .int .u64 34, .int .u64 39, .int .u64 14, .int .u64 18, .int .u64 41, .int .u64 1, .int .u64 8, .int .u64 7, .int .u64 19, .int .u64 61, .int .u64 6], .int .u64 x, .int .u64 18] X fun e w' => e = .returned (.int .u64 (rotr 64 x 18 : Nat)) ∧ Below X.heap.size X w' from F 18 (by decide))
  have FC := Lib.hid (show ∀ X, Calls Tryd.prog 49 #[.agg #[.int .i64 64, .int .i64 80, .int .u64 28, .int .u64 34, .int .u64 39, .int .u64 14, .int .u64 18, .int .u64 41, .int .u64 1, .int .u64 8, .int .u64 7, .int .u64 19, .int .u64 61, .int .u64 6], .int .u64 x, .int .u64 41] X fun e w' => e = .returned (.int .u64 (rotr 64 x 41 : Nat)) ∧ Below X.heap.size X w' from F 41 (by decide))
  have w1 : IntKind.i64.wrap 4 = 4 := by rfl
  have w2 : IntKind.i64.wrap 5 = 5 := by rfl
  clear F hx la lb lc h64 hr
  generalize big 64 3 x = R at *
  generalize rotr 64 x 14 = A at *
  generalize rotr 64 x 18 = B at *
  generalize rotr 64 x 41 = C at *
  have r0 : Fm64 w (w.alloc (.cells #[.int .i64 64, .int .i64 80, .int .u64 28, .int .u64 34, .int .u64 39, .int .u64 14, .int .u64 18, .int .u64 41, .int .u64 1, .int .u64 8, .int .u64 7, .int .u64 19, .int .u64 61, .int .u64 6] 47)) := ⟨heap_alloc_new w _, (Below.refl _ _).alloc (Nat.le_refl _) _⟩
  have rd := r0.drew
  have HR := Lib.hid (fun X h => Fm64.cells (w := w) (X := X) h)
  unfold form64
  go_enter Tryd.func39, Tryd.ntmps39
  go_wp2_with fail
  go_region_held3 (fun X => X.cell? ⟨w.heap.size, 0, none⟩ = some (.int .i64 64) ∧ X.cell? ⟨w.heap.size, 1, none⟩ = some (.int .i64 80) ∧ X.cell? ⟨w.heap.size, 2, none⟩ = some (.int .u64 28) ∧ X.cell? ⟨w.heap.size, 3, none⟩ = some (.int .u64 34) ∧ X.cell? ⟨w.heap.size, 4, none⟩ = some (.int .u64 39) ∧ X.cell? ⟨w.heap.size, 5, none⟩ = some (.int .u64 14) ∧ X.cell? ⟨w.heap.size, 6, none⟩ = some (.int .u64 18) ∧ X.cell? ⟨w.heap.size, 7, none⟩ = some (.int .u64 41) ∧ X.cell? ⟨w.heap.size, 8, none⟩ = some (.int .u64 1) ∧ X.cell? ⟨w.heap.size, 9, none⟩ = some (.int .u64 8) ∧ X.cell? ⟨w.heap.size, 10, none⟩ = some (.int .u64 7) ∧ X.cell? ⟨w.heap.size, 11, none⟩ = some (.int .u64 19) ∧ X.cell? ⟨w.heap.size, 12, none⟩ = some (.int .u64 61) ∧ X.cell? ⟨w.heap.size, 13, none⟩ = some (.int .u64 6)) ((refine HR.out _ ?_; (with_reducible assumption)))
    (first | (go_at_call 49; with_reducible refine (FA.out _).mono ?_; rintro e w' ⟨rfl, hbw⟩; have hbx' := Fm64.next (by with_reducible assumption) hbw) | (go_at_call 49; with_reducible refine (FB.out _).mono ?_; rintro e w' ⟨rfl, hbw⟩; have hbx' := Fm64.next (by with_reducible assumption) hbw) | (go_at_call 49; with_reducible refine (FC.out _).mono ?_; rintro e w' ⟨rfl, hbw⟩; have hbx' := Fm64.next (by with_reducible assumption) hbw))
  all_goals
    have rd2 := hbx'.drew
    go_wp2_with fail
    go_region_held3 (fun X => X.cell? ⟨w.heap.size, 0, none⟩ = some (.int .i64 64) ∧ X.cell? ⟨w.heap.size, 1, none⟩ = some (.int .i64 80) ∧ X.cell? ⟨w.heap.size, 2, none⟩ = some (.int .u64 28) ∧ X.cell? ⟨w.heap.size, 3, none⟩ = some (.int .u64 34) ∧ X.cell? ⟨w.heap.size, 4, none⟩ = some (.int .u64 39) ∧ X.cell? ⟨w.heap.size, 5, none⟩ = some (.int .u64 14) ∧ X.cell? ⟨w.heap.size, 6, none⟩ = some (.int .u64 18) ∧ X.cell? ⟨w.heap.size, 7, none⟩ = some (.int .u64 41) ∧ X.cell? ⟨w.heap.size, 8, none⟩ = some (.int .u64 1) ∧ X.cell? ⟨w.heap.size, 9, none⟩ = some (.int .u64 8) ∧ X.cell? ⟨w.heap.size, 10, none⟩ = some (.int .u64 7) ∧ X.cell? ⟨w.heap.size, 11, none⟩ = some (.int .u64 19) ∧ X.cell? ⟨w.heap.size, 12, none⟩ = some (.int .u64 61) ∧ X.cell? ⟨w.heap.size, 13, none⟩ = some (.int .u64 6)) ((refine HR.out _ ?_; (with_reducible assumption)))
      (first | (go_at_call 49; with_reducible refine (FA.out _).mono ?_; rintro e w' ⟨rfl, hbw⟩; have hbx' := Fm64.next (by with_reducible assumption) hbw) | (go_at_call 49; with_reducible refine (FB.out _).mono ?_; rintro e w' ⟨rfl, hbw⟩; have hbx' := Fm64.next (by with_reducible assumption) hbw) | (go_at_call 49; with_reducible refine (FC.out _).mono ?_; rintro e w' ⟨rfl, hbw⟩; have hbx' := Fm64.next (by with_reducible assumption) hbw))
  all_goals (go_wp2; go_ret)
  all_goals exact ⟨rfl, Fm64.below (by with_reducible assumption)⟩

set_option maxHeartbeats 2000000 in
theorem three6_64 (x : Nat) (w : World) (hx : x < 18446744073709551616) :
    Calls Tryd.prog 39 #[.agg form64, .int .u64 x, .int .i64 6, .bool true] w fun e w' => e = .returned (.int .u64 (little 64 6 x : Nat)) ∧ Below w.heap.size w w' := by
  have la := rotr_lt (n := 1) (show x < 2 ^ 64 from hx)
  have lb := rotr_lt (n := 8) (show x < 2 ^ 64 from hx)
  have h64 : ∀ y : Nat, y < 2 ^ 64 → y < 2 ^ 64 := fun y hy => Nat.lt_of_lt_of_le hy (Nat.pow_le_pow_right (by decide) (by decide))
  have lc : x / 2 ^ 7 < 2 ^ 64 := Nat.lt_of_le_of_lt (Nat.div_le_self _ _) hx
  have x1 := u64_xor_nat _ _ (h64 _ la) (h64 _ lb)
  have x2 := u64_xor_nat _ _ (h64 _ (Nat.xor_lt_two_pow la lb)) (h64 _ lc)
  have hr : (rotr 64 x 1 ^^^ rotr 64 x 8) ^^^ x / 2 ^ 7 = little 64 6 x := rfl
  rw [hr] at x2
  have F : ∀ n : Nat, 0 < n ∧ n < 64 → ∀ X, Calls Tryd.prog 49 #[.agg #[.int .i64 64, .int .i64 80, .int .u64 28, .int .u64 34, .int .u64 39, .int .u64 14, .int .u64 18, .int .u64 41, .int .u64 1, .int .u64 8, .int .u64 7, .int .u64 19, .int .u64 61, .int .u64 6], .int .u64 x, .int .u64 n] X fun e w' => e = .returned (.int .u64 (rotr 64 x n : Nat)) ∧ Below X.heap.size X w' := fun n hn X => right_64 x n X hx hn
  have FA := Lib.hid (show ∀ X, Calls Tryd.prog 49 #[.agg #[.int .i64 64, .int .i64 80, .int .u64 28, .int .u64 34, .int .u64 39, .int .u64 14, .int .u64 18, .int .u64 41, .int .u64 1, .int .u64 8, .int .u64 7, .int .u64 19, .int .u64 61, .int .u64 6], .int .u64 x, .int .u64 1] X fun e w' => e = .returned (.int .u64 (rotr 64 x 1 : Nat)) ∧ Below X.heap.size X w' from F 1 (by decide))
  have FB := Lib.hid (show ∀ X, Calls Tryd.prog 49 #[.agg #[.int .i64 64, .int .i64 80, .int .u64 28, .int .u64 34, .int .u64 39, .int .u64 14, .int .u64 18, .int .u64 41, .int .u64 1, .int .u64 8, .int .u64 7, .int .u64 19, .int .u64 61, .int .u64 6], .int .u64 x, .int .u64 8] X fun e w' => e = .returned (.int .u64 (rotr 64 x 8 : Nat)) ∧ Below X.heap.size X w' from F 8 (by decide))
  have xs : (x : Int) / 128 = ((x / 2 ^ 7 : Nat) : Int) := by omega
  have w1 : IntKind.i64.wrap 7 = 7 := by rfl
  have w2 : IntKind.i64.wrap 8 = 8 := by rfl
  clear F hx la lb lc h64 hr
  generalize little 64 6 x = R at *
  generalize rotr 64 x 1 = A at *
  generalize rotr 64 x 8 = B at *
  generalize x / 2 ^ 7 = C at *
  have r0 : Fm64 w (w.alloc (.cells #[.int .i64 64, .int .i64 80, .int .u64 28, .int .u64 34, .int .u64 39, .int .u64 14, .int .u64 18, .int .u64 41, .int .u64 1, .int .u64 8, .int .u64 7, .int .u64 19, .int .u64 61, .int .u64 6] 47)) := ⟨heap_alloc_new w _, (Below.refl _ _).alloc (Nat.le_refl _) _⟩
  have rd := r0.drew
  have HR := Lib.hid (fun X h => Fm64.cells (w := w) (X := X) h)
  unfold form64
  go_enter Tryd.func39, Tryd.ntmps39
  go_wp2_with fail
  go_region_held3 (fun X => X.cell? ⟨w.heap.size, 0, none⟩ = some (.int .i64 64) ∧ X.cell? ⟨w.heap.size, 1, none⟩ = some (.int .i64 80) ∧ X.cell? ⟨w.heap.size, 2, none⟩ = some (.int .u64 28) ∧ X.cell? ⟨w.heap.size, 3, none⟩ = some (.int .u64 34) ∧ X.cell? ⟨w.heap.size, 4, none⟩ = some (.int .u64 39) ∧ X.cell? ⟨w.heap.size, 5, none⟩ = some (.int .u64 14) ∧ X.cell? ⟨w.heap.size, 6, none⟩ = some (.int .u64 18) ∧ X.cell? ⟨w.heap.size, 7, none⟩ = some (.int .u64 41) ∧ X.cell? ⟨w.heap.size, 8, none⟩ = some (.int .u64 1) ∧ X.cell? ⟨w.heap.size, 9, none⟩ = some (.int .u64 8) ∧ X.cell? ⟨w.heap.size, 10, none⟩ = some (.int .u64 7) ∧ X.cell? ⟨w.heap.size, 11, none⟩ = some (.int .u64 19) ∧ X.cell? ⟨w.heap.size, 12, none⟩ = some (.int .u64 61) ∧ X.cell? ⟨w.heap.size, 13, none⟩ = some (.int .u64 6)) ((refine HR.out _ ?_; (with_reducible assumption)))
    (first | (go_at_call 49; with_reducible refine (FA.out _).mono ?_; rintro e w' ⟨rfl, hbw⟩; have hbx' := Fm64.next (by with_reducible assumption) hbw) | (go_at_call 49; with_reducible refine (FB.out _).mono ?_; rintro e w' ⟨rfl, hbw⟩; have hbx' := Fm64.next (by with_reducible assumption) hbw))
  all_goals (go_wp2; go_ret)
  all_goals exact ⟨rfl, Fm64.below (by with_reducible assumption)⟩

set_option maxHeartbeats 2000000 in
theorem three9_64 (x : Nat) (w : World) (hx : x < 18446744073709551616) :
    Calls Tryd.prog 39 #[.agg form64, .int .u64 x, .int .i64 9, .bool true] w fun e w' => e = .returned (.int .u64 (little 64 9 x : Nat)) ∧ Below w.heap.size w w' := by
  have la := rotr_lt (n := 19) (show x < 2 ^ 64 from hx)
  have lb := rotr_lt (n := 61) (show x < 2 ^ 64 from hx)
  have h64 : ∀ y : Nat, y < 2 ^ 64 → y < 2 ^ 64 := fun y hy => Nat.lt_of_lt_of_le hy (Nat.pow_le_pow_right (by decide) (by decide))
  have lc : x / 2 ^ 6 < 2 ^ 64 := Nat.lt_of_le_of_lt (Nat.div_le_self _ _) hx
  have x1 := u64_xor_nat _ _ (h64 _ la) (h64 _ lb)
  have x2 := u64_xor_nat _ _ (h64 _ (Nat.xor_lt_two_pow la lb)) (h64 _ lc)
  have hr : (rotr 64 x 19 ^^^ rotr 64 x 61) ^^^ x / 2 ^ 6 = little 64 9 x := rfl
  rw [hr] at x2
  have F : ∀ n : Nat, 0 < n ∧ n < 64 → ∀ X, Calls Tryd.prog 49 #[.agg #[.int .i64 64, .int .i64 80, .int .u64 28, .int .u64 34, .int .u64 39, .int .u64 14, .int .u64 18, .int .u64 41, .int .u64 1, .int .u64 8, .int .u64 7, .int .u64 19, .int .u64 61, .int .u64 6], .int .u64 x, .int .u64 n] X fun e w' => e = .returned (.int .u64 (rotr 64 x n : Nat)) ∧ Below X.heap.size X w' := fun n hn X => right_64 x n X hx hn
  have FA := Lib.hid (show ∀ X, Calls Tryd.prog 49 #[.agg #[.int .i64 64, .int .i64 80, .int .u64 28, .int .u64 34, .int .u64 39, .int .u64 14, .int .u64 18, .int .u64 41, .int .u64 1, .int .u64 8, .int .u64 7, .int .u64 19, .int .u64 61, .int .u64 6], .int .u64 x, .int .u64 19] X fun e w' => e = .returned (.int .u64 (rotr 64 x 19 : Nat)) ∧ Below X.heap.size X w' from F 19 (by decide))
  have FB := Lib.hid (show ∀ X, Calls Tryd.prog 49 #[.agg #[.int .i64 64, .int .i64 80, .int .u64 28, .int .u64 34, .int .u64 39, .int .u64 14, .int .u64 18, .int .u64 41, .int .u64 1, .int .u64 8, .int .u64 7, .int .u64 19, .int .u64 61, .int .u64 6], .int .u64 x, .int .u64 61] X fun e w' => e = .returned (.int .u64 (rotr 64 x 61 : Nat)) ∧ Below X.heap.size X w' from F 61 (by decide))
  have xs : (x : Int) / 64 = ((x / 2 ^ 6 : Nat) : Int) := by omega
  have w1 : IntKind.i64.wrap 10 = 10 := by rfl
  have w2 : IntKind.i64.wrap 11 = 11 := by rfl
  clear F hx la lb lc h64 hr
  generalize little 64 9 x = R at *
  generalize rotr 64 x 19 = A at *
  generalize rotr 64 x 61 = B at *
  generalize x / 2 ^ 6 = C at *
  have r0 : Fm64 w (w.alloc (.cells #[.int .i64 64, .int .i64 80, .int .u64 28, .int .u64 34, .int .u64 39, .int .u64 14, .int .u64 18, .int .u64 41, .int .u64 1, .int .u64 8, .int .u64 7, .int .u64 19, .int .u64 61, .int .u64 6] 47)) := ⟨heap_alloc_new w _, (Below.refl _ _).alloc (Nat.le_refl _) _⟩
  have rd := r0.drew
  have HR := Lib.hid (fun X h => Fm64.cells (w := w) (X := X) h)
  unfold form64
  go_enter Tryd.func39, Tryd.ntmps39
  go_wp2_with fail
  go_region_held3 (fun X => X.cell? ⟨w.heap.size, 0, none⟩ = some (.int .i64 64) ∧ X.cell? ⟨w.heap.size, 1, none⟩ = some (.int .i64 80) ∧ X.cell? ⟨w.heap.size, 2, none⟩ = some (.int .u64 28) ∧ X.cell? ⟨w.heap.size, 3, none⟩ = some (.int .u64 34) ∧ X.cell? ⟨w.heap.size, 4, none⟩ = some (.int .u64 39) ∧ X.cell? ⟨w.heap.size, 5, none⟩ = some (.int .u64 14) ∧ X.cell? ⟨w.heap.size, 6, none⟩ = some (.int .u64 18) ∧ X.cell? ⟨w.heap.size, 7, none⟩ = some (.int .u64 41) ∧ X.cell? ⟨w.heap.size, 8, none⟩ = some (.int .u64 1) ∧ X.cell? ⟨w.heap.size, 9, none⟩ = some (.int .u64 8) ∧ X.cell? ⟨w.heap.size, 10, none⟩ = some (.int .u64 7) ∧ X.cell? ⟨w.heap.size, 11, none⟩ = some (.int .u64 19) ∧ X.cell? ⟨w.heap.size, 12, none⟩ = some (.int .u64 61) ∧ X.cell? ⟨w.heap.size, 13, none⟩ = some (.int .u64 6)) ((refine HR.out _ ?_; (with_reducible assumption)))
    (first | (go_at_call 49; with_reducible refine (FA.out _).mono ?_; rintro e w' ⟨rfl, hbw⟩; have hbx' := Fm64.next (by with_reducible assumption) hbw) | (go_at_call 49; with_reducible refine (FB.out _).mono ?_; rintro e w' ⟨rfl, hbw⟩; have hbx' := Fm64.next (by with_reducible assumption) hbw))
  all_goals (go_wp2; go_ret)
  all_goals exact ⟨rfl, Fm64.below (by with_reducible assumption)⟩

end Go.Proofs.YtfahmbkeibeceaaDoor
