/-
  Contracts of dromondref05.Of and of the methods keep, right and three of its Form. Conditions: the distances lie between 0 and the word's bits.
-/
import Derived.Test.YtfahmbkeibeceaaDoorSb
namespace Go.Proofs.YtfahmbkeibeceaaDoor
open Go.ChangeShapes Go.WideShapes Go.ChangeAt Go.RowKit Go.Great
open Sha
set_option linter.unusedVariables false

theorem form_size : (Tryd.prog.info? 47).map (·.size) = some 14 := by kernel_rfl

/-- What the reference's rounds differ in. -/
def form32 : Array Value := #[.int .i64 32, .int .i64 64, .int .u64 2, .int .u64 13, .int .u64 22, .int .u64 6, .int .u64 11, .int .u64 25, .int .u64 7, .int .u64 18, .int .u64 3, .int .u64 17, .int .u64 19, .int .u64 10]
def form64 : Array Value := #[.int .i64 64, .int .i64 80, .int .u64 28, .int .u64 34, .int .u64 39, .int .u64 14, .int .u64 18, .int .u64 41, .int .u64 1, .int .u64 8, .int .u64 7, .int .u64 19, .int .u64 61, .int .u64 6]

theorem of256 (w : World) : Calls Tryd.prog 23 #[.int .i64 256] w fun e w' => e = .returned (.agg form32) ∧ Below w.heap.size w w' := by
  go_enter Tryd.func23, Tryd.ntmps23
  go_wp2
  refine bodyPost_ret (results_cell_row rfl _ _ w.heap.size 47 form32 (0, 0) _ rfl (heap_alloc_last w _) Tryd.underlying47 rfl form_size) rfl ⟨rfl, (Below.refl _ _).alloc (Nat.le_refl _) _⟩
theorem of384 (w : World) : Calls Tryd.prog 23 #[.int .i64 384] w fun e w' => e = .returned (.agg form64) ∧ Below w.heap.size w w' := by
  go_enter Tryd.func23, Tryd.ntmps23
  go_wp2
  refine bodyPost_ret (results_cell_row rfl _ _ w.heap.size 47 form64 (0, 0) _ rfl (heap_alloc_last w _) Tryd.underlying47 rfl form_size) rfl ⟨rfl, (Below.refl _ _).alloc (Nat.le_refl _) _⟩
theorem of512 (w : World) : Calls Tryd.prog 23 #[.int .i64 512] w fun e w' => e = .returned (.agg form64) ∧ Below w.heap.size w w' := by
  go_enter Tryd.func23, Tryd.ntmps23
  go_wp2
  refine bodyPost_ret (results_cell_row rfl _ _ w.heap.size 47 form64 (0, 0) _ rfl (heap_alloc_last w _) Tryd.underlying47 rfl form_size) rfl ⟨rfl, (Below.refl _ _).alloc (Nat.le_refl _) _⟩

theorem keep_32 (x : Nat) (w : World) : Calls Tryd.prog 38 #[.agg form32, .int .u64 x] w fun e w' => e = .returned (.int .u64 (x % 4294967296 : Nat)) ∧ Below w.heap.size w w' := by
  have e1 : (x : Int) % 4294967296 = ((x % 4294967296 : Nat) : Int) := by omega
  have HB := Lib.hid (below_alloc (Below.refl w.heap.size w) (.cells form32 47))
  unfold form32
  go_enter Tryd.func38, Tryd.ntmps38
  go_wp2
  go_ret
  exact ⟨rfl, HB.out⟩
theorem keep_64 (x : Nat) (w : World) (hx : x < 18446744073709551616) : Calls Tryd.prog 38 #[.agg form64, .int .u64 x] w fun e w' => e = .returned (.int .u64 (x % 18446744073709551616 : Nat)) ∧ Below w.heap.size w w' := by
  rw [Nat.mod_eq_of_lt hx]
  clear hx
  have HB := Lib.hid (below_alloc (Below.refl w.heap.size w) (.cells form64 47))
  unfold form64
  go_enter Tryd.func38, Tryd.ntmps38
  go_wp2
  go_ret
  exact ⟨rfl, HB.out⟩

theorem keepR_32 (x y : Nat) (w : World) (hx : x < 18446744073709551616) (hy : y = x % 4294967296) : Calls Tryd.prog 38 #[.agg form32, .int .u64 x] w fun e w' => e = .returned (.int .u64 (y : Nat)) ∧ Below w.heap.size w w' := by
  rw [hy]; exact keep_32 x w
theorem keepR_64 (x y : Nat) (w : World) (hx : x < 18446744073709551616) (hy : y = x % 18446744073709551616) : Calls Tryd.prog 38 #[.agg form64, .int .u64 x] w fun e w' => e = .returned (.int .u64 (y : Nat)) ∧ Below w.heap.size w w' := by
  rw [hy]; exact keep_64 x w hx

theorem rshl (x n : Nat) : IntKind.u64.wrap ((x : Int) * 2 ^ n) = ((x * 2 ^ n % 18446744073709551616 : Nat) : Int) := by
  rw [IntKind.wrap_u64]; simp

theorem right_cut_32 (x n : Nat) (hx : x < 4294967296) (hn : 0 < n ∧ n < 32) : (x / 2 ^ n ||| x * 2 ^ (32 - n) % 18446744073709551616) % 4294967296 = rotr 32 x n := by
  have h := rotr_cut (w := 32) (n := n) (x := x) hx
  rw [← h]
  show (x / 2 ^ n ||| x * 2 ^ (32 - n) % 2 ^ 64) % 2 ^ 32 = _
  rw [Nat.or_mod_two_pow, Nat.or_mod_two_pow, Nat.mod_mod_of_dvd _ (Nat.pow_dvd_pow 2 (by decide))]

theorem right_32 (x n : Nat) (w : World) (hx : x < 4294967296) (hn : 0 < n ∧ n < 32) :
    Calls Tryd.prog 49 #[.agg form32, .int .u64 x, .int .u64 n] w fun e w' => e = .returned (.int .u64 (rotr 32 x n : Nat)) ∧ Below w.heap.size w w' := by
  obtain ⟨m, hm⟩ : ∃ m, m = 32 - n := ⟨_, rfl⟩
  obtain ⟨q, hq⟩ : ∃ q, q = x / 2 ^ n := ⟨_, rfl⟩
  obtain ⟨s, hs⟩ : ∃ s, s = x * 2 ^ m % 18446744073709551616 := ⟨_, rfl⟩
  have hx64 : x < 18446744073709551616 := Nat.lt_of_lt_of_le hx (by decide)
  have hql : q < 18446744073709551616 := by rw [hq]; exact Nat.lt_of_le_of_lt (Nat.div_le_self _ _) hx64
  have hsl : s < 18446744073709551616 := by rw [hs]; exact Nat.mod_lt _ (by decide)
  have hcut := right_cut_32 x n hx hn
  rw [← hm, ← hq, ← hs] at hcut
  have e1 : IntKind.u64.wrap (32 - (n : Int)) = (m : Int) := by rw [IntKind.wrap_u64]; omega
  have e2 : (x : Int) / 2 ^ n = (q : Int) := by rw [hq]; exact shr_32 x n
  have e3 : IntKind.u64.wrap ((x : Int) * 2 ^ m) = (s : Int) := by rw [hs]; exact rshl x m
  have e4 := u64_or_nat q s hql hsl
  obtain ⟨o, ho⟩ : ∃ o, o = q ||| s := ⟨_, rfl⟩
  rw [← ho] at e4 hcut
  have hol : o < 18446744073709551616 := by rw [ho]; exact Nat.or_lt_two_pow (n := 64) hql hsl
  have HKP := Lib.hid (fun X => keepR_32 o (rotr 32 x n) X hol hcut.symm)
  have hm2 : (m : Int) ≤ 64 := by omega
  have hn2 : (n : Int) ≤ 64 := by omega
  have h0 : ¬ ((n : Int) < 0) := by omega
  have h1 : ¬ ((m : Int) < 0) := by omega
  have HB := Lib.hid (below_alloc (Below.refl w.heap.size w) (.cells form32 47))
  clear hq hs hm hcut hx hn hx64 hql hsl ho hol
  generalize rotr 32 x n = R at *
  unfold form32
  go_enter Tryd.func49, Tryd.ntmps49
  go_wp2_with fail
  refine (HKP.out _).mono ?_
  rintro e w1 ⟨rfl, hb1⟩
  have HB1 := Lib.hid (below_link HB.out hb1); clear hb1
  go_wp2
  go_ret
  exact ⟨rfl, HB1.out⟩

theorem right_cut_64 (x n : Nat) (hx : x < 18446744073709551616) (hn : 0 < n ∧ n < 64) : (x / 2 ^ n ||| x * 2 ^ (64 - n) % 18446744073709551616) % 18446744073709551616 = rotr 64 x n := by
  have h := rotr_cut (w := 64) (n := n) (x := x) hx
  rw [← h]
  show (x / 2 ^ n ||| x * 2 ^ (64 - n) % 2 ^ 64) % 2 ^ 64 = _
  rw [Nat.or_mod_two_pow, Nat.or_mod_two_pow, Nat.mod_mod_of_dvd _ (Nat.pow_dvd_pow 2 (by decide))]

theorem right_64 (x n : Nat) (w : World) (hx : x < 18446744073709551616) (hn : 0 < n ∧ n < 64) :
    Calls Tryd.prog 49 #[.agg form64, .int .u64 x, .int .u64 n] w fun e w' => e = .returned (.int .u64 (rotr 64 x n : Nat)) ∧ Below w.heap.size w w' := by
  obtain ⟨m, hm⟩ : ∃ m, m = 64 - n := ⟨_, rfl⟩
  obtain ⟨q, hq⟩ : ∃ q, q = x / 2 ^ n := ⟨_, rfl⟩
  obtain ⟨s, hs⟩ : ∃ s, s = x * 2 ^ m % 18446744073709551616 := ⟨_, rfl⟩
  have hx64 : x < 18446744073709551616 := Nat.lt_of_lt_of_le hx (by decide)
  have hql : q < 18446744073709551616 := by rw [hq]; exact Nat.lt_of_le_of_lt (Nat.div_le_self _ _) hx64
  have hsl : s < 18446744073709551616 := by rw [hs]; exact Nat.mod_lt _ (by decide)
  have hcut := right_cut_64 x n hx hn
  rw [← hm, ← hq, ← hs] at hcut
  have e1 : IntKind.u64.wrap (64 - (n : Int)) = (m : Int) := by rw [IntKind.wrap_u64]; omega
  have e2 : (x : Int) / 2 ^ n = (q : Int) := by rw [hq]; exact shr_64 x n
  have e3 : IntKind.u64.wrap ((x : Int) * 2 ^ m) = (s : Int) := by rw [hs]; exact rshl x m
  have e4 := u64_or_nat q s hql hsl
  obtain ⟨o, ho⟩ : ∃ o, o = q ||| s := ⟨_, rfl⟩
  rw [← ho] at e4 hcut
  have hol : o < 18446744073709551616 := by rw [ho]; exact Nat.or_lt_two_pow (n := 64) hql hsl
  have HKP := Lib.hid (fun X => keepR_64 o (rotr 64 x n) X hol hcut.symm)
  have hm2 : (m : Int) ≤ 64 := by omega
  have hn2 : (n : Int) ≤ 64 := by omega
  have h0 : ¬ ((n : Int) < 0) := by omega
  have h1 : ¬ ((m : Int) < 0) := by omega
  have HB := Lib.hid (below_alloc (Below.refl w.heap.size w) (.cells form64 47))
  clear hq hs hm hcut hx hn hx64 hql hsl ho hol
  generalize rotr 64 x n = R at *
  unfold form64
  go_enter Tryd.func49, Tryd.ntmps49
  go_wp2_with fail
  refine (HKP.out _).mono ?_
  rintro e w1 ⟨rfl, hb1⟩
  have HB1 := Lib.hid (below_link HB.out hb1); clear hb1
  go_wp2
  go_ret
  exact ⟨rfl, HB1.out⟩

end Go.Proofs.YtfahmbkeibeceaaDoor
