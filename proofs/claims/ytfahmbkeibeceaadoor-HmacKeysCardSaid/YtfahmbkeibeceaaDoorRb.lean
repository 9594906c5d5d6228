/-
  Contract of sha.product. Conditions: none.
-/
import Derived.Test.YtfahmbkeibeceaaDoorRm
import Derived.Deep.QuietTactic
import Derived.BigQuiet
namespace Go.Proofs.YtfahmbkeibeceaaDoor
open Go.ChangeShapes Go.WideShapes Go.ChangeAt Go.RowKit

theorem add64_run (x y : Nat) (w : World) :
    (callFunc 53 #[.int .u64 x, .int .u64 y, .int .u64 0]).run Tryd.prog w =
      .ok (.value (.tuple #[.int .u64 (((x + y) % 18446744073709551616 : Nat) : Int), .int .u64 (((x + y) / 18446744073709551616 : Nat) : Int)])) w := by
  rw [run_callFunc_extern Tryd.func53 (by kernel_rfl) (by kernel_rfl) (by kernel_rfl) (e := add64Entry) (by kernel_rfl), run_add64 x y 0 (by omega) (by omega) (by omega) (by omega)]
  simp only [Result.andThen]
  congr 5 <;> omega

/-- Four digits in memory. -/
def row4 (s : Nat → Nat) : Array Value := #[.int .u64 (s 0 : Nat), .int .u64 (s 1 : Nat), .int .u64 (s 2 : Nat), .int .u64 (s 3 : Nat)]

theorem row4_get (s : Nat → Nat) (k : Nat) (h : k < 4) : (row4 s)[k]? = some (.int .u64 (s k : Nat)) := by
  match k, h with
  | 0, _ => rfl
  | 1, _ => rfl
  | 2, _ => rfl
  | 3, _ => rfl

theorem row4_set (s : Nat → Nat) (k v : Nat) (h : k < 4) : (row4 s).setIfInBounds k (.int .u64 (v : Nat)) = row4 (updD s k v) := by
  match k, h with
  | 0, _ => rfl
  | 1, _ => rfl
  | 2, _ => rfl
  | 3, _ => rfl

/-- The memory of sha.product at work: the factors, the result's cell, the sum. -/
structure Pr (w : World) (a b s : Nat → Nat) (wr : World) : Prop where
  ha : wr.heap[w.heap.size]? = some (.cells (row4 a) 81 (0, 0))
  hb : wr.heap[w.heap.size + 1]? = some (.cells (row4 b) 81 (0, 0))
  hr : wr.heap[w.heap.size + 1 + 1]? = some (.cells (row4 fun _ => 0) 81 (0, 0))
  hs : wr.heap[w.heap.size + 1 + 1 + 1]? = some (.cells (row4 s) 81 (0, 0))
  below : Below w.heap.size w wr

theorem Pr.step {w wr : World} {a b s : Nat → Nat} (h : Pr w a b s wr) {k v : Nat} (hk : k < 4) :
    Pr w a b (updD s k v) (wr.setCell ⟨w.heap.size + 1 + 1 + 1, k, none⟩ (.int .u64 (v : Nat))) where
  ha := by rw [heap_setCell_other _ _ _ _ (by simp only []; omega)]; exact h.ha
  hb := by rw [heap_setCell_other _ _ _ _ (by simp only []; omega)]; exact h.hb
  hr := by rw [heap_setCell_other _ _ _ _ (by simp only []; omega)]; exact h.hr
  hs := by rw [heap_setCell_same _ _ _ _ _ _ h.hs, row4_set s k v hk]
  below := h.below.setCell (by simp only []; omega) _

theorem Pr.drew {w wr : World} {a b s : Nat → Nat} (h : Pr w a b s wr) : Pr w a b s wr.drew where
  ha := h.ha
  hb := h.hb
  hr := h.hr
  hs := h.hs
  below := h.below.drew

theorem Pr.drewN {w wr : World} {a b s : Nat → Nat} (h : Pr w a b s wr) (n : Nat) : Pr w a b s (wr.drewN n) where
  ha := h.ha
  hb := h.hb
  hr := h.hr
  hs := h.hs
  below := h.below.trans ⟨rfl, rfl, rfl, Nat.le_refl _, fun _ _ => rfl⟩

theorem Pr.cellA {w wr : World} {a b s : Nat → Nat} (h : Pr w a b s wr) {k : Nat} (hk : k < 4) : wr.cell? ⟨w.heap.size, k, none⟩ = some (.int .u64 (a k : Nat)) := by
  rw [cell_of_row _ _ _ _ _ _ h.ha]; exact row4_get a k hk

theorem Pr.cellB {w wr : World} {a b s : Nat → Nat} (h : Pr w a b s wr) {k : Nat} (hk : k < 4) : wr.cell? ⟨w.heap.size + 1, k, none⟩ = some (.int .u64 (b k : Nat)) := by
  rw [cell_of_row _ _ _ _ _ _ h.hb]; exact row4_get b k hk

theorem Pr.cellS {w wr : World} {a b s : Nat → Nat} (h : Pr w a b s wr) {k : Nat} (hk : k < 4) : wr.cell? ⟨w.heap.size + 1 + 1 + 1, k, none⟩ = some (.int .u64 (s k : Nat)) := by
  rw [cell_of_row _ _ _ _ _ _ h.hs]; exact row4_get s k hk

theorem Pr.frozen {w wr : World} {a b s : Nat → Nat} (h : Pr w a b s wr) (k : Nat) : wr.frozen? ⟨w.heap.size + 1 + 1 + 1, k, none⟩ = false :=
  frozen_of_row _ _ _ _ _ h.hs

theorem Pr.cellR {w wr : World} {a b s : Nat → Nat} (h : Pr w a b s wr) {k : Nat} (hk : k < 4) : wr.cell? ⟨w.heap.size + 1 + 1, k, none⟩ = some (.int .u64 (0 : Nat)) := by
  rw [cell_of_row _ _ _ _ _ _ h.hr]; exact row4_get (fun _ => 0) k hk

theorem Pr.frozenR {w wr : World} {a b s : Nat → Nat} (h : Pr w a b s wr) (k : Nat) : wr.frozen? ⟨w.heap.size + 1 + 1, k, none⟩ = false :=
  frozen_of_row _ _ _ _ _ h.hr

theorem Pr.start (w : World) (a b : Nat → Nat) : Pr w a b (fun _ => 0)
    ((((w.alloc (.cells (row4 a) 81)).alloc (.cells (row4 b) 81)).alloc (.cells (row4 fun _ => 0) 81)).alloc (.cells (row4 fun _ => 0) 81)) where
  ha := by
    rw [heap_alloc_old _ _ (by simp; try omega), heap_alloc_old _ _ (by simp; try omega), heap_alloc_old _ _ (by simp; try omega)]
    exact heap_alloc_new _ _
  hb := by
    rw [heap_alloc_old _ _ (by simp; try omega), heap_alloc_old _ _ (by simp; try omega)]
    have := heap_alloc_new (w.alloc (.cells (row4 a) 81)) (.cells (row4 b) 81)
    simpa using this
  hr := by
    rw [heap_alloc_old _ _ (by simp; try omega)]
    have := heap_alloc_new ((w.alloc (.cells (row4 a) 81)).alloc (.cells (row4 b) 81)) (.cells (row4 fun _ => 0) 81)
    simpa using this
  hs := by
    have := heap_alloc_new (((w.alloc (.cells (row4 a) 81)).alloc (.cells (row4 b) 81)).alloc (.cells (row4 fun _ => 0) 81)) (.cells (row4 fun _ => 0) 81)
    simpa using this
  below := ((((Below.refl _ _).alloc (Nat.le_refl _) _).alloc (by simp) _).alloc (by simp; omega) _).alloc (by simp; omega) _

theorem word_parts (x y s c : Nat) (hx : x < 18446744073709551616) (hy : y < 18446744073709551616) (hs : s < 18446744073709551616) (hc : c < 18446744073709551616) :
    ∃ hi lo l1 o1 h1 l2 o2 c2 : Nat, hi = x * y / 18446744073709551616 ∧ lo = x * y % 18446744073709551616 ∧ l1 = (lo + s) % 18446744073709551616 ∧ o1 = (lo + s) / 18446744073709551616 ∧
      h1 = hi + o1 ∧ h1 < 18446744073709551616 ∧ l2 = (l1 + c) % 18446744073709551616 ∧ o2 = (l1 + c) / 18446744073709551616 ∧ c2 = h1 + o2 ∧ c2 < 18446744073709551616 ∧
      l2 = (x * y + s + c) % 18446744073709551616 ∧ c2 = (x * y + s + c) / 18446744073709551616 := by
  refine ⟨_, _, _, _, _, _, _, _, rfl, rfl, rfl, rfl, rfl, ?_, rfl, rfl, rfl, ?_, ?_, ?_⟩
  all_goals
    have h3 : x * y ≤ 18446744073709551615 * 18446744073709551615 := Nat.mul_le_mul (by omega) (by omega)
    generalize x * y = q at *
    omega

theorem mul64_is (x y hi lo : Nat) (hx : x < 18446744073709551616) (hy : y < 18446744073709551616) (h1 : hi = x * y / 18446744073709551616) (h2 : lo = x * y % 18446744073709551616) (w : World) :
    Calls Tryd.prog 52 #[.int .u64 x, .int .u64 y] w fun e w' => e = .returned (.tuple #[.int .u64 (hi : Nat), .int .u64 (lo : Nat)]) ∧ w' = w := by
  rw [h1, h2]; exact mul64_any x y hx hy w

theorem add64_is (x y s o : Nat) (h1 : s = (x + y) % 18446744073709551616) (h2 : o = (x + y) / 18446744073709551616) (w : World) :
    (callFunc 53 #[.int .u64 x, .int .u64 y, .int .u64 0]).run Tryd.prog w = .ok (.value (.tuple #[.int .u64 (s : Nat), .int .u64 (o : Nat)])) w := by
  rw [h1, h2]; exact add64_run x y w

theorem u64_sum (x y z : Nat) (h : z = x + y) (hz : z < 18446744073709551616) : IntKind.u64.wrap ((x : Int) + (y : Int)) = (z : Int) := by
  rw [IntKind.wrap_u64]; omega

theorem wide_under : Tryd.prog.underlying 81 = some (.array 4 42) := by kernel_rfl
theorem wide_size : (Tryd.prog.info? 81).map (·.size) = some 4 := by kernel_rfl

set_option maxHeartbeats 1000000 in
theorem product_any (a b : Nat → Nat) (ha : ∀ k, a k < 18446744073709551616) (hb : ∀ k, b k < 18446744073709551616) (w : World) :
    Calls Tryd.prog 44 #[.agg (row4 a), .agg (row4 b)] w fun e w' => e = .returned (.agg (row4 (outD a b 4))) ∧ Below w.heap.size w w' := by
  have HA := Lib.hid ha; clear ha
  have HB := Lib.hid hb; clear hb
  have HS := Lib.hid (Pr.start w a b)
  unfold row4
  go_enter Tryd.func44, Tryd.ntmps44
  go_wp2
  go_loopw [12] (fun i wr => ∃ n : Nat, n ≤ 4 ∧ i = .int .i64 n ∧ Pr w a b (outD a b n) wr) (fun i _ => 4 - (intOf i).toNat)
  case atStart => exact ⟨0, Nat.zero_le _, rfl, HS.out⟩
  case round =>
    obtain ⟨n, hn, rfl, hP⟩ := hrel
    by_cases hlt : n < 4
    · have x1 : IntKind.i64.wrap (4 - (n : Int)) = ((4 - n : Nat) : Int) := by rw [IntKind.wrap_i64]; omega
      go_wp2
      go_loopw [7, 17] (fun c j wr' => ∃ m : Nat, m ≤ 4 - n ∧ j = .int .i64 m ∧ c = .int .u64 ((innD (a n) b n (outD a b n) m).2 : Nat) ∧ Pr w a b (innD (a n) b n (outD a b n) m).1 wr') (fun _ j _ => 4 - n - (intOf j).toNat)
      case atStart => exact ⟨0, Nat.zero_le _, rfl, rfl, hP⟩
      case round =>
        obtain ⟨m, hm, rfl, rfl, hQ⟩ := hrel
        by_cases hlm : m < 4 - n
        · obtain ⟨s, es⟩ : ∃ s, s = (innD (a n) b n (outD a b n) m).1 := ⟨_, rfl⟩
          obtain ⟨c, ec⟩ : ∃ c, c = (innD (a n) b n (outD a b n) m).2 := ⟨_, rfl⟩
          have hl := innD_lt (a n) b n (outD a b n) (HA.out n) HB.out (outD_lt a b HA.out HB.out n) m
          rw [← es, ← ec] at hl
          rw [← es] at hQ
          obtain ⟨hi, lo, l1, o1, h1, l2, o2, c2, e1, e2, e3, e4, e5, e6, e7, e8, e9, e10, e11, e12⟩ := word_parts (a n) (b m) (s (n + m)) c (HA.out n) (HB.out m) (hl.1 _) hl.2
          have a1 := add64_is lo (s (n + m)) l1 o1 e3 e4
          have a2 := add64_is l1 c l2 o2 e7 e8
          have u1 := u64_sum hi o1 h1 e5 e6
          have u2 := u64_sum h1 o2 c2 e9 e10
          have E1 := Lib.hid e1; clear e1
          have E2 := Lib.hid e2; clear e2
          have E11 := Lib.hid e11; clear e11
          have E12 := Lib.hid e12; clear e12
          clear e3 e4 e5 e6 e7 e8 e9 e10
          have one := innD_one (a n) b n (outD a b n) m
          have two := innD_two (a n) b n (outD a b n) m
          rw [← es, ← ec] at one two
          have ONE := Lib.hid one; clear one
          have TWO := Lib.hid two; clear two
          rw [← ec]
          clear es ec
          have HMA := Lib.hid (HA.out n)
          have HMB := Lib.hid (HB.out m)
          clear hl
          have i1 : IntKind.i64.wrap ((n : Int) + (m : Int)) = ((n + m : Nat) : Int) := by rw [IntKind.wrap_i64]; omega
          have ca := hQ.cellA hlt
          have cb := hQ.cellB (k := m) (by omega)
          have cs := hQ.cellS (k := n + m) (by omega)
          have cf := hQ.frozen (n + m)
          have HQ := Lib.hid hQ; clear hQ
          have b1 : ((n : Nat) : Int) < 4 := by omega
          have b2 : ((m : Nat) : Int) < 4 := by omega
          have b3 : ((n + m : Nat) : Int) < 4 := by omega
          go_wp2
          go_quiet ((go_at_call 52; refine Calls.quiet_of_same (mul64_is _ _ _ _ HMA.out HMB.out E1.out E2.out _)))
          go_wp2
          go_roundw
          case rel =>
            refine ⟨m + 1, by omega, by go_num, by rw [TWO.out, E12.out], ?_⟩
            rw [ONE.out, ← E11.out]
            exact (HQ.out.drewN nq).step (by omega)
          case measure => simp [intOf]; omega
        · obtain rfl : m = 4 - n := by omega
          have HQ := Lib.hid hQ; clear hQ
          go_wp2
          go_roundw
          case rel => exact ⟨n + 1, by omega, by go_num, HQ.out⟩
          case measure => simp [intOf]; omega
    · obtain rfl : n = 4 := by omega
      have s0 := hP.cellS (k := 0) (by omega)
      have s1 := hP.cellS (k := 1) (by omega)
      have s2 := hP.cellS (k := 2) (by omega)
      have s3 := hP.cellS (k := 3) (by omega)
      have f0 := hP.frozenR 0
      have f1 := hP.frozenR 1
      have f2 := hP.frozenR 2
      have f3 := hP.frozenR 3
      have r0 := hP.cellR (k := 0) (by omega)
      have r1 := hP.cellR (k := 1) (by omega)
      have r2 := hP.cellR (k := 2) (by omega)
      have r3 := hP.cellR (k := 3) (by omega)
      have HP := Lib.hid hP; clear hP
      go_wp2
      have q0 := heap_setCell_same _ _ 0 _ _ (.int .u64 (outD a b 4 0 : Nat)) HP.out.hr
      have q1 := heap_setCell_same _ _ 1 _ _ (.int .u64 (outD a b 4 1 : Nat)) q0
      have q2 := heap_setCell_same _ _ 2 _ _ (.int .u64 (outD a b 4 2 : Nat)) q1
      have q3 := heap_setCell_same _ _ 3 _ _ (.int .u64 (outD a b 4 3 : Nat)) q2
      refine bodyPost_ret (results_cell_row rfl _ _ _ _ _ _ _ rfl q3 wide_under rfl wide_size) rfl ⟨rfl, ?_⟩
      exact (((HP.out.below.setCell (by simp only []; omega) _).setCell (by simp only []; omega) _).setCell (by simp only []; omega) _).setCell (by simp only []; omega) _

end Go.Proofs.YtfahmbkeibeceaaDoor
