/-
  Contract of sha.wholePower. Conditions: none.
-/
import Derived.Test.YtfahmbkeibeceaaDoorRb
namespace Go.Proofs.YtfahmbkeibeceaaDoor
open Go.ChangeShapes Go.WideShapes Go.ChangeAt Go.RowKit

/-- Four cells stored one by one. -/
def put4 (w : World) (g : Nat) (t : Nat → Nat) : World :=
  (((w.setCell ⟨g, 0, none⟩ (.int .u64 (t 0 : Nat))).setCell ⟨g, 1, none⟩ (.int .u64 (t 1 : Nat))).setCell ⟨g, 2, none⟩ (.int .u64 (t 2 : Nat))).setCell ⟨g, 3, none⟩ (.int .u64 (t 3 : Nat))

theorem put4_same {w : World} {g : Nat} {s : Nat → Nat} {T : TypeId} (t : Nat → Nat) (h : w.heap[g]? = some (.cells (row4 s) T (0, 0))) :
    (put4 w g t).heap[g]? = some (.cells (row4 t) T (0, 0)) :=
  heap_setCell_same _ _ _ _ _ _ (heap_setCell_same _ _ _ _ _ _ (heap_setCell_same _ _ _ _ _ _ (heap_setCell_same _ _ _ _ _ _ h)))

theorem put4_other (w : World) (g k : Nat) (t : Nat → Nat) (h : k ≠ g) : (put4 w g t).heap[k]? = w.heap[k]? := by
  unfold put4
  rw [heap_setCell_other _ _ _ _ h, heap_setCell_other _ _ _ _ h, heap_setCell_other _ _ _ _ h, heap_setCell_other _ _ _ _ h]

theorem put4_below {B : Nat} {a w : World} {g : Nat} (t : Nat → Nat) (h : Below B a w) (hg : B ≤ g) : Below B a (put4 w g t) :=
  (((h.setCell hg _).setCell hg _).setCell hg _).setCell hg _

theorem put4_size (w : World) (g : Nat) (t : Nat → Nat) : (put4 w g t).heap.size = w.heap.size := by
  simp [put4, World.setCell]

/-- The memory of sha.wholePower: the factor and the product so far. -/
structure Wp (w : World) (x y : Nat → Nat) (wr : World) : Prop where
  hx : wr.heap[w.heap.size]? = some (.cells (row4 x) 81 (0, 0))
  hy : wr.heap[w.heap.size + 1]? = some (.cells (row4 y) 81 (0, 0))
  below : Below w.heap.size w wr

theorem Wp.start (w : World) (x : Nat → Nat) :
    Wp w x x ((w.alloc (.cells (row4 x) 81)).alloc (.cells (row4 x) 81)) where
  hx := by
    rw [heap_alloc_old _ _ (by simp)]
    exact heap_alloc_new _ _
  hy := by
    have := heap_alloc_new (w.alloc (.cells (row4 x) 81)) (.cells (row4 x) 81)
    simpa using this
  below := ((Below.refl _ _).alloc (Nat.le_refl _) _).alloc (by simp) _

theorem Wp.size {w wr : World} {x y : Nat → Nat} (h : Wp w x y wr) : w.heap.size + 1 < wr.heap.size := by
  have := h.hy
  rw [Array.getElem?_eq_some_iff] at this
  exact this.1

theorem Wp.call {w wr w' : World} {x y : Nat → Nat} (h : Wp w x y wr) (hb : Below wr.heap.size wr w') : Wp w x y w' where
  hx := by rw [hb.block _ (by have := h.size; omega)]; exact h.hx
  hy := by rw [hb.block _ h.size]; exact h.hy
  below := h.below.trans (hb.mono (by have := h.size; omega))

theorem Wp.put {w wr : World} {x y : Nat → Nat} (h : Wp w x y wr) (z : Nat → Nat) : Wp w x z (put4 wr (w.heap.size + 1) z) where
  hx := by rw [put4_other _ _ _ _ (by omega)]; exact h.hx
  hy := put4_same z h.hy
  below := put4_below z h.below (by omega)

theorem Wp.cellX {w wr : World} {x y : Nat → Nat} (h : Wp w x y wr) {k : Nat} (hk : k < 4) : wr.cell? ⟨w.heap.size, k, none⟩ = some (.int .u64 (x k : Nat)) := by
  rw [cell_of_row _ _ _ _ _ _ h.hx]; exact row4_get x k hk

theorem Wp.cellY {w wr : World} {x y : Nat → Nat} (h : Wp w x y wr) {k : Nat} (hk : k < 4) : wr.cell? ⟨w.heap.size + 1, k, none⟩ = some (.int .u64 (y k : Nat)) := by
  rw [cell_of_row _ _ _ _ _ _ h.hy]; exact row4_get y k hk

theorem Wp.frozenY {w wr : World} {x y : Nat → Nat} (h : Wp w x y wr) (k : Nat) : wr.frozen? ⟨w.heap.size + 1, k, none⟩ = false :=
  frozen_of_row _ _ _ _ _ h.hy

/-- A number with one digit before the point and one after it. -/
def wx (whole frac : Nat) : Nat → Nat
  | 0 => frac
  | 1 => whole
  | _ => 0

theorem wx_lt {whole frac : Nat} (hw : whole < 18446744073709551616) (hf : frac < 18446744073709551616) (k : Nat) : wx whole frac k < 18446744073709551616 := by
  match k with
  | 0 => exact hf
  | 1 => exact hw
  | _ + 2 => exact (by decide : 0 < 18446744073709551616)

/-- The digits of powers. -/
def pw (x : Nat → Nat) : Nat → Nat → Nat
  | 0 => x
  | k + 1 => outD (pw x k) x 4

theorem pw_lt {x : Nat → Nat} (hx : ∀ k, x k < 18446744073709551616) (n k : Nat) : pw x n k < 18446744073709551616 := by
  match n with
  | 0 => exact hx k
  | n + 1 => exact outD_lt _ _ (pw_lt hx n) hx 4 k

theorem sum4 (B a b : Nat) : 0 + a * B ^ 0 + b * B ^ 1 + 0 * B ^ 2 + 0 * B ^ 3 = b * B + a := by
  rw [Nat.pow_zero, Nat.pow_one, Nat.zero_mul, Nat.zero_mul, Nat.mul_one, Nat.zero_add, Nat.add_zero, Nat.add_comm]

theorem wx_val (whole frac : Nat) : valD (wx whole frac) 4 = whole * 18446744073709551616 + frac := by
  rw [valD_succ (wx whole frac) 3, valD_succ (wx whole frac) 2, valD_succ (wx whole frac) 1, valD_succ (wx whole frac) 0, show valD (wx whole frac) 0 = 0 from rfl, show wx whole frac 0 = frac from rfl, show wx whole frac 1 = whole from rfl, show wx whole frac 2 = 0 from rfl, show wx whole frac 3 = 0 from rfl]
  exact sum4 18446744073709551616 frac whole

theorem pw_val (x : Nat → Nat) (hx : ∀ k, x k < 18446744073709551616) (n : Nat) (h : valD x 4 ^ (n + 1) < 18446744073709551616 ^ 4) : valD (pw x n) 4 = valD x 4 ^ (n + 1) := by
  induction n with
  | zero => rw [Nat.zero_add, Nat.pow_one]; rfl
  | succ n ih =>
    have h1 : valD x 4 ^ (n + 1) < 18446744073709551616 ^ 4 := by
      by_cases h0 : valD x 4 = 0
      · rw [h0, Nat.pow_succ, Nat.mul_zero]; decide
      · exact Nat.lt_of_le_of_lt (Nat.pow_le_pow_right (by omega) (by omega)) h
    rw [show pw x (n + 1) = outD (pw x n) x 4 from rfl, outD_mod _ _ (pw_lt hx n) hx, ih h1, ← Nat.pow_succ, Nat.mod_eq_of_lt h]

theorem pw_digit (whole frac e : Nat) (hw : whole < 34) (hf : frac < 18446744073709551616) (h2 : e = 2 ∨ e = 3) :
    pw (wx whole frac) (e - 1) e = (whole * 18446744073709551616 + frac) ^ e / 18446744073709551616 ^ e := by
  have hx := wx_lt (whole := whole) (frac := frac) (by omega) hf
  have hb : whole * 18446744073709551616 + frac < 34 * 18446744073709551616 := by omega
  have hp : (whole * 18446744073709551616 + frac) ^ e < 34 ^ e * 18446744073709551616 ^ e := by
    rw [← Nat.mul_pow]
    exact Nat.pow_lt_pow_left hb (by omega)
  have hv := wx_val whole frac
  have hl : valD (wx whole frac) 4 ^ (e - 1 + 1) < 18446744073709551616 ^ 4 := by
    rw [hv, show e - 1 + 1 = e by omega]
    refine Nat.lt_trans hp ?_
    rcases h2 with rfl | rfl <;> decide
  have hd := digitD (pw (wx whole frac) (e - 1)) (pw_lt hx (e - 1)) 4 e (by omega)
  rw [hd, pw_val _ hx _ hl, hv, show e - 1 + 1 = e by omega]
  apply Nat.mod_eq_of_lt
  rw [Nat.div_lt_iff_lt_mul (Nat.pow_pos (by decide))]
  refine Nat.lt_trans hp (Nat.mul_lt_mul_of_pos_right ?_ (Nat.pow_pos (by decide)))
  rcases h2 with rfl | rfl <;> decide

set_option maxHeartbeats 1000000 in
theorem wholePower_any (whole frac e : Nat) (hw : whole < 18446744073709551616) (hf : frac < 18446744073709551616) (h2 : e = 2 ∨ e = 3) (w : World) :
    Calls Tryd.prog 29 #[.int .u64 whole, .int .u64 frac, .int .i64 e] w fun r w' => r = .returned (.int .u64 (pw (wx whole frac) (e - 1) e : Nat)) ∧ Below w.heap.size w w' := by
  have HX := Lib.hid (wx_lt hw hf); clear hw hf
  have HS := Lib.hid (Wp.start w (wx whole frac))
  have x1 : IntKind.i64.wrap ((e : Int) - 1) = ((e - 1 : Nat) : Int) := by rw [IntKind.wrap_i64]; omega
  have he : e < 4 := by omega
  have he2 : ((e : Nat) : Int) < 4 := by omega
  go_enter Tryd.func29, Tryd.ntmps29
  go_wp2
  go_loopw [15] (fun i wr => ∃ k : Nat, k ≤ e - 1 ∧ i = .int .i64 k ∧ Wp w (wx whole frac) (pw (wx whole frac) k) wr) (fun i _ => e - 1 - (intOf i).toNat)
  case atStart =>
    refine ⟨0, Nat.zero_le _, rfl, ?_⟩
    exact HS.out
  case round =>
    obtain ⟨k, hk, rfl, hP⟩ := hrel
    by_cases hlt : k < e - 1
    · have y0 := hP.cellY (k := 0) (by omega)
      have y1 := hP.cellY (k := 1) (by omega)
      have y2 := hP.cellY (k := 2) (by omega)
      have y3 := hP.cellY (k := 3) (by omega)
      have c0 := hP.cellX (k := 0) (by omega)
      have c1 := hP.cellX (k := 1) (by omega)
      have c2 := hP.cellX (k := 2) (by omega)
      have c3 := hP.cellX (k := 3) (by omega)
      have HP := Lib.hid hP; clear hP
      go_wp2_with fail
      refine (product_any (pw (wx whole frac) k) (wx whole frac) (pw_lt HX.out k) HX.out _).mono ?_
      rintro r w3 ⟨rfl, hb3⟩
      have hQ := HP.out.call hb3
      clear y0 y1 y2 y3 c0 c1 c2 c3 hb3
      have f0 := hQ.frozenY 0
      have f1 := hQ.frozenY 1
      have f2 := hQ.frozenY 2
      have f3 := hQ.frozenY 3
      have y0 := hQ.cellY (k := 0) (by omega)
      have y1 := hQ.cellY (k := 1) (by omega)
      have y2 := hQ.cellY (k := 2) (by omega)
      have y3 := hQ.cellY (k := 3) (by omega)
      have HQ := Lib.hid (hQ.put (pw (wx whole frac) (k + 1))); clear hQ
      unfold row4
      go_wp2
      go_roundw
      case rel => exact ⟨k + 1, by omega, by go_num, HQ.out⟩
      case measure => simp [intOf]; omega
    · obtain rfl : k = e - 1 := by omega
      have y0 := hP.cellY (k := e) (by omega)
      have HB := Lib.hid hP.below; clear hP
      go_wp2
      go_ret
      exact ⟨rfl, HB.out⟩

end Go.Proofs.YtfahmbkeibeceaaDoor
