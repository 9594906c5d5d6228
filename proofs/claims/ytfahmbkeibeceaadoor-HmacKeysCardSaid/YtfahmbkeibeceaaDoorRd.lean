/-
  Contract of sha.Root for a number from 2 to 1000. Conditions: none.
-/
import Derived.Test.YtfahmbkeibeceaaDoorRc
namespace Go.Proofs.YtfahmbkeibeceaaDoor
open Go.ChangeShapes Go.WideShapes Go.ChangeAt Go.RowKit

/-- A root is whole or irrational. -/
theorem no_root (p W f e : Nat) (he : e ≠ 0) (h0 : 0 < f) (hf : f < 18446744073709551616) : (W * 18446744073709551616 + f) ^ e ≠ p * 18446744073709551616 ^ e := by
  intro h
  have h1 : 18446744073709551616 ^ e ∣ (W * 18446744073709551616 + f) ^ e := ⟨p, by rw [h, Nat.mul_comm]⟩
  rw [Nat.pow_dvd_pow_iff he] at h1
  omega

/-- The bits of a root, k of them found. -/
structure Bt (p e W k f : Nat) : Prop where
  lt : f < 2 ^ 64
  mul : ∃ m, f = 2 ^ (64 - k) * m
  low : (W * 2 ^ 64 + f) ^ e ≤ p * (2 ^ 64) ^ e
  high : p * (2 ^ 64) ^ e < (W * 2 ^ 64 + f + 2 ^ (64 - k)) ^ e

theorem start_low (B p e W : Nat) (h1 : W ^ e ≤ p) : (W * B + 0) ^ e ≤ p * B ^ e := by
  rw [Nat.add_zero, Nat.mul_pow]; exact Nat.mul_le_mul_right _ h1

theorem start_high (B p e W : Nat) (hB : 0 < B) (h2 : p < (W + 1) ^ e) : p * B ^ e < (W * B + 0 + B) ^ e := by
  rw [Nat.add_zero, ← Nat.succ_mul, Nat.mul_pow]
  exact Nat.mul_lt_mul_of_pos_right h2 (Nat.pow_pos hB)

theorem Bt.start {p e W : Nat} (h1 : W ^ e ≤ p) (h2 : p < (W + 1) ^ e) : Bt p e W 0 0 where
  lt := Nat.pow_pos (by decide)
  mul := ⟨0, (Nat.mul_zero _).symm⟩
  low := start_low (2 ^ 64) p e W h1
  high := by
    have := start_high (2 ^ 64) p e W (Nat.pow_pos (by decide)) h2
    rw [show 64 - 0 = 64 from rfl]
    exact this

theorem Bt.or {p e W k f : Nat} (h : Bt p e W k f) (hk : k < 64) : f ||| 2 ^ (63 - k) = f + 2 ^ (63 - k) ∧ f + 2 ^ (63 - k) < 2 ^ 64 := by
  obtain ⟨m, rfl⟩ := h.mul
  have hp : 2 ^ (64 - k) = 2 * 2 ^ (63 - k) := by rw [show 64 - k = 63 - k + 1 by omega, Nat.pow_succ, Nat.mul_comm]
  have hpos : 0 < 2 ^ (63 - k) := Nat.pow_pos (by decide)
  refine ⟨(Nat.two_pow_add_eq_or_of_lt (by omega) m).symm, ?_⟩
  have hl := h.lt
  have h64 : 2 ^ 64 = 2 ^ (64 - k) * 2 ^ k := by rw [← Nat.pow_add, Nat.sub_add_cancel (by omega)]
  rw [h64] at hl ⊢
  have hm : m < 2 ^ k := Nat.lt_of_mul_lt_mul_left hl
  have := Nat.mul_le_mul_left (2 ^ (64 - k)) (show m + 1 ≤ 2 ^ k from hm)
  rw [Nat.mul_add, Nat.mul_one] at this
  generalize 2 ^ (64 - k) * 2 ^ k = y at *
  generalize 2 ^ (64 - k) * m = z at *
  omega

theorem Bt.yes {p e W k f : Nat} (h : Bt p e W k f) (hk : k < 64) (hy : (W * 2 ^ 64 + (f + 2 ^ (63 - k))) ^ e < p * (2 ^ 64) ^ e) : Bt p e W (k + 1) (f + 2 ^ (63 - k)) where
  lt := (h.or hk).2
  mul := by
    obtain ⟨m, rfl⟩ := h.mul
    refine ⟨2 * m + 1, ?_⟩
    rw [show 64 - (k + 1) = 63 - k by omega, show 64 - k = 63 - k + 1 by omega, Nat.pow_succ, Nat.mul_add, Nat.mul_one, Nat.mul_assoc]
  low := Nat.le_of_lt hy
  high := by
    have := h.high
    rw [show 64 - k = 63 - k + 1 by omega, Nat.pow_succ] at this
    rw [show 64 - (k + 1) = 63 - k by omega, show W * 2 ^ 64 + (f + 2 ^ (63 - k)) + 2 ^ (63 - k) = W * 2 ^ 64 + f + 2 ^ (63 - k) * 2 by omega]
    exact this

theorem Bt.no {p e W k f : Nat} (h : Bt p e W k f) (hk : k < 64) (he : e ≠ 0) (hy : ¬ (W * 2 ^ 64 + (f + 2 ^ (63 - k))) ^ e < p * (2 ^ 64) ^ e) : Bt p e W (k + 1) f where
  lt := h.lt
  mul := by
    obtain ⟨m, rfl⟩ := h.mul
    refine ⟨2 * m, ?_⟩
    rw [show 64 - (k + 1) = 63 - k by omega, show 64 - k = 63 - k + 1 by omega, Nat.pow_succ, Nat.mul_assoc]
  low := h.low
  high := by
    have hn := no_root p W (f + 2 ^ (63 - k)) e he (by have : 0 < 2 ^ (63 - k) := Nat.pow_pos (by decide); omega) (h.or hk).2
    rw [show 64 - (k + 1) = 63 - k by omega, Nat.add_assoc]
    exact Nat.lt_of_le_of_ne (Nat.le_of_not_lt hy) (fun e => hn e.symm)

theorem Bt.done {p e W f : Nat} (h : Bt p e W 64 f) : Sha.IsR p f e W := ⟨h.low, h.high⟩

theorem wholePower_is (whole frac e q : Nat) (hw : whole < 34) (hf : frac < 18446744073709551616) (h2 : e = 2 ∨ e = 3) (hq : q = (whole * 18446744073709551616 + frac) ^ e / 18446744073709551616 ^ e) (w : World) :
    Calls Tryd.prog 29 #[.int .u64 whole, .int .u64 frac, .int .i64 e] w fun r w' => r = .returned (.int .u64 (q : Nat)) ∧ Below w.heap.size w w' := by
  have h := wholePower_any whole frac e (by omega) hf h2 w
  rw [pw_digit whole frac e hw hf h2, ← hq] at h
  exact h

theorem whole_pow (V e : Nat) : V ^ e = (V * 18446744073709551616 + 0) ^ e / 18446744073709551616 ^ e := by
  rw [Nat.add_zero, Nat.mul_pow, Nat.mul_div_cancel _ (Nat.pow_pos (by decide))]

theorem whole_lt {W e p : Nat} (h2 : e = 2 ∨ e = 3) (hp : p ≤ 1000) (h : W ^ e ≤ p) : W < 32 := by
  apply Nat.lt_of_not_le
  intro hl
  have := Nat.pow_le_pow_left hl e
  rcases h2 with rfl | rfl <;> omega

theorem below_link {w wr w3 : World} (h : Below w.heap.size w wr) (k : Below wr.heap.size wr w3) : Below w.heap.size w w3 := h.trans (k.mono h.size)

/-- The bit that is tried in round k. -/
def bitAt (k : Nat) : Nat := 2 ^ 64 / 2 ^ (k + 1)

theorem bitAt_half (k : Nat) : bitAt k / 2 = bitAt (k + 1) := by
  unfold bitAt
  rw [Nat.div_div_eq_div_mul, ← Nat.pow_succ]

theorem bitAt_pow {k : Nat} (h : k < 64) : bitAt k = 2 ^ (63 - k) := by
  unfold bitAt
  rw [Nat.pow_div (by omega) (by decide), show 64 - (k + 1) = 63 - k by omega]

theorem bitAt_last : bitAt 64 = 0 := by decide

set_option maxHeartbeats 1000000 in
theorem root_2 (p : Nat) (hp : 2 ≤ p) (hq : p ≤ 1000) (w : World) :
    Calls Tryd.prog 20 #[.int .u64 p, .bool false] w fun x w' => ∃ r W : Nat, x = .returned (.int .u64 (r : Nat)) ∧ r < 18446744073709551616 ∧ W ^ 2 ≤ p ∧ p < (W + 1) ^ 2 ∧ Sha.IsR p r 2 W ∧ Below w.heap.size w w' := by
  have d1 : decide ((p : Int) < 2) = false := by simp; omega
  have d2 : decide ((1000 : Int) < p) = false := by simp; omega
  have HP := Lib.hid hp; clear hp
  have HQ := Lib.hid hq; clear hq
  go_enter Tryd.func20, Tryd.ntmps20
  go_wp2
  go_loopw [6] (fun x wr => ∃ W : Nat, x = .int .u64 W ∧ W ^ 2 ≤ p ∧ Below w.heap.size w wr) (fun x _ => 40 - (intOf x).toNat)
  case atStart => exact ⟨1, rfl, by have := HP.out; omega, Below.refl _ _⟩
  case round =>
    obtain ⟨W, rfl, hW, hb⟩ := hrel
    have hWl := whole_lt (e := 2) (by omega) HQ.out hW
    obtain ⟨V, eV⟩ : ∃ V, V = W + 1 := ⟨_, rfl⟩
    have u1 : IntKind.u64.wrap ((W : Int) + 1) = (V : Int) := by rw [IntKind.wrap_u64]; omega
    have HW := Lib.hid hW; clear hW
    have HB := Lib.hid hb; clear hb
    have EV := Lib.hid eV
    have HV := Lib.hid (show V < 34 by omega)
    have HL := Lib.hid hWl
    clear eV hWl
    obtain ⟨q, eq⟩ : ∃ q, q = V ^ 2 := ⟨_, rfl⟩
    have EQ := Lib.hid eq; clear eq
    go_wp2_with fail
    refine (wholePower_is V 0 2 q HV.out (by decide) (by decide) (EQ.out.trans (whole_pow V 2)) _).mono ?_
    rintro r w3 ⟨rfl, hb3⟩
    have HB3 := Lib.hid (below_link HB.out hb3); clear hb3
    by_cases hlt : q ≤ p
    · go_wp2
      go_roundw
      case rel => exact ⟨V, by rfl, by rw [← EQ.out]; exact hlt, HB3.out⟩
      case measure => have := EV.out; have := HL.out; simp [intOf]; omega
    · have HLT := Lib.hid (show p < (W + 1) ^ 2 by rw [← EV.out, ← EQ.out]; omega)
      go_wp2
      go_loopw [7, 8] (fun x y wr => ∃ k f : Nat, k ≤ 64 ∧ x = .int .u64 (f : Nat) ∧ y = .int .u64 (bitAt k : Nat) ∧ Bt p 2 W k f ∧ Below w.heap.size w wr) (fun _ y _ => (intOf y).toNat)
      case atStart => exact ⟨0, 0, Nat.zero_le _, rfl, rfl, Bt.start HW.out HLT.out, HB3.out⟩
      case round =>
        obtain ⟨k, f, hk, rfl, rfl, hB, hb⟩ := hrel
        have HBB := Lib.hid hb; clear hb
        by_cases hk64 : k < 64
        · obtain ⟨b, eb⟩ : ∃ b, b = bitAt k := ⟨_, rfl⟩
          have eb2 := eb.trans (bitAt_pow hk64)
          have hpos : 0 < 2 ^ (63 - k) := Nat.pow_pos (by decide)
          have hor := hB.or hk64
          rw [← eb2] at hor hpos
          have o1 := u64_or_nat f b hB.lt (by have := hor.2; omega)
          rw [hor.1] at o1
          obtain ⟨g, eg⟩ : ∃ g, g = f + b := ⟨_, rfl⟩
          rw [← eg] at o1 hor
          have half := bitAt_half k
          rw [← eb] at half
          rw [← eb]
          obtain ⟨z, ez⟩ : ∃ z, z = (W * 18446744073709551616 + g) ^ 2 / 18446744073709551616 ^ 2 := ⟨_, rfl⟩
          have hz : z < p ↔ (W * 2 ^ 64 + g) ^ 2 < p * (2 ^ 64) ^ 2 := by rw [ez]; exact Nat.div_lt_iff_lt_mul (Nat.pow_pos (by decide))
          have YES := Lib.hid (fun h => hB.yes hk64 h)
          have NO := Lib.hid (fun h => hB.no hk64 (by decide) h)
          rw [← eb2, ← eg] at YES NO
          have G := Lib.hid hor.2
          have HZ := Lib.hid hz
          have EZ := Lib.hid ez
          have HALF := Lib.hid half
          have hbI : (0 : Int) < (b : Int) := by omega
          obtain ⟨b2, eb3⟩ : ∃ b2, b2 = b / 2 := ⟨_, rfl⟩
          have hdiv : (b : Int) / 2 = (b2 : Int) := by omega
          have HB2 := Lib.hid eb3
          have HWL := Lib.hid (show W < 34 by have := HL.out; omega)
          clear hB hor hz ez half eb2 eb eg hpos eb3
          go_wp2_with fail
          refine (wholePower_is W g 2 z HWL.out G.out (by decide) EZ.out _).mono ?_
          rintro r w4 ⟨rfl, hb4⟩
          have HB4 := Lib.hid (below_link HBB.out hb4); clear hb4
          by_cases hzp : z < p
          · go_wp2
            go_roundw
            case rel => exact ⟨k + 1, g, hk64, rfl, by rw [← HALF.out, ← HB2.out], YES.out (HZ.out.mp hzp), HB4.out⟩
            case measure => have := HB2.out; simp [intOf]; omega
          · go_wp2
            go_roundw
            case rel => exact ⟨k + 1, f, hk64, rfl, by rw [← HALF.out, ← HB2.out], NO.out (fun h => hzp (HZ.out.mpr h)), HB4.out⟩
            case measure => have := HB2.out; simp [intOf]; omega
        · obtain rfl : k = 64 := by omega
          rw [bitAt_last]
          have HD := Lib.hid hB.done
          have HF := Lib.hid hB.lt
          clear hB
          go_wp2
          go_ret
          exact ⟨f, W, rfl, HF.out, HW.out, HLT.out, HD.out, HBB.out⟩

set_option maxHeartbeats 1000000 in
theorem root_3 (p : Nat) (hp : 2 ≤ p) (hq : p ≤ 1000) (w : World) :
    Calls Tryd.prog 20 #[.int .u64 p, .bool true] w fun x w' => ∃ r W : Nat, x = .returned (.int .u64 (r : Nat)) ∧ r < 18446744073709551616 ∧ W ^ 3 ≤ p ∧ p < (W + 1) ^ 3 ∧ Sha.IsR p r 3 W ∧ Below w.heap.size w w' := by
  have d1 : decide ((p : Int) < 2) = false := by simp; omega
  have d2 : decide ((1000 : Int) < p) = false := by simp; omega
  have HP := Lib.hid hp; clear hp
  have HQ := Lib.hid hq; clear hq
  go_enter Tryd.func20, Tryd.ntmps20
  go_wp2
  go_loopw [6] (fun x wr => ∃ W : Nat, x = .int .u64 W ∧ W ^ 3 ≤ p ∧ Below w.heap.size w wr) (fun x _ => 40 - (intOf x).toNat)
  case atStart => exact ⟨1, rfl, by have := HP.out; omega, Below.refl _ _⟩
  case round =>
    obtain ⟨W, rfl, hW, hb⟩ := hrel
    have hWl := whole_lt (e := 3) (by omega) HQ.out hW
    obtain ⟨V, eV⟩ : ∃ V, V = W + 1 := ⟨_, rfl⟩
    have u1 : IntKind.u64.wrap ((W : Int) + 1) = (V : Int) := by rw [IntKind.wrap_u64]; omega
    have HW := Lib.hid hW; clear hW
    have HB := Lib.hid hb; clear hb
    have EV := Lib.hid eV
    have HV := Lib.hid (show V < 34 by omega)
    have HL := Lib.hid hWl
    clear eV hWl
    obtain ⟨q, eq⟩ : ∃ q, q = V ^ 3 := ⟨_, rfl⟩
    have EQ := Lib.hid eq; clear eq
    go_wp2_with fail
    refine (wholePower_is V 0 3 q HV.out (by decide) (by decide) (EQ.out.trans (whole_pow V 3)) _).mono ?_
    rintro r w3 ⟨rfl, hb3⟩
    have HB3 := Lib.hid (below_link HB.out hb3); clear hb3
    by_cases hlt : q ≤ p
    · go_wp2
      go_roundw
      case rel => exact ⟨V, by rfl, by rw [← EQ.out]; exact hlt, HB3.out⟩
      case measure => have := EV.out; have := HL.out; simp [intOf]; omega
    · have HLT := Lib.hid (show p < (W + 1) ^ 3 by rw [← EV.out, ← EQ.out]; omega)
      go_wp2
      go_loopw [7, 8] (fun x y wr => ∃ k f : Nat, k ≤ 64 ∧ x = .int .u64 (f : Nat) ∧ y = .int .u64 (bitAt k : Nat) ∧ Bt p 3 W k f ∧ Below w.heap.size w wr) (fun _ y _ => (intOf y).toNat)
      case atStart => exact ⟨0, 0, Nat.zero_le _, rfl, rfl, Bt.start HW.out HLT.out, HB3.out⟩
      case round =>
        obtain ⟨k, f, hk, rfl, rfl, hB, hb⟩ := hrel
        have HBB := Lib.hid hb; clear hb
        by_cases hk64 : k < 64
        · obtain ⟨b, eb⟩ : ∃ b, b = bitAt k := ⟨_, rfl⟩
          have eb2 := eb.trans (bitAt_pow hk64)
          have hpos : 0 < 2 ^ (63 - k) := Nat.pow_pos (by decide)
          have hor := hB.or hk64
          rw [← eb2] at hor hpos
          have o1 := u64_or_nat f b hB.lt (by have := hor.2; omega)
          rw [hor.1] at o1
          obtain ⟨g, eg⟩ : ∃ g, g = f + b := ⟨_, rfl⟩
          rw [← eg] at o1 hor
          have half := bitAt_half k
          rw [← eb] at half
          rw [← eb]
          obtain ⟨z, ez⟩ : ∃ z, z = (W * 18446744073709551616 + g) ^ 3 / 18446744073709551616 ^ 3 := ⟨_, rfl⟩
          have hz : z < p ↔ (W * 2 ^ 64 + g) ^ 3 < p * (2 ^ 64) ^ 3 := by rw [ez]; exact Nat.div_lt_iff_lt_mul (Nat.pow_pos (by decide))
          have YES := Lib.hid (fun h => hB.yes hk64 h)
          have NO := Lib.hid (fun h => hB.no hk64 (by decide) h)
          rw [← eb2, ← eg] at YES NO
          have G := Lib.hid hor.2
          have HZ := Lib.hid hz
          have EZ := Lib.hid ez
          have HALF := Lib.hid half
          have hbI : (0 : Int) < (b : Int) := by omega
          obtain ⟨b2, eb3⟩ : ∃ b2, b2 = b / 2 := ⟨_, rfl⟩
          have hdiv : (b : Int) / 2 = (b2 : Int) := by omega
          have HB2 := Lib.hid eb3
          have HWL := Lib.hid (show W < 34 by have := HL.out; omega)
          clear hB hor hz ez half eb2 eb eg hpos eb3
          go_wp2_with fail
          refine (wholePower_is W g 3 z HWL.out G.out (by decide) EZ.out _).mono ?_
          rintro r w4 ⟨rfl, hb4⟩
          have HB4 := Lib.hid (below_link HBB.out hb4); clear hb4
          by_cases hzp : z < p
          · go_wp2
            go_roundw
            case rel => exact ⟨k + 1, g, hk64, rfl, by rw [← HALF.out, ← HB2.out], YES.out (HZ.out.mp hzp), HB4.out⟩
            case measure => have := HB2.out; simp [intOf]; omega
          · go_wp2
            go_roundw
            case rel => exact ⟨k + 1, f, hk64, rfl, by rw [← HALF.out, ← HB2.out], NO.out (fun h => hzp (HZ.out.mpr h)), HB4.out⟩
            case measure => have := HB2.out; simp [intOf]; omega
        · obtain rfl : k = 64 := by omega
          rw [bitAt_last]
          have HD := Lib.hid hB.done
          have HF := Lib.hid hB.lt
          clear hB
          go_wp2
          go_ret
          exact ⟨f, W, rfl, HF.out, HW.out, HLT.out, HD.out, HBB.out⟩

end Go.Proofs.YtfahmbkeibeceaaDoor
