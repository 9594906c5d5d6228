/-
  Contracts of aes.Sub and of the statements' awake; the walks of AesTimes, AesField and AesSubs. Conditions: the numbers are bytes.
-/
import Derived.Test.YtbocfmedkkgheaaAf
namespace Go.Proofs.Ytbocfmedkkgheaa
namespace Aes
open Go.ChangeShapes Go.WideShapes Go.ChangeAt Go.RowKit Go.Great
open Gf
set_option linter.unusedVariables false

theorem subTo_inverse (a : Nat) : subTo (inverse a) 8 = sub a := rfl

set_option maxHeartbeats 1000000 in
theorem sub_any (a : Nat) (w : World) (ha : a < 256) :
    Calls Try.prog 12 #[.int .u8 a] w fun e w' => e = .returned (.int .u8 (sub a : Nat)) ∧ Below w.heap.size w w' := by
  obtain ⟨i0, hi0⟩ := info8
  obtain ⟨AG, hAG⟩ : ∃ AG, AG = valsK .u8 (allF inverse 256) := ⟨_, rfl⟩
  obtain ⟨c, hc⟩ : ∃ c, c = inverse a := ⟨_, rfl⟩
  obtain ⟨s, hs⟩ : ∃ s, s = sub a := ⟨_, rfl⟩
  have hidx : ∀ X, (Instr.index 46 (.agg AG) (.int .u8 (a : Int))).run Try.prog X = .ok (.int .u8 (c : Nat)) X := by
    intro X
    rw [hAG, hc]
    exact idx_int X under256u Try.underlying5 hi0 (by kernel_rfl) ha (valsK_get _ _ _ _ (allF_get inverse 256 a ha))
  have HI := Lib.hid (fun X => inverses_any X)
  rw [← hAG] at HI
  have HS : Hid (∀ X, Calls Try.prog 22 #[.int .u8 c] X fun e w' => e = .returned (.int .u8 (s : Nat)) ∧ w' = X) := Lib.hid (fun X => by
    rw [hs, hc, ← subTo_inverse]; exact spread_any (inverse a) X (inverse_lt ha))
  rw [← hs]
  clear hi0 hAG hc hs ha
  go_enter Try.func12, Try.ntmps12
  go_wp2_with fail
  refine (HI.out _).mono ?_
  rintro e w1 ⟨rfl, hb⟩
  have HB := Lib.hid hb; clear hb
  go_wp2_with fail
  refine (HS.out _).mono ?_
  rintro e w2 ⟨rfl, rfl⟩
  go_wp2
  go_ret
  exact ⟨rfl, HB.out⟩

theorem times_two_three : times 2 3 = 6 := by decide +kernel

theorem awake_any (w : World) : Calls Try.prog 9 #[] w fun e w' => e = .returned (.bool true) ∧ Below w.heap.size w w' := by
  have HT : Hid (∀ X, Calls Try.prog 10 #[.int .u8 2, .int .u8 3] X fun e w' => e = .returned (.int .u8 6) ∧ w' = X) := Lib.hid (fun X => by
    have := times_any 2 3 X (by decide) (by decide)
    rw [times_two_three] at this
    exact this)
  have HS : Hid (∀ X, Calls Try.prog 12 #[.int .u8 0] X fun e w' => e = .returned (.int .u8 99) ∧ Below X.heap.size X w') := Lib.hid (fun X => by
    have := sub_any 0 X (by decide)
    rw [sub_zero] at this
    exact this)
  go_enter Try.func9, Try.ntmps9
  go_wp2_with fail
  refine (HT.out _).mono ?_
  rintro e w1 ⟨rfl, rfl⟩
  go_wp2_with fail
  refine (HS.out _).mono ?_
  rintro e w2 ⟨rfl, hb⟩
  have HB := Lib.hid hb; clear hb
  go_wp2
  go_ret
  exact ⟨rfl, HB.out⟩

/-! ### The walks -/

theorem walk_times (a b : Nat) (w : World) (ha : a < 256) (hb : b < 256) :
    Calls Try.prog 3 #[.int .u8 a, .int .u8 b] w fun e w' => e = .returned (.bool true) ∧ Below w.heap.size w w' := by
  have ht : times a b < 256 := times_lt ha b
  have HT := Lib.hid (fun X => times_any a b X ha hb)
  have HR := Lib.hid (fun X => rtimes_any a b X ha hb)
  have q1 : IntKind.i64.wrap (a : Int) = (a : Int) := by rw [IntKind.wrap_i64]; omega
  have q2 : IntKind.i64.wrap (b : Int) = (b : Int) := by rw [IntKind.wrap_i64]; omega
  have q3 : IntKind.i64.wrap (times a b : Int) = (times a b : Int) := by rw [IntKind.wrap_i64]; omega
  generalize times a b = t at *
  clear ha hb ht
  go_enter Try.func3, Try.ntmps3
  go_wp2_with fail
  refine (awake_any _).mono ?_
  rintro e w1 ⟨rfl, hb⟩
  have HB := Lib.hid hb; clear hb
  go_wp2_with fail
  refine (HT.out _).mono ?_
  rintro e w2 ⟨rfl, rfl⟩
  go_wp2_with fail
  refine (HR.out _).mono ?_
  rintro e w2 ⟨rfl, rfl⟩
  go_wp2
  go_ret
  exact ⟨rfl, HB.out⟩

theorem walk_subs (a b : Nat) (w : World) (ha : a < 256) (hb : b < 256) :
    Calls Try.prog 5 #[.int .u8 a, .int .u8 b] w fun e w' => e = .returned (.bool true) ∧ Below w.heap.size w w' := by
  have HA := Lib.hid (fun X => sub_any a X ha)
  have HB := Lib.hid (fun X => sub_any b X hb)
  have HR := Lib.hid (fun X => rsub_any a X ha)
  have q1 : IntKind.i64.wrap (a : Int) = (a : Int) := by rw [IntKind.wrap_i64]; omega
  have hs := sub_lt a ha
  have q3 : IntKind.i64.wrap (sub a : Int) = (sub a : Int) := by rw [IntKind.wrap_i64]; omega
  have hiff : sub a = sub b ↔ a = b := ⟨fun h => sub_inj ha hb h, fun h => by rw [h]⟩
  generalize sub a = s at *
  generalize sub b = t at *
  clear ha hb hs
  by_cases h : a = b
  · have h2 := hiff.2 h
    subst h; subst h2
    clear hiff
    go_enter Try.func5, Try.ntmps5
    go_wp2_with fail
    refine (awake_any _).mono ?_
    rintro e w1 ⟨rfl, hb⟩
    have HB1 := Lib.hid hb; clear hb
    go_wp2_with fail
    refine (HA.out _).mono ?_
    rintro e w2 ⟨rfl, hb⟩
    have HB2 := Lib.hid (below_link HB1.out hb); clear hb
    go_wp2_with fail
    refine (HR.out _).mono ?_
    rintro e w3 ⟨rfl, rfl⟩
    go_wp2_with fail
    refine (HA.out _).mono ?_
    rintro e w4 ⟨rfl, hb⟩
    have HB4 := Lib.hid (below_link HB2.out hb); clear hb
    go_wp2_with fail
    refine (HA.out _).mono ?_
    rintro e w5 ⟨rfl, hb⟩
    have HB5 := Lib.hid (below_link HB4.out hb); clear hb
    go_wp2
    go_ret
    exact ⟨rfl, HB5.out⟩
  · have h2 : ¬ s = t := fun e => h (hiff.1 e)
    have d1 : ((a : Int) == (b : Int)) = false := by simp; omega
    have d2 : ((s : Int) == (t : Int)) = false := by simp; omega
    have d3 : (a == b) = false := by simp; omega
    have d4 : (s == t) = false := by simp; omega
    clear hiff
    go_enter Try.func5, Try.ntmps5
    go_wp2_with fail
    refine (awake_any _).mono ?_
    rintro e w1 ⟨rfl, hb⟩
    have HB1 := Lib.hid hb; clear hb
    go_wp2_with fail
    refine (HA.out _).mono ?_
    rintro e w2 ⟨rfl, hb⟩
    have HB2 := Lib.hid (below_link HB1.out hb); clear hb
    go_wp2_with fail
    refine (HR.out _).mono ?_
    rintro e w3 ⟨rfl, rfl⟩
    go_wp2_with fail
    refine (HA.out _).mono ?_
    rintro e w4 ⟨rfl, hb⟩
    have HB4 := Lib.hid (below_link HB2.out hb); clear hb
    go_wp2_with fail
    refine (HB.out _).mono ?_
    rintro e w5 ⟨rfl, hb⟩
    have HB5 := Lib.hid (below_link HB4.out hb); clear hb
    go_wp2
    go_ret
    exact ⟨rfl, HB5.out⟩

end Aes
end Go.Proofs.Ytbocfmedkkgheaa
