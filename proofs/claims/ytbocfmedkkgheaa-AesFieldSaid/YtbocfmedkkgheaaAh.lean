/-
  The walk of AesField. Conditions: the numbers are bytes.
-/
import Derived.Test.YtbocfmedkkgheaaAg
namespace Go.Proofs.Ytbocfmedkkgheaa
namespace Aes
open Go.ChangeShapes Go.WideShapes Go.ChangeAt Go.RowKit Go.Great
open Gf
set_option linter.unusedVariables false

/-- A product in the program. -/
def TimesIs (a b t : Nat) : Prop := ∀ X, Calls Try.prog 10 #[.int .u8 a, .int .u8 b] X fun e w' => e = .returned (.int .u8 (t : Nat)) ∧ w' = X

theorem timesIs {a b t : Nat} (ha : a < 256) (hb : b < 256) (h : times a b = t) : TimesIs a b t := fun X => by rw [← h]; exact times_any a b X ha hb

set_option maxHeartbeats 2000000 in
theorem walk_field0 (a b c d t u v x y : Nat) (w : World) (z1 z2 z3 : Bool)
    (h1 : TimesIs a b t) (h2 : TimesIs b a t) (h3 : TimesIs t c u) (h4 : TimesIs b c v) (h5 : TimesIs a v u) (h6 : TimesIs a d x) (h7 : TimesIs a c y) (h8 : TimesIs a 1 a) (h9 : TimesIs a 0 0)
    (hd : bits .xor .u8 (b : Int) (c : Int) = (d : Int)) (hx : bits .xor .u8 (t : Int) (y : Int) = (x : Int))
    (g1 : ((t : Int) == 0) = z1) (g2 : ((a : Int) == 0) = z2) (g3 : ((b : Int) == 0) = z3) (hz : z1 = (z2 || z3)) :
    Calls Try.prog 4 #[.int .u8 a, .int .u8 b, .int .u8 c] w fun e w' => e = .returned (.bool true) ∧ Below w.heap.size w w' := by
  have H1 := Lib.hid h1
  have H2 := Lib.hid h2
  have H3 := Lib.hid h3
  have H4 := Lib.hid h4
  have H5 := Lib.hid h5
  have H6 := Lib.hid h6
  have H7 := Lib.hid h7
  have H8 := Lib.hid h8
  have H9 := Lib.hid h9
  clear h1 h2 h3 h4 h5 h6 h7 h8 h9
  cases z2 <;> cases z3 <;> subst hz
  all_goals
    go_enter Try.func4, Try.ntmps4
    go_wp2_with fail
    refine (awake_any _).mono ?_
    rintro e w1 ⟨rfl, hb⟩
    have HB := Lib.hid hb; clear hb
    go_wp2_with fail
    refine (H1.out _).mono ?_
    rintro e w2 ⟨rfl, rfl⟩
    go_wp2_with fail
    refine (H2.out _).mono ?_
    rintro e w2 ⟨rfl, rfl⟩
    go_wp2_with fail
    refine (H1.out _).mono ?_
    rintro e w2 ⟨rfl, rfl⟩
    go_wp2_with fail
    refine (H3.out _).mono ?_
    rintro e w2 ⟨rfl, rfl⟩
    go_wp2_with fail
    refine (H4.out _).mono ?_
    rintro e w2 ⟨rfl, rfl⟩
    go_wp2_with fail
    refine (H5.out _).mono ?_
    rintro e w2 ⟨rfl, rfl⟩
    go_wp2_with fail
    refine (H6.out _).mono ?_
    rintro e w2 ⟨rfl, rfl⟩
    go_wp2_with fail
    refine (H1.out _).mono ?_
    rintro e w2 ⟨rfl, rfl⟩
    go_wp2_with fail
    refine (H7.out _).mono ?_
    rintro e w2 ⟨rfl, rfl⟩
    go_wp2_with fail
    refine (H8.out _).mono ?_
    rintro e w2 ⟨rfl, rfl⟩
    go_wp2_with fail
    refine (H9.out _).mono ?_
    rintro e w2 ⟨rfl, rfl⟩
    go_wp2_with fail
    refine (H1.out _).mono ?_
    rintro e w2 ⟨rfl, rfl⟩
    go_wp2
    go_ret
    exact ⟨rfl, HB.out⟩

theorem walk_field (a b c : Nat) (w : World) (ha : a < 256) (hb : b < 256) (hc : c < 256) :
    Calls Try.prog 4 #[.int .u8 a, .int .u8 b, .int .u8 c] w fun e w' => e = .returned (.bool true) ∧ Below w.heap.size w w' := by
  have hbc : b ^^^ c < 256 := Nat.xor_lt_two_pow (n := 8) hb hc
  have h0 := times_eq_zero ha hb
  refine walk_field0 a b c (b ^^^ c) (times a b) (times (times a b) c) (times b c) (times a (b ^^^ c)) (times a c) w _ _ _ (timesIs ha hb rfl) (timesIs hb ha (times_comm hb ha)) (timesIs (times_lt ha b) hc rfl) (timesIs hb hc rfl)
    (timesIs ha (times_lt hb c) (times_assoc ha hb c).symm) (timesIs ha hbc rfl) (timesIs ha hc rfl) (timesIs ha (by decide) (times_one ha)) (timesIs ha (by decide) (times_zero a))
    (u8_xor_nat b c hb hc) (by rw [times_add]; exact u8_xor_nat _ _ (times_lt ha b) (times_lt ha c)) rfl rfl rfl ?_
  rw [Bool.eq_iff_iff]
  simp only [Bool.or_eq_true, beq_iff_eq]
  omega

end Aes
end Go.Proofs.Ytbocfmedkkgheaa
