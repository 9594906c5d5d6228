/-
  The contract of the reference's Do. Conditions: the table is in order, and it has no more than nine hundred entries.
-/
import Derived.Test.YtelgglnamojegaaDoNew
import Derived.Test.YtelgglnamojegaaDoNewN
import Derived.Test.YtelgglnamojegaaDoFull2
import Derived.Test.YtelgglnamojegaaDoFull2N
namespace Go.Proofs.Ytelgglnamojegaa
open Go.ChangeShapes Go.WideShapes Go.ChangeAt Go.RowKit
set_option linter.unusedVariables false

/-- Do tells what the step says, and leaves it. -/
theorem do_any {w : World} {c : Nat} {vk vv : Value} {most : Nat} {es fs : List (Int × ByteArray)} (kind : Nat) (k : Int) (y : ByteArray) (s : ByteArray) (x : Int) (tb : Bool) (h : RTab w c vk vv most es) (hs : Step most es k y (kind % 4) s x tb fs) (hfew : es.length ≤ 900) :
    Calls Try.prog 8 #[.pointer (some ⟨c, 0, none⟩), .agg #[.int .u8 kind, .int .i64 k, .string y]] w fun e w' => e = .returned (toldV s x tb) ∧ RAfter w c vk vv most fs w' := by
  generalize hm : kind % 4 = m at hs
  have hcast : (kind : Int) % 4 = (m : Int) := by omega
  cases hs with
  | getHit i z hh hz => exact do_get_hit kind k y s i h hcast hh hz (by omega)
  | getMiss hh => exact do_miss_zero kind k y h (.inl hcast) hh (by omega)
  | dropHit i hh => exact do_drop_hit kind k y i h hcast hh (by omega)
  | dropMiss hh => exact do_miss_zero kind k y h (.inr hcast) hh (by omega)
  | putHit i hh => exact do_put_hit kind k y i h hcast hh (by omega)
  | pushHit i hh => exact do_push_hit kind k y i h hcast hh (by omega)
  | putFull hh hr => exact do_put_full kind k y h hcast hh (by omega) hr
  | pushZero h1 h2 => subst h1; subst h2; exact do_push_zero kind k y h hcast
  | putNew hh hr =>
    rcases Nat.eq_zero_or_pos es.length with h0 | h0
    · have := List.eq_nil_of_length_eq_zero h0
      subst this
      exact do_new_nil kind k y false h (by rw [hcast]; rfl) (by rw [hcast]; rfl) (by rw [hcast]; rfl) hr
    · exact do_new kind k y false h (by rw [hcast]; rfl) (by rw [hcast]; rfl) (by rw [hcast]; rfl) hh (by omega) hr h0
  | pushNew hh hr =>
    rcases Nat.eq_zero_or_pos es.length with h0 | h0
    · have := List.eq_nil_of_length_eq_zero h0
      subst this
      exact do_new_nil kind k y true h (by rw [hcast]; rfl) (by rw [hcast]; rfl) (by rw [hcast]; rfl) hr
    · exact do_new kind k y true h (by rw [hcast]; rfl) (by rw [hcast]; rfl) (by rw [hcast]; rfl) hh (by omega) hr h0
  | pushFull e0 r h1 hh hr =>
    subst h1
    obtain ⟨x0, y0⟩ := e0
    rcases Nat.eq_zero_or_pos r.length with h0 | h0
    · have := List.eq_nil_of_length_eq_zero h0
      subst this
      exact do_full_nil kind k y x0 y0 h hcast hh (by simpa using hr.symm)
    · exact do_full kind k y x0 y0 h hcast hh (by simp at hfew; omega) (by simp at hr; omega) h0

end Go.Proofs.Ytelgglnamojegaa
