/-
  The walk of ItemParses. Conditions: none.
-/
import Derived.Test.YtpmepnejjjlodaaFaultO
import Derived.Test.YtpmepnejjjlodaaParse
namespace Go.Proofs.Ytpmepnejjjlodaa
open Go.ChangeShapes Go.WideShapes Go.ChangeAt Go.RowKit
open Plain
set_option linter.unusedVariables false

theorem kindOk_or {m : Nat} (h : kindOk m = true) : m = 0 ∨ m = 2 ∨ m = 3 ∨ m = 4 := by
  simp [kindOk] at h
  omega

/-- dromondref02.Fault tells what readItem tells. -/
theorem fault_any (s : ByteArray) (hs : s.size ≤ 800) : ∀ (d : Nat), d ≤ 8 → ∀ (w : World) (p : Nat), p ≤ s.size → Calls Try.prog 16 #[.string s, .int .i64 p, .int .i64 d] w (FaultPost p (readItem d (s.data.toList.drop p)) w) := by
  intro d
  induction d with
  | zero =>
    intro hd w p hp
    cases hx : headL (s.data.toList.drop p) with
    | none =>
      have hr : readItem 0 (s.data.toList.drop p) = .err 0 2 := by simp only [readItem, hx]
      rw [hr]
      exact fault_none s p 0 w hs hp hx
    | some x =>
      cases hk : kindOk x.major
      · have hr : readItem 0 (s.data.toList.drop p) = .err 0 2 := by simp [readItem, hx, hk]
        rw [hr]
        exact fault_kind s p 0 w hs hp x hx hk
      · have hr : readItem 0 (s.data.toList.drop p) = .err 0 3 := by simp [readItem, hx, hk]
        rw [hr]
        exact fault_deep s p w hs hp x hx (kindOk_or hk)
  | succ d ih =>
    intro hd w p hp
    cases hx : headL (s.data.toList.drop p) with
    | none =>
      have hr : readItem (d + 1) (s.data.toList.drop p) = .err 0 2 := by simp only [readItem, hx]
      rw [hr]
      exact fault_none s p (d + 1) w hs hp hx
    | some x =>
      cases hk : kindOk x.major
      · have hr : readItem (d + 1) (s.data.toList.drop p) = .err 0 2 := by
          simp [kindOk] at hk
          simp [readItem, hx, hk]
        rw [hr]
        exact fault_kind s p (d + 1) w hs hp x hx hk
      · have hlen : (s.data.toList.drop p).length = s.size - p := by rw [List.length_drop, size_data]
        obtain ⟨z1, z9, zl, z7, z64, zop⟩ := headL_size hx
        rcases kindOk_or hk with hm | hm | hm | hm
        · have hr : readItem (d + 1) (s.data.toList.drop p) = .ok (.mk 0 x.n ⟨#[]⟩ [] false) x.size := by simp [readItem, hx, hm]
          rw [hr]
          exact fault_num s p (d + 1) w hs hp x hx (by omega) hm
        · by_cases hbad : x.op = true ∨ s.size - (p + x.size) < x.n
          · rw [(str_bad d hx hm (.inl rfl) hbad).2]
            exact fault_str_bad s p (d + 1) w hs hp x hx (by omega) (.inl hm) hbad
          · rw [(str_good d hx hm (.inl rfl) (by omega) (by omega) hbad).2.1]
            simp only [not_or] at hbad
            exact fault_str_good s p (d + 1) w hs hp x hx (by omega) (.inl hm) (by cases ho : x.op <;> simp_all) (by omega)
        · by_cases hbad : x.op = true ∨ s.size - (p + x.size) < x.n
          · rw [(str_bad d hx hm (.inr rfl) hbad).2]
            exact fault_str_bad s p (d + 1) w hs hp x hx (by omega) (.inr hm) hbad
          · rw [(str_good d hx hm (.inr rfl) (by omega) (by omega) hbad).2.1]
            simp only [not_or] at hbad
            exact fault_str_good s p (d + 1) w hs hp x hx (by omega) (.inr hm) (by cases ho : x.op <;> simp_all) (by omega)
        · have ih' := ih (by omega)
          cases ho : x.op
          · by_cases hn : x.n ≤ 1000
            · have hr : readItem (d + 1) (s.data.toList.drop p) = arrayRes false x.size (readMany (readItem d) x.n (s.data.toList.drop (p + x.size))) := by
                simp only [readItem, hx, hm]
                simp [ho, show ¬ 1000 < x.n by omega, List.drop_drop]
              rw [hr]
              exact fault_closed d s hs (by omega) ih' w p hp x hx hm ho hn
            · have hr : readItem (d + 1) (s.data.toList.drop p) = .err 0 4 := by
                simp only [readItem, hx, hm]
                simp [ho, show 1000 < x.n by omega]
              rw [hr]
              exact fault_long s p (d + 1) w hs hp x hx (by omega) hm ho (by omega)
          · have hr : readItem (d + 1) (s.data.toList.drop p) = arrayRes true x.size (readOpen (readItem d) 1000 (s.data.toList.drop (p + x.size))) := by
              simp only [readItem, hx, hm]
              simp [ho, List.drop_drop]
            rw [hr]
            exact fault_open d s hs (by omega) ih' w p hp x hx hm ho

end Go.Proofs.Ytpmepnejjjlodaa
