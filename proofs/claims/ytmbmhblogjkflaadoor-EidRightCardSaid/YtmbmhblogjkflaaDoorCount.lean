/-
  Contracts of dromondref02.Count and Few. Conditions: the item lies in memory.
-/
import Derived.Test.YtmbmhblogjkflaaDoorDeep
namespace Go.Proofs.YtmbmhblogjkflaaDoor
open Go.ChangeShapes Go.WideShapes Go.ChangeAt Go.RowKit
open Plain
set_option linter.unusedVariables false

mutual
/-- How many items, and bytes, as far as so many. -/
def countOf : It → Nat → Nat
  | .mk _ _ s l _, m => countL l (1 + s.size) m
/-- The same for a list, with what is counted already. -/
def countL : List It → Nat → Nat → Nat
  | [], c, _ => c
  | x :: r, c, m => if c ≤ m then countL r (c + countOf x (m - c)) m else c
end

theorem countL_le (l : List It) : (∀ x ∈ l, ∀ m, countOf x m ≤ m + 140737488355329) → ∀ c m, c ≤ m + 140737488355329 → countL l c m ≤ m + 140737488355329 := by
  induction l with
  | nil => intro _ c m h; exact h
  | cons x r ih =>
    intro hx c m h
    simp only [countL]
    split
    · rename_i hc
      refine ih (fun y hy => hx y (List.mem_cons_of_mem _ hy)) _ _ ?_
      have := hx x List.mem_cons_self (m - c)
      omega
    · exact h

theorem countL_stop (l : List It) (c m : Nat) (h : ¬ c ≤ m) : countL l c m = c := by
  cases l with
  | nil => rfl
  | cons x r => simp only [countL, if_neg h]

inductive AllFit : It → Prop where
  | mk (x : It) (h : Fits x) (hl : ∀ y ∈ x.l, AllFit y) : AllFit x

theorem Lies.allFit {w : World} {B : Nat} {x : It} {v : Value} (h : Lies w B x v) : AllFit x := by
  induction h with
  | mk x A cap sl hf he hr ih =>
    refine .mk x hf fun y hy => ?_
    obtain ⟨i, hi, rfl⟩ := List.getElem_of_mem hy
    exact ih i _ (List.getElem?_eq_getElem hi)

theorem countOf_le (x : It) : AllFit x → ∀ m, countOf x m ≤ m + 140737488355329 := by
  induction x using It.ind with
  | h k n s l o ih =>
    intro hf m
    cases hf with
    | mk x hf hl =>
      simp only [countOf]
      refine countL_le l (fun y hy => ih y hy (hl y hy)) _ _ ?_
      have : s.size ≤ 140737488355328 := hf.s
      omega

set_option maxHeartbeats 1000000 in
set_option maxRecDepth 100000 in
theorem count_any (x : It) : ∀ (m : Nat) (w : World) (B : Nat) (v : Value), m ≤ 2000 → B ≤ w.heap.size → Lies w B x v →
    Calls Tryd.prog 12 #[v, .int .i64 m] w fun e w' => e = .returned (.int .i64 (countOf x m)) ∧ Below w.heap.size w w' := by
  induction x using It.ind with
  | h k n s l o ih =>
  intro m w B v hm hB hx
  have IH := Lib.hid ih; clear ih
  have hcx := countOf_le _ hx.allFit m
  obtain ⟨A, cap, rfl, hf, he⟩ := hx.out
  have HE := Lib.hid he; clear he
  have hll : l.length ≤ 140737488355328 := hf.l
  have hsl : s.size ≤ 140737488355328 := hf.s
  have hlI : (l.length : Int) ≤ 140737488355328 := by omega
  have hsI : (s.size : Int) ≤ 140737488355328 := by omega
  have hmI : (m : Int) ≤ 2000 := by omega
  have HF := Lib.hid hf; clear hf
  have HX := Lib.hid hx; clear hx
  have HL := Lib.hid hll; clear hll
  have HS := Lib.hid hsl; clear hsl
  have HCX := Lib.hid hcx; clear hcx
  simp only [itV, It.kind, It.n, It.s, It.l, It.opn]
  go_enter Tryd.func12, Tryd.ntmps12
  go_wp2
  go_loopw [5, 6] (fun a i wr => ∃ j c : Nat, j ≤ l.length ∧ i = .int .i64 j ∧ a = .int .i64 c ∧ countOf (.mk k n s l o) m = countL (l.drop j) c m ∧ c ≤ 140737488355328 * 2 ∧ Boxed w (.mk k n s l o) (.slice A l.length cap) wr) (fun _ i _ => l.length - (intOf i).toNat)
  case atStart => exact ⟨0, 1 + s.size, Nat.zero_le _, rfl, by go_num, rfl, by have := HS.out; omega, Boxed.new w _ _⟩
  case round =>
    obtain ⟨j, c, hj, rfl, rfl, hcn, hc2, hbx⟩ := hrel
    have c3 := hbx.c3
    by_cases hlt : j < l.length
    · rw [List.drop_eq_getElem_cons hlt] at hcn
      by_cases hcm : c ≤ m
      · simp only [countL, if_pos hcm] at hcn
        obtain ⟨b, off, sl, rfl, hb, h5, hy⟩ := HE.out j _ (List.getElem?_eq_getElem hlt)
        have hd := countOf_le l[j] hy.allFit (m - c)
        have hcall := fun W (h : Boxed w (.mk k n s l o) (.slice (some ⟨b, off, none⟩) l.length cap) W) => IH.out l[j] (List.getElem_mem hlt) (m - c) W B (itV l[j] sl) (by omega) (Nat.le_trans hB (Nat.le_of_lt h.lt)) (hy.keep (h.below.mono hB))
        have a5 := h5.below (hbx.below.mono hB) hb
        have l0 := a5.c0
        have l1 := a5.c1
        have l2 := a5.c2
        have l3 := a5.c3
        have l4 := a5.c4
        generalize l[j] = y at *
        have hmc : ((m - c : Nat) : Int) = (m : Int) - (c : Int) := by omega
        generalize hp : countOf y (m - c) = p at *
        rw [hmc] at hcall
        clear hmc
        have hpI : (p : Int) ≤ 140737488355328 * 2 := by omega
        have hsum : c + p ≤ 140737488355328 * 2 := by omega
        have hcI : (c : Int) ≤ 2000 := by omega
        have hcmI : (c : Int) ≤ (m : Int) := by omega
        have HP := Lib.hid hp; clear hp
        have HN := Lib.hid hcn; clear hcn
        have HC := Lib.hid hcall; clear hcall
        have HB := Lib.hid hbx; clear hbx
        have HD := Lib.hid hd; clear hd
        have HSUM := Lib.hid hsum; clear hsum
        have HC2 := Lib.hid hc2; clear hc2
        simp only [itV] at HC
        clear a5 h5 hy
        go_wp2_with fail
        refine (HC.out _ HB.out).mono ?_
        rintro e w' ⟨rfl, hb'⟩
        go_wp2
        go_roundw
        case rel =>
          refine ⟨j + 1, c + p, by omega, by go_num, by go_num, HN.out, HSUM.out, HB.out.next hb'⟩
        case measure => simp [intOf]; omega
      · rw [countL_stop _ _ _ hcm] at hcn
        have gcm : decide ((c : Int) ≤ (m : Int)) = false := by simp; omega
        have HN := Lib.hid hcn; clear hcn
        have HC2 := Lib.hid hc2; clear hc2
        go_wp2
        go_ret
        exact ⟨by rw [HN.out]; rfl, hbx.below⟩
    · obtain rfl : j = l.length := by omega
      rw [List.drop_length] at hcn
      simp only [countL] at hcn
      have HN := Lib.hid hcn; clear hcn
      have HC2 := Lib.hid hc2; clear hc2
      go_wp2
      go_ret
      exact ⟨by rw [HN.out]; rfl, hbx.below⟩

/-- An item of a size that is looked at. -/
def fewB (x : It) (m : Nat) : Bool := decide (deepOf x 9 ≤ 9) && decide (countOf x m ≤ m)

end Go.Proofs.YtmbmhblogjkflaaDoor
