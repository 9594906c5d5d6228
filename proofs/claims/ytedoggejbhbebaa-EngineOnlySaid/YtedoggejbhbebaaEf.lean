/-
  Contract of dromondref09.Few. Conditions: the calls lie in memory.
-/
import Derived.Test.YtedoggejbhbebaaEr
import Derived.Test.YtedoggejbhbebaaEo
import Derived.Deep.DeepCutAuto
namespace Go.Proofs.Ytedoggejbhbebaa
namespace Eng
open Go.ChangeShapes Go.WideShapes Go.ChangeAt Go.RowKit
set_option linter.unusedVariables false
set_option maxRecDepth 100000

/-- A call of a size that is looked at. -/
def Small (c : Call) : Prop := c.key.size ≤ 100 ∧ c.nonce.size ≤ 40 ∧ c.beside.size ≤ 100 ∧ c.text.size ≤ 100 ∧ c.tag.size ≤ 100
/-- So many calls, of such sizes. -/
def FewP (L : Nat → Call) (len : Nat) (n : Int) : Prop := (∀ i, i < len → i < 200 → Small (L i)) ∧ (len : Int) ≤ n
theorem not_few {L : Nat → Call} {len : Nat} {n : Int} {r : Bool} (hr : r = true ↔ FewP L len n) (h : ¬ FewP L len n) : false = r := by
  cases r
  · rfl
  · exact absurd (hr.1 rfl) h
theorem few_eq {L : Nat → Call} {len : Nat} {n : Int} {r b : Bool} (hr : r = true ↔ FewP L len n) (hb : b = true ↔ FewP L len n) : b = r := by
  cases r <;> cases b <;> simp_all
def numE : Value → Int
  | .int _ n => n
  | _ => 0

set_option maxHeartbeats 4000000 in
theorem rfew (A : Option Addr) (len cap : Nat) (n : Int) (L : Nat → Call) (w : World) (hl : Lie w A len L) (r : Bool) (hr : r = true ↔ FewP L len n) :
    Calls Try.prog 13 #[.slice A len cap, .int .i64 n] w fun e w' => e = .returned (.bool r) ∧ Below w.heap.size w w' := by
  have HL := Lib.hid hl
  have HR := Lib.hid hr
  clear hl hr
  go_enter Try.func13, Try.ntmps13
  go_wp2
  go_loopw [5] (fun x wr => ∃ k : Nat, k ≤ len ∧ k ≤ 200 ∧ x = .int .i64 (k : Nat) ∧ Hid (∀ i, i < k → Small (L i)) ∧ Below w.heap.size w wr) (fun x _ => len - (numE x).toNat)
  case atStart => exact ⟨0, Nat.zero_le _, Nat.zero_le _, rfl, Lib.hid (fun i hi => absurd hi (by omega)), Below.refl _ _⟩
  case round =>
    obtain ⟨k, hk, hk2, rfl, hs, hb⟩ := hrel
    by_cases h1 : k < len
    · have g1 : (k : Int) < (len : Int) := by omega
      by_cases h2 : k < 200
      · have g2 : (k : Int) < 200 := by omega
        obtain ⟨b, off, rfl, hbs, hc⟩ := HL.out.at_ k h1
        obtain ⟨c, hce⟩ : ∃ c, c = L k := ⟨_, rfl⟩
        rw [← hce] at hc
        have at_ : ∀ j v, j < 8 → c.cells[j]? = some v → wr.cell? ⟨b, off + k * 8 + j, none⟩ = some v := fun j v hj hv => (hb.cell (p := ⟨b, off + k * 8 + j, none⟩) hbs).trans ((hc j hj).trans hv)
        have l0 : wr.cell? ⟨b, off + k * 8, none⟩ = _ := at_ 0 _ (by omega) rfl
        have l1 := at_ 1 _ (by omega) rfl
        have l2 := at_ 2 _ (by omega) rfl
        have l3 := at_ 3 _ (by omega) rfl
        have l4 := at_ 4 _ (by omega) rfl
        have l5 := at_ 5 _ (by omega) rfl
        have l6 := at_ 6 _ (by omega) rfl
        have l7 := at_ 7 _ (by omega) rfl
        have HB := Lib.hid hb
        have HC := Lib.hid (And.intro hce (And.intro h1 (And.intro h2 (And.intro hk hk2))))
        have k0 : (0 : Int) ≤ (k : Int) := by omega
        clear hb hc at_ hce h2
        go_wp2
        all_goals first
          | (go_ret; exact ⟨congrArg (fun b => Ending.returned (Value.bool b)) (show false = r from not_few HR.out (fun h => absurd (h.1 k HC.out.2.1 HC.out.2.2.1) (by rw [← HC.out.1]; unfold Small; omega))), HB.out.alloc HB.out.size _⟩)
          | go_roundw
        case rel =>
          have hsm : Small c := by unfold Small; omega
          exact ⟨k + 1, by have := HC.out.2.1; omega, by have := HC.out.2.2.1; omega, congrArg (Value.int .i64) (by omega), Lib.hid (fun i hi => by
            by_cases e : i = k
            · rw [e, ← HC.out.1]; exact hsm
            · exact hs.out i (by omega)), HB.out.alloc HB.out.size _⟩
        case measure => have := HC.out.2.1; simp [numE]; omega
      · have g2 : ¬ (k : Int) < 200 := by omega
        have HE := Lib.hid hs
        have HB := Lib.hid hb
        have hfew : decide ((len : Int) ≤ n) = true ↔ FewP L len n := by
          simp only [decide_eq_true_iff]
          exact ⟨fun h => ⟨fun i hi h200 => HE.out.out i (by omega), h⟩, fun h => h.2⟩
        clear hs hb h2
        go_wp2
        go_ret
        exact ⟨congrArg (fun b => Ending.returned (Value.bool b)) (show decide ((len : Int) ≤ n) = r from few_eq HR.out hfew), HB.out⟩
    · have g1 : ¬ (k : Int) < (len : Int) := by omega
      have HE := Lib.hid hs
      have HB := Lib.hid hb
      have hfew : decide ((len : Int) ≤ n) = true ↔ FewP L len n := by
        simp only [decide_eq_true_iff]
        exact ⟨fun h => ⟨fun i hi h200 => HE.out.out i (by omega), h⟩, fun h => h.2⟩
      clear hs hb
      go_wp2
      go_ret
      exact ⟨congrArg (fun b => Ending.returned (Value.bool b)) (show decide ((len : Int) ≤ n) = r from few_eq HR.out hfew), HB.out⟩
end Eng
end Go.Proofs.Ytedoggejbhbebaa
