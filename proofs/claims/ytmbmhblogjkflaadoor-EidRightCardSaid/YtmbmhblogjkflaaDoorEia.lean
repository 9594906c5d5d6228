/-
  Contracts of dromondref10.letter and Slash. Conditions: none.
-/
import Derived.Test.YtmbmhblogjkflaaDoorProg
import Derived.Test.YtmbmhblogjkflaaDoorEidMath
import Derived.WalkKit
import Derived.ProofKit
import Derived.OpenShut
import Derived.WalkSpells
import Derived.WalkLawsBesides
import Derived.Outline
import Derived.Lib.Hide
import Derived.RegionTactic
import Derived.ChangeAlike
import Derived.BigQuiet
namespace Go.Proofs.YtmbmhblogjkflaaDoor
namespace Eid
open Go.ChangeShapes Go.WideShapes Go.ChangeAt Go.RowKit
set_option linter.unusedVariables false
set_option maxRecDepth 100000

set_option maxHeartbeats 1000000 in
theorem rletter (c : Nat) (hc : c < 256) (w : World) : Calls Tryd.prog 22 #[.int .u8 c] w fun e w' => e = .returned (.bool (decide (isLetter c))) ∧ w' = w := by
  go_enter Tryd.func22, Tryd.ntmps22
  go_wp2
  generalize hS : (⟨#[97, 98, 99, 100, 101, 102, 103, 104, 105, 106, 107, 108, 109, 110, 111, 112, 113, 114, 115, 116, 117, 118, 119, 120, 121, 122, 48, 49, 50, 51, 52, 53, 54, 55, 56, 57, 45, 46]⟩ : ByteArray) = S
  have hsz : S.size = 38 := by rw [← hS]; rfl
  have hmem : c ∈ nb S ↔ isLetter c := by rw [← hS]; exact letB_mem c hc
  have HM := Lib.hid hmem; clear hmem hS
  go_loopw [3] (fun i wr => ∃ k : Nat, k ≤ 38 ∧ i = .int .i64 (k : Nat) ∧ wr = w ∧ ∀ j, j < k → (nb S)[j]? ≠ some c) (fun i _ => 38 - (intOf i).toNat)
  case atStart => exact ⟨0, Nat.zero_le _, rfl, rfl, fun j hj => by omega⟩
  case round =>
    obtain ⟨k, hk, rfl, rfl, hno⟩ := hrel
    by_cases hlt : k < 38
    · have hkb : k < S.size := by omega
      obtain ⟨x, hx⟩ : ∃ x, x = S[k].toNat := ⟨_, rfl⟩
      have hxe : (nb S)[k]? = some x := by rw [nb_get S k hkb, hx]
      have xa : (S[k].toNat : Int) = (x : Int) := by rw [hx]
      by_cases hxc : x = c
      · have hl : decide (isLetter c) = true := by
          rw [decide_eq_true_eq]; exact HM.out.1 (hxc ▸ List.mem_of_getElem? hxe)
        have hq : decide ((x : Int) = (c : Int)) = true := by simp; omega
        have HL := Lib.hid hl
        clear hx hxe hno hl
        go_wp2
        go_ret
        exact ⟨by rw [HL.out]; rfl, rfl⟩
      · have hq : decide ((x : Int) = (c : Int)) = false := by simp; omega
        have HN := Lib.hid (show ∀ j, j < k + 1 → (nb S)[j]? ≠ some c from fun j hj => by
          rcases Nat.lt_or_ge j k with h | h
          · exact hno j h
          · obtain rfl : j = k := by omega
            rw [hxe]; exact fun e => hxc (Option.some.inj e))
        clear hx hxe hno
        go_wp2
        go_roundw
        case rel => exact ⟨k + 1, by omega, rfl, trivial, HN.out⟩
        case measure => simp [intOf]; omega
    · obtain rfl : k = 38 := by omega
      have hl : decide (isLetter c) = false := by
        rw [decide_eq_false_iff_not]
        intro h
        obtain ⟨j, hj⟩ := List.getElem?_of_mem (HM.out.2 h)
        have := (List.getElem?_eq_some_iff.1 hj).1
        rw [nb_length, hsz] at this
        exact hno j this hj
      have HL := Lib.hid hl
      clear hno hl
      go_wp2
      go_ret
      exact ⟨by rw [HL.out]; rfl, rfl⟩

set_option maxHeartbeats 1000000 in
theorem rslash (b : ByteArray) (hb : b.size ≤ 140737488355328) (w : World) : Calls Tryd.prog 21 #[.string b] w fun e w' => e = .returned (.int .i64 (slashOf (nb b) : Nat)) ∧ w' = w := by
  go_enter Tryd.func21, Tryd.ntmps21
  go_wp2
  go_loopw [3] (fun i wr => ∃ k : Nat, 2 ≤ k ∧ (k ≤ b.size ∨ k = 2) ∧ i = .int .i64 (k : Nat) ∧ wr = w ∧ ∀ j, 2 ≤ j → j < k → (nb b)[j]? ≠ some 47) (fun i _ => b.size - (intOf i).toNat)
  case atStart => exact ⟨2, Nat.le_refl _, .inr rfl, rfl, rfl, fun j h2 hj => by omega⟩
  case round =>
    obtain ⟨k, hk2, hk, rfl, rfl, hno⟩ := hrel
    by_cases hlt : k < b.size
    · obtain ⟨x, hx⟩ : ∃ x, x = b[k].toNat := ⟨_, rfl⟩
      have hxe : (nb b)[k]? = some x := by rw [nb_get b k hlt, hx]
      have xa : (b[k].toNat : Int) = (x : Int) := by rw [hx]
      have hkI : (k : Int) < (b.size : Int) := by omega
      have hj1 : IntKind.i64.wrap ((k : Int) + 1) = ((k + 1 : Nat) : Int) := by rw [IntKind.wrap_i64]; omega
      by_cases hxc : x = 47
      · have hl : slashOf (nb b) = k := slashOf_at hk2 (by rw [hxe, hxc]) hno
        have hq : decide ((x : Int) = 47) = true := by simp; omega
        have HL := Lib.hid hl
        clear hx hxe hno hl
        go_wp2
        go_ret
        exact ⟨by rw [HL.out]; rfl, rfl⟩
      · have hq : decide ((x : Int) = 47) = false := by simp; omega
        have HN := Lib.hid (show ∀ j, 2 ≤ j → j < k + 1 → (nb b)[j]? ≠ some 47 from fun j h2 hj => by
          rcases Nat.lt_or_ge j k with h | h
          · exact hno j h2 h
          · obtain rfl : j = k := by omega
            rw [hxe]; exact fun e => hxc (Option.some.inj e))
        clear hx hxe hno
        go_wp2
        go_roundw
        case rel => exact ⟨k + 1, by omega, .inl (by omega), rfl, trivial, HN.out⟩
        case measure => simp [intOf]; omega
    · have hl : slashOf (nb b) = 0 := slashOf_none fun j h2 e => by
        have := (List.getElem?_eq_some_iff.1 e).1
        rw [nb_length] at this
        exact hno j h2 (by omega) e
      have hkI : ¬ ((k : Int) < (b.size : Int)) := by omega
      have hkD : decide ((k : Int) < (b.size : Int)) = false := by simp; omega
      have HL := Lib.hid hl
      clear hno hl
      go_wp2
      go_ret
      exact ⟨by rw [HL.out]; rfl, rfl⟩
end Eid
end Go.Proofs.YtmbmhblogjkflaaDoor
