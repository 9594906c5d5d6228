/-
  Contracts of eid.inNode, inService, serviceAt, isName, Right, None, and the law's own awake. Conditions: names are of at most 2^40 bytes.
-/
import Derived.Test.YtmbmhblogjkflaaDoorEib
import Derived.Test.YtmbmhblogjkflaaDoorEidRun
import Derived.Laws.RangeAny
import Derived.LoopTactic
namespace Go.Proofs.YtmbmhblogjkflaaDoor
namespace Eid
open Go.ChangeShapes Go.WideShapes Go.ChangeAt Go.RowKit
set_option linter.unusedVariables false
set_option maxRecDepth 100000

theorem inService_any (c : Nat) (w : World) : Calls Tryd.prog 52 #[.int .i32 c] w fun e w' => e = .returned (.bool (decide (33 ≤ c ∧ c ≤ 126))) ∧ w' = w := by
  by_cases h1 : 33 ≤ c
  · have q1 : decide ((33 : Int) ≤ (c : Int)) = true := by simp; omega
    by_cases h2 : c ≤ 126
    · have q2 : decide ((c : Int) ≤ 126) = true := by simp; omega
      have hb : decide (33 ≤ c ∧ c ≤ 126) = true := decide_eq_true ⟨h1, h2⟩
      have HB := Lib.hid hb; clear hb
      go_enter Tryd.func52, Tryd.ntmps52
      go_wp2
      go_ret
      exact ⟨by rw [HB.out]; rfl, rfl⟩
    · have q2 : decide ((c : Int) ≤ 126) = false := by simp; omega
      have hb : decide (33 ≤ c ∧ c ≤ 126) = false := decide_eq_false fun h => h2 h.2
      have HB := Lib.hid hb; clear hb
      go_enter Tryd.func52, Tryd.ntmps52
      go_wp2
      go_ret
      exact ⟨by rw [HB.out]; rfl, rfl⟩
  · have q1 : decide ((33 : Int) ≤ (c : Int)) = false := by simp; omega
    have hb : decide (33 ≤ c ∧ c ≤ 126) = false := decide_eq_false fun h => h1 h.1
    have HB := Lib.hid hb; clear hb
    go_enter Tryd.func52, Tryd.ntmps52
    go_wp2
    go_ret
    exact ⟨by rw [HB.out]; rfl, rfl⟩

/-- One row of tests. -/
theorem inNode_by (c : Nat) (a b d e f g : Bool) (w : World) (ha : decide ((97 : Int) ≤ (c : Int)) = a) (hb : decide ((c : Int) ≤ 122) = b) (hd : decide ((48 : Int) ≤ (c : Int)) = d) (he : decide ((c : Int) ≤ 57) = e) (hf : ((c : Int) == 45) = f) (hg : ((c : Int) == 46) = g) :
    Calls Tryd.prog 53 #[.int .i32 c] w fun r w' => r = .returned (.bool (((a && b) || (d && e)) || f || g)) ∧ w' = w := by
  cases a <;> cases b <;> cases d <;> cases e <;> cases f <;> cases g <;> first
    | (exfalso; simp only [decide_eq_true_eq, decide_eq_false_iff_not, beq_iff_eq, beq_eq_false_iff_ne, ne_eq] at ha hb hd he hf hg; omega)
    | (go_enter Tryd.func53, Tryd.ntmps53
       go_wp2
       go_ret
       exact ⟨rfl, rfl⟩)
theorem inNode_any (c : Nat) (w : World) : Calls Tryd.prog 53 #[.int .i32 c] w fun r w' => r = .returned (.bool (decide (isLetter c))) ∧ w' = w := by
  refine (inNode_by c _ _ _ _ _ _ w rfl rfl rfl rfl rfl rfl).mono ?_
  rintro r w' ⟨rfl, h⟩
  refine ⟨?_, h⟩
  rw [Ending.returned.injEq, Value.bool.injEq, Bool.eq_iff_iff, decide_eq_true_iff (p := isLetter c)]
  unfold isLetter
  simp only [Bool.or_eq_true, Bool.and_eq_true, decide_eq_true_eq, beq_iff_eq]
  omega

theorem iterPos_le (s : ByteArray) (pos : Nat) (h : pos < s.size) : 1 ≤ (Utf8.decode s pos).2 := by
  by_cases ha : (s[pos]'h).toNat < 128
  · rw [decode_ascii s pos h ha]; exact Nat.le_refl _
  · exact (decode_high s pos h (by omega)).2

set_option maxHeartbeats 4000000 in
theorem serviceAt_any (s : ByteArray) (hs : s.size ≤ 1099511627776) (w : World) : Calls Tryd.prog 40 #[.string s] w fun e w' => e = .returned (.int .i64 (svc (nb s) : Nat)) ∧ Below w.heap.size w w' := by
  have HS := Lib.hid (fun (c : Nat) (w : World) => inService_any c w)
  have HN := Lib.hid (fun (c : Nat) (w : World) => inNode_any c w)
  have HSZ := Lib.hid hs; clear hs
  go_enter Tryd.func40, Tryd.ntmps40
  go_wp2_with fail
  go_loopw [3] (fun v wr => ∃ (pos sv : Nat), wr = w.iter s pos ∧ v = .int .i64 (sv : Nat) ∧ pos ≤ s.size ∧ runS pos sv ((nb s).drop pos) = svc (nb s)) (fun _ wr => s.size - wr.iterPos w.heap.size)
  case atStart => exact ⟨0, 0, rfl, rfl, Nat.zero_le _, rfl⟩
  case round =>
    obtain ⟨pos, sv, rfl, rfl, hle, hrun⟩ := hrel
    by_cases hp : pos < s.size
    · obtain ⟨x, hx⟩ : ∃ x, x = s[pos].toNat := ⟨_, rfl⟩
      have hxe : (nb s)[pos]? = some x := by rw [nb_get s pos hp, hx]
      rw [runS_step _ _ _ _ hxe] at hrun
      have hs := HSZ.out
      have hj1 : IntKind.i64.wrap ((pos : Int) + 1) = ((pos + 1 : Nat) : Int) := by rw [IntKind.wrap_i64]; omega
      have hmes : s.size - (w.iter s (pos + 1)).iterPos w.heap.size < s.size - (w.iter s pos).iterPos w.heap.size := by simp; omega
      have HME := Lib.hid hmes; clear hmes
      have hple : pos + 1 ≤ s.size := hp
      obtain ⟨r, p', hr, hnx, hp'⟩ : ∃ r p', ((x < 128 ∧ r = x ∧ p' = pos + 1) ∨ (128 ≤ x ∧ 128 ≤ r)) ∧ (∀ ty, (Instr.next (.pointer (some ⟨w.heap.size, 0, none⟩)) true ty).run Tryd.prog (w.iter s pos) = .ok (.tuple #[.bool true, .int .i64 pos, .int .i32 (r : Nat)]) (w.iter s p')) ∧ True := by
        by_cases ha : x < 128
        · have ha' : (s[pos]'hp).toNat < 128 := by omega
          refine ⟨x, pos + 1, .inl ⟨ha, rfl, rfl⟩, fun ty => ?_, trivial⟩
          rw [run_next_ascii w s pos ty hp ha', hx]
        · exact ⟨_, _, .inr ⟨by omega, (decode_high s pos hp (by omega)).1⟩, fun ty => run_next_any w s pos ty hp, trivial⟩
      clear hx hxe
      by_cases h0 : 0 < sv
      · rw [if_pos h0] at hrun
        have g0 : decide ((0 : Int) < (sv : Int)) = true := by simp; omega
        by_cases hc : 33 ≤ x ∧ x ≤ 126
        · rcases hr with ⟨hx1, rfl, rfl⟩ | ⟨hx1, hx2⟩
          · rw [if_pos hc] at hrun
            have HR := Lib.hid hrun; clear hrun
            have HL := Lib.hid (fun w => HS.out r w)
            rw [decide_eq_true hc] at HL
            go_wp2_with fail
            refine (HL.out _).mono ?_
            rintro e w' ⟨rfl, rfl⟩
            go_wp2
            go_roundw
            case rel => exact ⟨pos + 1, sv, rfl, rfl, hple, HR.out⟩
            case measure => exact HME.out
          · omega
        · rw [if_neg hc] at hrun
          have hq : ¬ (33 ≤ r ∧ r ≤ 126) := by rcases hr with ⟨hx1, rfl, rfl⟩ | ⟨hx1, hx2⟩ <;> omega
          have HR := Lib.hid hrun; clear hrun
          have HL := Lib.hid (fun w => HS.out r w)
          rw [decide_eq_false hq] at HL
          go_wp2_with fail
          refine (HL.out _).mono ?_
          rintro e w' ⟨rfl, rfl⟩
          go_wp2
          go_ret
          exact ⟨by rw [← HR.out]; rfl, (Below.refl _ _).alloc (Nat.le_refl _) _⟩
      · obtain rfl : sv = 0 := by omega
        rw [if_neg h0] at hrun
        by_cases h2 : pos < 2
        · have g2 : decide ((pos : Int) < 2) = true := by simp; omega
          rw [if_pos h2] at hrun
          by_cases hc : x = 47
          · rcases hr with ⟨hx1, rfl, rfl⟩ | ⟨hx1, hx2⟩
            · rw [if_pos hc] at hrun
              subst hc
              have HR := Lib.hid hrun; clear hrun
              go_wp2
              go_roundw
              case rel => exact ⟨pos + 1, 0, rfl, rfl, hple, HR.out⟩
              case measure => exact HME.out
            · omega
          · rw [if_neg hc] at hrun
            have hq : ((r : Int) != 47) = true := by
              have : ¬ r = 47 := by rcases hr with ⟨hx1, rfl, rfl⟩ | ⟨hx1, hx2⟩ <;> omega
              simp; omega
            have HR := Lib.hid hrun; clear hrun
            go_wp2
            go_ret
            exact ⟨by rw [← HR.out]; rfl, (Below.refl _ _).alloc (Nat.le_refl _) _⟩
        · have g2 : decide ((pos : Int) < 2) = false := by simp; omega
          rw [if_neg h2] at hrun
          by_cases h3 : x = 47 ∧ 2 < pos
          · rcases hr with ⟨hx1, rfl, rfl⟩ | ⟨hx1, hx2⟩
            · rw [if_pos h3] at hrun
              have g3 : decide ((2 : Int) < (pos : Int)) = true := by simp; omega
              obtain ⟨rfl, h3⟩ := h3
              have HR := Lib.hid hrun; clear hrun
              go_wp2
              go_roundw
              case rel => exact ⟨pos + 1, pos + 1, rfl, rfl, hple, HR.out⟩
              case measure => exact HME.out
            · omega
          · rw [if_neg h3] at hrun
            have hnl : x = 47 → ¬ isLetter x := fun e h => letter_not h e
            have hll : isLetter x ↔ isLetter r := by
              rcases hr with ⟨hx1, rfl, rfl⟩ | ⟨hx1, hx2⟩
              · exact Iff.rfl
              · unfold isLetter; omega
            by_cases hl : isLetter x
            · rcases hr with ⟨hx1, rfl, rfl⟩ | ⟨hx1, hx2⟩
              · rw [if_pos hl] at hrun
                have hne := letter_not hl
                have g4 : decide ((r : Int) = 47) = false := by simp; omega
                have HR := Lib.hid hrun; clear hrun
                have HL := Lib.hid (fun w => HN.out r w)
                rw [decide_eq_true hl] at HL
                clear hnl hll h3
                go_wp2_with fail
                refine (HL.out _).mono ?_
                rintro e w' ⟨rfl, rfl⟩
                go_wp2
                go_roundw
                case rel => exact ⟨pos + 1, 0, rfl, rfl, hple, HR.out⟩
                case measure => exact HME.out
              · exact absurd hl (by unfold isLetter; omega)
            · rw [if_neg hl] at hrun
              have HR := Lib.hid hrun; clear hrun
              have HL := Lib.hid (fun w => HN.out r w)
              rw [decide_eq_false (fun h => hl (hll.2 h))] at HL
              by_cases hc : r = 47
              · have hpos : ¬ 2 < pos := fun h => by
                  rcases hr with ⟨hx1, rfl, rfl⟩ | ⟨hx1, hx2⟩
                  · exact h3 ⟨hc, h⟩
                  · omega
                have g3 : decide ((2 : Int) < (pos : Int)) = false := by simp; omega
                subst hc
                clear hnl hll h3 hr hl
                go_wp2_with fail
                refine (HL.out _).mono ?_
                rintro e w' ⟨rfl, rfl⟩
                go_wp2
                go_ret
                exact ⟨by rw [← HR.out]; rfl, (Below.refl _ _).alloc (Nat.le_refl _) _⟩
              · have g4 : decide ((r : Int) = 47) = false := by simp; omega
                clear hnl hll h3 hr hl
                go_wp2_with fail
                refine (HL.out _).mono ?_
                rintro e w' ⟨rfl, rfl⟩
                go_wp2
                go_ret
                exact ⟨by rw [← HR.out]; rfl, (Below.refl _ _).alloc (Nat.le_refl _) _⟩
    · obtain rfl : pos = s.size := by omega
      rw [runS_end _ _ _ (by rw [nb_length]; exact Nat.le_refl _)] at hrun
      have hnx : ∀ ty, (Instr.next (.pointer (some ⟨w.heap.size, 0, none⟩)) true ty).run Tryd.prog (w.iter s s.size) = _ := fun ty => run_next_end w s s.size ty hp
      have HR := Lib.hid hrun; clear hrun
      go_wp2
      go_ret
      exact ⟨by rw [← HR.out]; rfl, (Below.refl _ _).alloc (Nat.le_refl _) _⟩
end Eid
end Go.Proofs.YtmbmhblogjkflaaDoor
