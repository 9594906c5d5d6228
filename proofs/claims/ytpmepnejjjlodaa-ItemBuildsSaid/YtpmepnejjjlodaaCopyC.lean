/-
  Contract of the copier's count, at a list of two leaves. Conditions: the copier lies in memory as it was made.
-/
import Derived.Test.YtpmepnejjjlodaaCopyL
namespace Go.Proofs.Ytpmepnejjjlodaa
open Go.ChangeShapes Go.WideShapes Go.ChangeAt Go.RowKit Go.MapKept
open Plain
set_option linter.unusedVariables false

/-- How much is left of counting. -/
def leftOf (M : Nat) (w : World) : Nat :=
  (match w.heap[M]? with | some (.map _ cl) => 1 - cl | _ => 0) + (match w.heap[M + 1]? with | some (.cells cs _ _) => (match (cs[1]? : Option Value) with | some (.slice _ n _) => n | _ => 0) | _ => 0)

theorem leftOf_cp {W X : World} {M : Nat} {es : Array MapEntry} {cl : Nat} {A : Option Addr} {n cap : Nat} {xs : List Value} {tot : Nat} (h : Cp W M es cl (.slice A n cap) xs tot X) : leftOf M X = 1 - cl + n := by
  simp [leftOf, h.map, h.cop]

theorem Cp.top {W X : World} {M : Nat} {es : Array MapEntry} {cl S cap tot : Nat} {v : Value} (h : Cp W M es cl (.slice (some ⟨S, 0, none⟩) 1 cap) [v] tot X) : X.cell? ⟨S, 0, none⟩ = some v := by
  rcases h.row.2 with ⟨h1, h2⟩ | ⟨g', cap', cur, h1, hb, hg, _, _, _, htake⟩
  · cases h1
  · cases h1
    have hv : cur[0]? = some v := by
      have := congrArg (·[0]?) htake
      simpa using this
    exact (cell_of_row X S 0 _ _ _ hg).trans hv

/-- The states that counting goes through. -/
inductive Counts (W : World) (M g c S cap : Nat) : World → Prop where
  | one (X : World) : Cp W M #[] 0 (.slice (some ⟨S, 0, none⟩) 1 cap) [.slice (some ⟨g, 0, none⟩) 2 c] 0 X → Counts W M g c S cap X
  | two (X : World) (K : Nat) : M + 2 ≤ K → S ≠ K → Cp W M (oneMap g K) 1 (.slice (some ⟨S, 0, none⟩) 1 cap) [.slice (some ⟨g, 0, none⟩) 2 c] 0 X → X.heap[K]? = some (knownV true 0) → Counts W M g c S cap X
  | three (X : World) (K : Nat) : M + 2 ≤ K → S ≠ K → Cp W M (oneMap g K) 1 (.slice (some ⟨S, 0, none⟩) 0 cap) [] 0 X → X.heap[K]? = some (knownV false 2) → Counts W M g c S cap X

theorem Cp.drewN {W X : World} {M : Nat} {es : Array MapEntry} {cl : Nat} {st : Value} {xs : List Value} {tot : Nat} (h : Cp W M es cl st xs tot X) (m : Nat) : Cp W M es cl st xs tot (X.drewN m) := h.next (below_of_drewN (Below.refl _ _) m)

set_option maxHeartbeats 4000000 in
set_option maxRecDepth 100000 in
theorem count_two (W : World) (M : Nat) (g c : Nat) (X : World) (h : Cp W M #[] 0 (.slice none 0 0) [] 0 X)
    (k : Int) (n : Nat) (s : ByteArray) (k' : Int) (n' : Nat) (s' : ByteArray) (hg : W.heap[g]? = some (.cells (twoCells k n s k' n' s').toArray 25 (0, 0))) (hM : M = W.heap.size) :
    Calls Try.prog 48 #[.pointer (some ⟨M + 1, 0, none⟩), .slice (some ⟨g, 0, none⟩) 2 c] X fun e w' => e = .returned (.tuple #[]) ∧ ∃ K S cap, M + 2 ≤ K ∧ S ≠ K ∧ Cp W M (oneMap g K) 1 (.slice (some ⟨S, 0, none⟩) 0 cap) [] 2 w' ∧ w'.heap[K]? = some (knownV false 2) := by
  have hpush := push_any W M #[] 0 (.slice none 0 0) [] 0 X h (by simp) (some ⟨g, 0, none⟩) 2 c
  have HPU := Lib.hid hpush; clear hpush h
  have HG := Lib.hid hg; clear hg
  have HM := Lib.hid hM; clear hM
  go_enter Try.func48, Try.ntmps48
  go_wp2_with fail
  refine HPU.out.mono ?_
  rintro e w1 ⟨rfl, S, cap, hcp1, _, _⟩
  simp only [List.length_nil, Nat.zero_add, List.nil_append] at hcp1
  have HCP1 := Lib.hid hcp1; clear hcp1
  go_wp2_with fail
  go_loopw [] (fun wr => Counts W M g c S cap wr) (fun wr => leftOf M wr)
  case atStart => exact .one _ HCP1.out
  case round =>
    rcases hrel with ⟨hcp⟩ | ⟨K, hK, hS, hcp, hkn⟩ | ⟨K, hK, hS, hcp, hkn⟩
    · have c1 := hcp.c1
      have ct := hcp.top
      have hl := leftOf_cp hcp
      have HL := Lib.hid hl; clear hl
      have HCP := Lib.hid hcp; clear hcp
      go_wp2_with fail
      go_quiet (fail)
      have hcp2 := HCP.out.drewN nq
      generalize wr.drewN nq = Y at *
      have c0 := hcp2.c0
      have lk := look_none g M Y hcp2.map
      have hk : ∀ Z, Cp W M #[] 0 (.slice (some ⟨S, 0, none⟩) 1 cap) [.slice (some ⟨g, 0, none⟩) 2 c] 0 Z → Z.cell? ⟨M + 1, 0, none⟩ = some (.map (some M)) ∧ (Instr.lookup 78 (.map (some M)) (keyV g) false).run Try.prog Z = .ok (.pointer none) Z := fun Z hZ => ⟨hZ.c0, look_none g M Z hZ.map⟩
      have HK := Lib.hid hk; clear hk
      have HC := Lib.hid hcp2; clear hcp2
      go_upto_region 3 with fail
      go_cut [34] (fun s34 wc => s34 = .bool true ∧ Cp W M #[] 0 (.slice (some ⟨S, 0, none⟩) 1 cap) [.slice (some ⟨g, 0, none⟩) 2 c] 0 wc)
      case first =>
        go_region_held3 (fun Z => Z.cell? ⟨M + 1, 0, none⟩ = some (.map (some M)) ∧ (Instr.lookup 78 (.map (some M)) (keyV g) false).run Try.prog Z = .ok (.pointer none) Z)
          ((refine HK.out _ ?_; first | exact HC.out | exact HC.out.drew | exact HCP.out | exact HCP.out.drew))
          (first | (go_at_call 62; with_reducible refine (place_two g c _).mono ?_; rintro e w' ⟨rfl, hb⟩; have HCP := Lib.hid (HC.out.drew.next hb); clear hb))
        all_goals (go_wp2_with fail; go_meet)
        all_goals exact ⟨rfl, HCP.out⟩
      case rest =>
        obtain ⟨rfl, hcp3⟩ := hcut
        have hen := enter_two W M _ _ 0 wc hcp3 k n s k' n' s' g c HG.out HM.out
        have hS := (row_lt hcp3.row S rfl).2
        have hz := hcp3.size
        have HEN := Lib.hid hen; clear hen hcp3 c0 lk
        go_wp2_with fail
        refine HEN.out.mono ?_
        rintro e w4 ⟨rfl, K, hK, hcp4, hkn⟩
        have hl4 := leftOf_cp hcp4
        have HF := Lib.hid (Counts.two w4 K (by omega) (by omega) hcp4 hkn); clear hcp4 hkn
        go_wp2
        go_roundw
        case rel => exact HF.out
        case measure => have := HL.out; omega
    · have c1 := hcp.c1
      have ct := hcp.top
      have hl := leftOf_cp hcp
      have HL := Lib.hid hl; clear hl
      have HKN := Lib.hid hkn; clear hkn
      have HCP := Lib.hid hcp; clear hcp
      go_wp2_with fail
      go_quiet (fail)
      have hcp2 := HCP.out.drewN nq
      have hkn2 : (wr.drewN nq).heap[K]? = some (knownV true 0) := HKN.out
      generalize wr.drewN nq = Y at *
      have c0 := hcp2.c0
      have lk := look_one g M (.pointer (some ⟨K, 0, none⟩)) Y hcp2.map
      have hk : ∀ Z, Cp W M (oneMap g K) 1 (.slice (some ⟨S, 0, none⟩) 1 cap) [.slice (some ⟨g, 0, none⟩) 2 c] 0 Z → Z.cell? ⟨M + 1, 0, none⟩ = some (.map (some M)) ∧ (Instr.lookup 78 (.map (some M)) (keyV g) false).run Try.prog Z = .ok (.pointer (some ⟨K, 0, none⟩)) Z := fun Z hZ => ⟨hZ.c0, look_one g M _ Z hZ.map⟩
      have HK := Lib.hid hk; clear hk
      have HC := Lib.hid (And.intro hcp2 hkn2); clear hcp2 hkn2
      go_upto_region 3 with fail
      go_cut [34] (fun s34 wc => s34 = .bool false ∧ Cp W M (oneMap g K) 1 (.slice (some ⟨S, 0, none⟩) 1 cap) [.slice (some ⟨g, 0, none⟩) 2 c] 0 wc ∧ wc.heap[K]? = some (knownV true 0))
      case first =>
        go_region_held3 (fun Z => Z.cell? ⟨M + 1, 0, none⟩ = some (.map (some M)) ∧ (Instr.lookup 78 (.map (some M)) (keyV g) false).run Try.prog Z = .ok (.pointer (some ⟨K, 0, none⟩)) Z)
          ((refine HK.out _ ?_; first | exact HC.out.1 | exact HC.out.1.drew | exact HCP.out | exact HCP.out.drew))
          (first | (go_at_call 62; with_reducible refine (place_two g c _).mono ?_; rintro e w' ⟨rfl, hb⟩; have HCP := Lib.hid (HC.out.1.drew.next hb); have HB := Lib.hid hb; clear hb))
        all_goals (go_wp2_with fail; go_meet)
        all_goals exact ⟨rfl, HCP.out, (HB.out.block K (lt_of_obj HC.out.2)).trans HC.out.2⟩
      case rest =>
        obtain ⟨rfl, hcp3, hkn3⟩ := hcut
        have hpop := pop_one W M _ _ S cap _ 0 wc hcp3
        have HPO := Lib.hid hpop; clear hpop
        have HKN3 := Lib.hid hkn3; clear hkn3 hcp3 c0 lk
        go_wp2_with fail
        refine HPO.out.mono ?_
        rintro e w4 ⟨rfl, hcp4, hoth⟩
        have hle := leave_two W M _ _ 0 K g c w4 hcp4 ((hoth K (by omega)).trans HKN3.out) hK (by simp [Value.ownBlock]; omega) k n s k' n' s' HG.out HM.out
        have HLE := Lib.hid hle; clear hle hcp4 hoth
        go_wp2_with fail
        refine HLE.out.mono ?_
        rintro e w5 ⟨rfl, hcp5, hkn5⟩
        have hl5 := leftOf_cp hcp5
        have HF := Lib.hid (Counts.three (c := c) w5 K hK hS hcp5 hkn5); clear hcp5 hkn5
        go_wp2
        go_roundw
        case rel => exact HF.out
        case measure => have := HL.out; omega
    · have c1 := hcp.c1
      have c0 := hcp.c0
      have lk := look_one g M (.pointer (some ⟨K, 0, none⟩)) wr hcp.map
      have hk : ∀ Z, Cp W M (oneMap g K) 1 (.slice (some ⟨S, 0, none⟩) 0 cap) [] 0 Z → Z.cell? ⟨M + 1, 0, none⟩ = some (.map (some M)) ∧ (Instr.lookup 78 (.map (some M)) (keyV g) false).run Try.prog Z = .ok (.pointer (some ⟨K, 0, none⟩)) Z := fun Z hZ => ⟨hZ.c0, look_one g M _ Z hZ.map⟩
      have HK := Lib.hid hk; clear hk
      have HC := Lib.hid (And.intro hcp hkn); clear hcp hkn
      go_upto_region 6 with fail
      go_cut [5] (fun s5 wc => s5 = .pointer (some ⟨K, 0, none⟩) ∧ Cp W M (oneMap g K) 1 (.slice (some ⟨S, 0, none⟩) 0 cap) [] 0 wc ∧ wc.heap[K]? = some (knownV false 2))
      case first =>
        go_region_held3 (fun Z => Z.cell? ⟨M + 1, 0, none⟩ = some (.map (some M)) ∧ (Instr.lookup 78 (.map (some M)) (keyV g) false).run Try.prog Z = .ok (.pointer (some ⟨K, 0, none⟩)) Z)
          ((refine HK.out _ ?_; first | exact HC.out.1 | exact HC.out.1.drew | exact HCP.out | exact HCP.out.drew))
          (first | (go_at_call 62; with_reducible refine (place_two g c _).mono ?_; rintro e w' ⟨rfl, hb⟩; have HCP := Lib.hid (HC.out.1.drew.next hb); have HB := Lib.hid hb; clear hb))
        all_goals (go_wp2_with fail; go_meet)
        all_goals exact ⟨rfl, HCP.out, (HB.out.block K (lt_of_obj HC.out.2)).trans HC.out.2⟩
      case rest =>
        obtain ⟨rfl, hcp3, hkn3⟩ := hcut
        have k0 : wc.cell? ⟨K, 0, none⟩ = some (.bool false) := cell_of_row wc _ 0 _ _ _ hkn3
        have k1 : wc.cell? ⟨K, 1, none⟩ = some (.int .u64 2) := cell_of_row wc _ 1 _ _ _ hkn3
        have c2 := hcp3.c2
        have f2 := hcp3.free 2
        have hend := hcp3.total 2
        have hend2 : (wc.setCell ⟨M + 1, 2, none⟩ (.int .u64 2)).heap[K]? = some (knownV false 2) := (Below.heap_setCell _ _ _ _ (by dsimp only; omega)).trans hkn3
        have HE := Lib.hid (And.intro hend hend2); clear hend hend2 hcp3 hkn3 lk c0 c1
        go_wp2
        go_end0
        exact ⟨rfl, K, S, cap, hK, hS, HE.out⟩

end Go.Proofs.Ytpmepnejjjlodaa
