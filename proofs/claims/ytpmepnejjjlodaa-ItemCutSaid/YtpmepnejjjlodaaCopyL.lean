/-
  Contract of the copier's leave, at a list of two leaves. Conditions: the copier lies in memory as stated, its map holds this list.
-/
import Derived.Test.YtpmepnejjjlodaaCopyE
namespace Go.Proofs.Ytpmepnejjjlodaa
open Go.ChangeShapes Go.WideShapes Go.ChangeAt Go.RowKit Go.MapKept
open Plain
set_option linter.unusedVariables false

/-- What is known of a list, at K. -/
def knownV (b : Bool) (n : Nat) : Obj := .cells #[.bool b, .int .u64 n, .slice none 0 0] 100 (0, 0)

theorem known_set {X : World} {K : Nat} (h : X.heap[K]? = some (knownV true 0)) : ((X.setCell ⟨K, 1, none⟩ (.int .u64 2)).setCell ⟨K, 0, none⟩ (.bool false)).heap[K]? = some (knownV false 2) := by
  rw [set_at (set_at h)]; rfl

set_option maxHeartbeats 2000000 in
set_option maxRecDepth 100000 in
theorem leave_two (W : World) (M : Nat) (st : Value) (xs : List Value) (tot K : Nat) (g c : Nat) (X : World) (h : Cp W M (oneMap g K) 1 st xs tot X) (hkn : X.heap[K]? = some (knownV true 0)) (hK : M + 2 ≤ K) (hst : st.ownBlock ≠ some K)
    (k : Int) (n : Nat) (s : ByteArray) (k' : Int) (n' : Nat) (s' : ByteArray) (hg : W.heap[g]? = some (.cells (twoCells k n s k' n' s').toArray 25 (0, 0))) (hM : M = W.heap.size) :
    Calls Try.prog 64 #[.pointer (some ⟨M + 1, 0, none⟩), .slice (some ⟨g, 0, none⟩) 2 c] X fun e w' => e = .returned (.tuple #[]) ∧ Cp W M (oneMap g K) 1 st xs tot w' ∧ w'.heap[K]? = some (knownV false 2) := by
  have c0 := h.c0
  have lk := look_one g M (.pointer (some ⟨K, 0, none⟩)) X h.map
  have hk : ∀ Z, Cp W M (oneMap g K) 1 st xs tot Z → Z.cell? ⟨M + 1, 0, none⟩ = some (.map (some M)) ∧ (Instr.lookup 78 (.map (some M)) (keyV g) false).run Try.prog Z = .ok (.pointer (some ⟨K, 0, none⟩)) Z := fun Z hZ => ⟨hZ.c0, look_one g M _ Z hZ.map⟩
  have HK := Lib.hid hk; clear hk
  have HC := Lib.hid (And.intro h hkn); clear h hkn
  have HS := Lib.hid (And.intro hK hst); clear hK hst
  have HG := Lib.hid hg; clear hg
  have HM := Lib.hid hM; clear hM
  go_enter Try.func64, Try.ntmps64
  go_upto_region 0 with fail
  go_cut [4] (fun s4 wc => s4 = .pointer (some ⟨K, 0, none⟩) ∧ Cp W M (oneMap g K) 1 st xs tot wc ∧ wc.heap[K]? = some (knownV true 0))
  case first =>
    go_region_held3 (fun Z => Z.cell? ⟨M + 1, 0, none⟩ = some (.map (some M)) ∧ (Instr.lookup 78 (.map (some M)) (keyV g) false).run Try.prog Z = .ok (.pointer (some ⟨K, 0, none⟩)) Z)
      ((refine HK.out _ ?_; first | exact HC.out.1 | exact HC.out.1.drew | exact HCP.out | exact HCP.out.drew))
      (first | (go_at_call 62; with_reducible refine (place_two g c _).mono ?_; rintro e w' ⟨rfl, hb⟩; have HCP := Lib.hid (HC.out.1.drew.next hb); have HB := Lib.hid hb; clear hb))
    all_goals (go_wp2_with fail; go_meet)
    all_goals exact ⟨rfl, HCP.out, (HB.out.block K (lt_of_obj HC.out.2)).trans HC.out.2⟩
  case rest =>
    obtain ⟨rfl, hcp, hkn⟩ := hcut
    clear c0 lk
    have k1 : wc.cell? ⟨K, 1, none⟩ = some (.int .u64 0) := cell_of_row wc _ 1 _ _ _ hkn
    have hd : decide ((0 : Int) < 0) = false := by decide
    have HR := Lib.hid (And.intro hcp hkn); clear hcp hkn HC HK
    go_wp2_with fail
    go_loopw [5, 6, 27] (fun s5 s6 i wr => s5 = .int .u64 2 ∧ s6 = .bool false ∧ ∃ j : Nat, j ≤ 2 ∧ i = .int .i64 j ∧ Cp W M (oneMap g K) 1 st xs tot wr ∧ wr.heap[K]? = some (knownV true 0)) (fun _ _ i _ => 2 - (intOf i).toNat)
    case atStart => exact ⟨rfl, rfl, 0, Nat.zero_le _, rfl, HR.out.1, HR.out.2⟩
    case round =>
      obtain ⟨rfl, rfl, j, hj, rfl, hcp, hkn⟩ := hrel
      clear k1
      have hgr : wr.heap[g]? = some (.cells (twoCells k n s k' n' s').toArray 25 (0, 0)) := (hcp.below.block g (by have := lt_of_obj HG.out; have := HM.out; omega)).trans HG.out
      have hcur : ∀ (i : Nat) (u : Value), (twoCells k n s k' n' s')[i]? = some u → wr.cell? ⟨g, i, none⟩ = some u := fun i u hi => (cell_of_row wr g i _ _ _ hgr).trans (by simpa using hi)
      have hnext : ∀ o, Cp W M (oneMap g K) 1 st xs tot (wr.alloc o) ∧ (wr.alloc o).heap[K]? = some (knownV true 0) := fun o =>
        ⟨hcp.next ((Below.refl _ _).alloc (Nat.le_refl _) o), (((Below.refl _ _).alloc (Nat.le_refl _) o).block K (lt_of_obj hkn)).trans hkn⟩
      have HN := Lib.hid hnext; clear hnext
      obtain rfl | rfl | rfl : j = 0 ∨ j = 1 ∨ j = 2 := by omega
      · have l0 := hcur 0 _ rfl
        have l1 := hcur 1 _ rfl
        have l2 := hcur 2 _ rfl
        have l3 := hcur 3 _ rfl
        have l4 := hcur 4 _ rfl
        clear hcur hcp hkn hgr
        go_wp2
        go_roundw
        case rel => exact ⟨rfl, rfl, 1, by omega, by go_num, HN.out _⟩
        case measure => simp [intOf]
      · have l0 := hcur 5 _ rfl
        have l1 := hcur 6 _ rfl
        have l2 := hcur 7 _ rfl
        have l3 := hcur 8 _ rfl
        have l4 := hcur 9 _ rfl
        clear hcur hcp hkn hgr
        go_wp2
        go_roundw
        case rel => exact ⟨rfl, rfl, 2, by omega, by go_num, HN.out _⟩
        case measure => simp [intOf]
      · have k0 : wr.cell? ⟨K, 0, none⟩ = some (.bool true) := cell_of_row wr _ 0 _ _ _ hkn
        have k1 : wr.cell? ⟨K, 1, none⟩ = some (.int .u64 0) := cell_of_row wr _ 1 _ _ _ hkn
        have f0 := free_at hkn
        have hend := (hcp.other (i := 1) (.int .u64 2) HS.out.1 HS.out.2).other (i := 0) (.bool false) HS.out.1 HS.out.2
        have hend2 := known_set hkn
        have HE := Lib.hid (And.intro hend hend2); clear hend hend2 hcur hcp hkn hgr
        have hmin : min (2 : Int) 2147483648 = 2 := by decide
        go_wp2
        go_end0
        exact ⟨rfl, HE.out⟩

end Go.Proofs.Ytpmepnejjjlodaa
