/-
  Contract of the copier's enter, at a list of two leaves. Conditions: the copier lies in memory as stated, its map is empty.
-/
import Derived.Test.YtpmepnejjjlodaaCopyP
namespace Go.Proofs.Ytpmepnejjjlodaa
open Go.ChangeShapes Go.WideShapes Go.ChangeAt Go.RowKit Go.MapKept
open Plain
set_option linter.unusedVariables false

/-- The cells of two leaves. -/
def twoCells (k : Int) (n : Nat) (s : ByteArray) (k' : Int) (n' : Nat) (s' : ByteArray) : List Value :=
  [.int .i64 k, .int .u64 n, .string s, .slice none 0 0, .bool false, .int .i64 k', .int .u64 n', .string s', .slice none 0 0, .bool false]

/-- The map of one list. -/
def oneMap (g K : Nat) : Array MapEntry := #[{ key := keyV g, val := .pointer (some ⟨K, 0, none⟩), born := 0 }]

/-- A world with another object in one block. -/
def putObj (M : Nat) (o : Obj) (w : World) : World := { w with heap := w.heap.setIfInBounds M o }

theorem putObj_at {M : Nat} {o o' : Obj} {w : World} (h : w.heap[M]? = some o') : (putObj M o w).heap[M]? = some o := (heap_set h).1
theorem putObj_other {M : Nat} {o : Obj} {w : World} (k : Nat) (h : k ≠ M) : (putObj M o w).heap[k]? = w.heap[k]? := by
  simp [putObj, Ne.symm h]
theorem putObj_size (M : Nat) (o : Obj) (w : World) : (putObj M o w).heap.size = w.heap.size := by simp [putObj]

/-- The list is entered into the map. -/
theorem Cp.entered {W X : World} {M : Nat} {st : Value} {xs : List Value} {tot : Nat} (h : Cp W M #[] 0 st xs tot X) (g K : Nat) : Cp W M (oneMap g K) 1 st xs tot (putObj M (.map (oneMap g K) 1) X) := by
  refine ⟨⟨h.below.os, h.below.tape, h.below.output, by rw [putObj_size]; exact h.below.size, fun k hk => (putObj_other k (by omega)).trans (h.below.block k hk)⟩, putObj_at h.map, (putObj_other _ (by omega)).trans h.cop, row_keep h.row fun k hk => putObj_other k (by have := (row_lt h.row k hk).1; omega)⟩

theorem put_both (g M : Nat) (w : World) (h : w.heap[M]? = some (.map #[] 0)) : (∀ K, (Instr.mapUpdate 78 (.map (some M)) (keyV g) (.pointer (some ⟨K, 0, none⟩))).run Try.prog w = .ok () (putObj M (.map (oneMap g K) 1) w)) ∧
    ∀ o K, (Instr.mapUpdate 78 (.map (some M)) (keyV g) (.pointer (some ⟨K, 0, none⟩))).run Try.prog (w.alloc o) = .ok () (putObj M (.map (oneMap g K) 1) (w.alloc o)) :=
  ⟨fun K => put_one g M _ w h, fun o K => put_one g M _ (w.alloc o) ((Below.heap_alloc w o M (lt_of_obj h)).trans h)⟩

set_option maxHeartbeats 2000000 in
set_option maxRecDepth 100000 in
theorem enter_two (W : World) (M : Nat) (st : Value) (xs : List Value) (tot : Nat) (X : World) (h : Cp W M #[] 0 st xs tot X)
    (k : Int) (n : Nat) (s : ByteArray) (k' : Int) (n' : Nat) (s' : ByteArray) (g c : Nat) (hg : W.heap[g]? = some (.cells (twoCells k n s k' n' s').toArray 25 (0, 0))) (hM : M = W.heap.size) :
    Calls Try.prog 63 #[.pointer (some ⟨M + 1, 0, none⟩), .slice (some ⟨g, 0, none⟩) 2 c] X fun e w' => e = .returned (.tuple #[]) ∧ ∃ K, X.heap.size ≤ K ∧ Cp W M (oneMap g K) 1 st xs tot w' ∧
      w'.heap[K]? = some (.cells #[.bool true, .int .u64 0, .slice none 0 0] 100 (0, 0)) := by
  have c0 := h.c0
  have hsz := h.size
  have hn0 := World.new_ne X _ c0
  have hk : ∀ Z, Cp W M #[] 0 st xs tot Z → Z.cell? ⟨M + 1, 0, none⟩ = some (.map (some M)) := fun Z hZ => hZ.c0
  have HK := Lib.hid hk; clear hk
  have hk2 : ∀ Z K, Cp W M #[] 0 st xs tot Z → (putObj M (.map (oneMap g K) 1) Z).cell? ⟨M + 1, 0, none⟩ = some (.map (some M)) := fun Z K hZ => (hZ.entered g K).c0
  have HK2 := Lib.hid hk2; clear hk2
  have HC := Lib.hid h; clear h
  have HG := Lib.hid hg; clear hg
  have HM := Lib.hid hM; clear hM
  go_enter Try.func63, Try.ntmps63
  go_upto_region 0 with fail
  go_cut [] (fun wc => ∃ K, X.heap.size ≤ K ∧ Cp W M (oneMap g K) 1 st xs tot wc ∧ wc.heap[K]? = some (.cells #[.bool true, .int .u64 0, .slice none 0 0] 100 (0, 0)))
  case first =>
    go_region_held3 (fun Z => Z.cell? ⟨M + 1, 0, none⟩ = some (.map (some M))) (first | (refine HK.out _ ?_; first | exact HC.out | exact HC.out.drew | exact HC.out.next ((Below.refl _ _).alloc (Nat.le_refl _) _) | exact (HC.out.next ((Below.refl _ _).alloc (Nat.le_refl _) _)).drew | exact HCP.out | exact HCP.out.drew | exact HCP.out.next ((Below.refl _ _).alloc (Nat.le_refl _) _)) | (refine HK2.out _ _ ?_; first | exact HCP.out | exact HCP.out.drew | exact HCP.out.next ((Below.refl _ _).alloc (Nat.le_refl _) _)))
      (first | (go_at_call 62; with_reducible refine (place_two g c _).mono ?_; rintro e w' ⟨rfl, hb⟩; have hz := hb.size; have hcp : Cp W M #[] 0 st xs tot w' := (by first | exact HC.out.drew.next hb | exact (HC.out.next ((Below.refl _ _).alloc (Nat.le_refl _) _)).drew.next hb); obtain ⟨p1, p2⟩ := put_both g M w' hcp.map; have HB := Lib.hid hb; clear hb; have HCP := Lib.hid hcp; clear hcp))
    all_goals (go_wp2_with fail; go_meet)
    · exact ⟨_, Nat.le_trans (by simp) hz, (HCP.out.next ((Below.refl _ _).alloc (Nat.le_refl _) _)).entered g _, (putObj_other _ (by have := HCP.out.size; omega)).trans (heap_alloc_new _ _)⟩
    · exact ⟨_, Nat.le_refl _, HCP.out.entered g _, (putObj_other _ (by omega)).trans ((HB.out.block _ (by simp)).trans (heap_alloc_new _ _))⟩
  case rest =>
    obtain ⟨K, hK, hcp, hkn⟩ := hcut
    have HKN := Lib.hid (And.intro hK hkn); clear hkn hK
    have HCP := Lib.hid hcp; clear hcp
    clear c0 hn0 hsz HK HK2 HC
    have hd : decide ((0 : Int) < 0) = false := by decide
    go_wp2_with fail
    go_loopw [16] (fun i wr => ∃ j : Nat, j ≤ 2 ∧ i = .int .i64 j ∧ Cp W M (oneMap g K) 1 st xs tot wr ∧ wr.heap[K]? = some (.cells #[.bool true, .int .u64 0, .slice none 0 0] 100 (0, 0))) (fun i _ => 2 - (intOf i).toNat)
    case atStart => exact ⟨0, Nat.zero_le _, rfl, HCP.out, HKN.out.2⟩
    case round =>
      obtain ⟨j, hj, rfl, hcp, hkn⟩ := hrel
      have hgr : wr.heap[g]? = some (.cells (twoCells k n s k' n' s').toArray 25 (0, 0)) := (hcp.below.block g (by have := lt_of_obj HG.out; have := HM.out; omega)).trans HG.out
      have hcur : ∀ (i : Nat) (u : Value), (twoCells k n s k' n' s')[i]? = some u → wr.cell? ⟨g, i, none⟩ = some u := fun i u hi => (cell_of_row wr g i _ _ _ hgr).trans (by simpa using hi)
      have hnext : ∀ o m, Cp W M (oneMap g K) 1 st xs tot ((wr.alloc o).drewN m) ∧ ((wr.alloc o).drewN m).heap[K]? = some (.cells #[.bool true, .int .u64 0, .slice none 0 0] 100 (0, 0)) := fun o m =>
        ⟨hcp.next (below_of_drewN ((Below.refl _ _).alloc (Nat.le_refl _) o) m), ((below_of_drewN ((Below.refl _ _).alloc (Nat.le_refl _) o) m).block K (lt_of_obj hkn)).trans hkn⟩
      have HN := Lib.hid hnext; clear hnext
      have HR := Lib.hid (And.intro hcp hkn); clear hcp hkn hgr
      obtain rfl | rfl | rfl : j = 0 ∨ j = 1 ∨ j = 2 := by omega
      · have l0 := hcur 0 _ rfl
        have l1 := hcur 1 _ rfl
        have l2 := hcur 2 _ rfl
        have l3 := hcur 3 _ rfl
        have l4 := hcur 4 _ rfl
        clear hcur
        go_wp2_with fail
        go_quiet (fail)
        go_wp2
        go_roundw
        case rel => exact ⟨1, by omega, by go_num, HN.out _ _⟩
        case measure => simp [intOf]
      · have l0 := hcur 5 _ rfl
        have l1 := hcur 6 _ rfl
        have l2 := hcur 7 _ rfl
        have l3 := hcur 8 _ rfl
        have l4 := hcur 9 _ rfl
        clear hcur
        go_wp2_with fail
        go_quiet (fail)
        go_wp2
        go_roundw
        case rel => exact ⟨2, by omega, by go_num, HN.out _ _⟩
        case measure => simp [intOf]
      · clear hcur
        go_wp2
        go_end0
        exact ⟨rfl, K, HKN.out.1, HR.out.1, HR.out.2⟩

end Go.Proofs.Ytpmepnejjjlodaa
