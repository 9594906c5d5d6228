/-
  Contract of eid.Item: a right name's item, in new blocks; of others the error. Conditions: none.
-/
import Derived.Test.YtmbmhblogjkflaaDoorDpb
namespace Go.Proofs.YtmbmhblogjkflaaDoor
namespace Eid
open Go.ChangeShapes Go.WideShapes Go.ChangeAt Go.RowKit
open Tree Tree.Nd
set_option linter.unusedVariables false
set_option linter.unusedSimpArgs false
set_option maxRecDepth 100000

/-- item.List at a number and an item whose lists are a tree, a row that a call makes. -/
theorem list_num {k n : Nat} (hk : k ≤ 18446744073709551615) {pt : It} {root : Nd} {A : Option Addr} {cp B : Nat} {X : World} (Z : World) (hT : Tr X B 2 pt root (.slice A n cp)) (hZ : Below X.heap.size X Z) (cap : Nat) {B0 : Nat} (hB0 : B0 ≤ Z.heap.size) :
    Calls Tryd.prog 23 #[.slice (some ⟨Z.heap.size, 0, none⟩) 2 cap] (Z.alloc (.cells #[.int .i64 0, .int .u64 (k : Nat), .string ⟨#[]⟩, .slice none 0 0, .bool false, .int .i64 pt.kind, .int .u64 (pt.n : Nat), .string pt.s, .slice A n cp, .bool pt.opn] 29 (0, 0)))
      fun e w' => ∃ root A cp, e = .returned (.agg #[.int .i64 4, .int .u64 0, .string ⟨#[]⟩, .slice A 2 cp, .bool false]) ∧ Tr w' B0 4 (pairI (numI k) pt) root (.slice A 2 cp) ∧ Below Z.heap.size Z w' := by
  have hA : Below Z.heap.size Z (Z.alloc (.cells #[.int .i64 0, .int .u64 (k : Nat), .string ⟨#[]⟩, .slice none 0 0, .bool false, .int .i64 pt.kind, .int .u64 (pt.n : Nat), .string pt.s, .slice A n cp, .bool pt.opn] 29 (0, 0))) := (Below.refl _ _).alloc (Nat.le_refl _) _
  refine (list_pair (X := X) (a := numI k) (y := pt) cap rfl (fits_num k hk) hT (by decide) (hZ.trans (hA.mono hZ.size)) hZ.size (heap_alloc_new Z _)).mono ?_
  rintro e w' ⟨root, v, rfl, hT, hB⟩
  obtain ⟨A, cp, rfl⟩ := hT.lies.slice
  exact ⟨root, A, cp, rfl, hT.mono (Nat.le_trans hB0 hA.size), hA.trans (hB.mono hA.size)⟩

set_option maxHeartbeats 64000000 in
theorem item_by (s : Int) (nm : ByteArray) (nd sv k : Nat) (hk : k ≤ 2) (hwr : IntKind.u64.wrap s = (k : Int)) (h : Right ⟨s, nm, nd, sv⟩) (w : World) :
    Calls Tryd.prog 9 #[eV ⟨s, nm, nd, sv⟩] w fun r w' => ∃ root A cp, r = .returned (.tuple #[itV (pairI (numI k) (partI ⟨s, nm, nd, sv⟩)) (.slice A 2 cp), .int .i64 0]) ∧ Tr w' w.heap.size 4 (pairI (numI k) (partI ⟨s, nm, nd, sv⟩)) root (.slice A 2 cp) ∧ Below w.heap.size w w' := by
  have HN := Lib.hid (fun n w => num_any n w)
  have hp := fun w => part_any ⟨s, nm, nd, sv⟩ h w
  have HR := Lib.hid (fun w => pright ⟨s, nm, nd, sv⟩ true ⟨fun _ => h, fun _ => rfl⟩ (Nat.le_trans (right_small h).2.2.2 (by decide)) w)
  generalize partI ⟨s, nm, nd, sv⟩ = pt at hp ⊢
  obtain ⟨kp, np, sp, lp, op⟩ := pt
  have HP := Lib.hid hp; clear hp h
  have h0 := RBox.new w ⟨s, nm, nd, sv⟩ (numI 0) (.slice none 0 0)
  generalize hW : (w.alloc (.cells (eCells ⟨s, nm, nd, sv⟩) 24 (0, 0))).alloc (boxOf (numI 0) (.slice none 0 0)) = w1 at h0
  have HB1 := Lib.hid h0; clear h0
  obtain ⟨c0, c1, c2, c3⟩ := HB1.out.e.cells
  have HL := Lib.hid (fun (root : Nd) (A : Option Addr) (n cp B : Nat) (X Z Y : World) (hT : Tr X B 2 (.mk kp np sp lp op) root (.slice A n cp)) (hXZ : Below X.heap.size X Z) (cap : Nat) (hZ : Below Y.heap.size Y Z) => list_num (k := k) (by omega) Z hT hXZ cap hZ.size)
  simp only [eV, eCells, boxOf, numI, pairI, itV, It.kind, It.n, It.s, It.l, It.opn, Int.cast_ofNat_Int] at hW HP HR HL c0 c1 c2 c3 ⊢
  go_enter Tryd.func9, Tryd.ntmps9
  go_upto_region 1 with fail
  clear hW
  go_wp2_with fail
  refine (HR.out _).mono ?_
  rintro _ w2 ⟨rfl, hb2⟩
  have HB := Lib.hid (HB1.out.next hb2); clear hb2 HB1 c0 c1 c2 c3
  have hkp : ∀ X, Below w2.heap.size w2 X → (X.cell? ⟨w.heap.size, 0, none⟩ = some (.int .i64 s) ∧ X.cell? ⟨w.heap.size, 1, none⟩ = some (.string nm) ∧ X.cell? ⟨w.heap.size, 2, none⟩ = some (.int .u64 (nd : Nat)) ∧ X.cell? ⟨w.heap.size, 3, none⟩ = some (.int .u64 (sv : Nat))) ∧
      (X.cell? ⟨w.heap.size + 1, 0, none⟩ = some (.int .i64 0) ∧ X.cell? ⟨w.heap.size + 1, 1, none⟩ = some (.int .u64 0) ∧ X.cell? ⟨w.heap.size + 1, 2, none⟩ = some (.string ⟨#[]⟩) ∧ X.cell? ⟨w.heap.size + 1, 3, none⟩ = some (.slice none 0 0) ∧ X.cell? ⟨w.heap.size + 1, 4, none⟩ = some (.bool false)) ∧ ∀ i, X.frozen? ⟨w.heap.size + 1, i, none⟩ = false :=
    fun X hX => ⟨(HB.out.next hX).e.cells, (HB.out.next hX).cells, (HB.out.next hX).free⟩
  have HKP := Lib.hid hkp; clear hkp
  have hd1 : Below w2.heap.size w2 w2 := Below.refl _ _
  have hd0 : Below w2.heap.size w2 w2.drew := hd1.drew
  obtain ⟨⟨c0, c1, c2, c3⟩, ⟨r0, r1, r2, r3, r4⟩, rf⟩ := HKP.out _ hd1
  clear hk
  go_upto_region 3 with fail
  go_region_with ((first | (go_at_call 24; with_reducible refine (HN.out _ _).mono ?_; rintro e' w' ⟨rfl, hb⟩) | (go_at_call 25; refine (HP.out _).mono ?_; intro e' w' hh; obtain ⟨root, A, cp, hv, hT, hb⟩ := hh; subst hv) | (go_at_call 23; refine (HL.out _ _ _ _ _ _ _ w2 hT (by first | exact Below.refl _ _ | with_reducible assumption) _ (by with_reducible assumption)).mono ?_; clear hT; intro e' w' hh; obtain ⟨root, A, cp, hv, hT, hb⟩ := hh; subst hv)); have hw := Below.trans (by with_reducible assumption) (hb.mono (Below.size (by with_reducible assumption))); obtain ⟨⟨a0, a1, a2, a3⟩, ⟨b0, b1, b2, b3, b4⟩, af⟩ := HKP.out _ hw)
  all_goals
    have hX := HB.out.next hw
    have HT := Lib.hid hT
    clear hT hb
    go_wp2
    generalize hF : (((((_ : World).setCell ⟨w.heap.size + 1, 0, none⟩ (.int .i64 4)).setCell ⟨w.heap.size + 1, 1, none⟩ (.int .u64 0)).setCell ⟨w.heap.size + 1, 2, none⟩ (.string ⟨#[]⟩)).setCell ⟨w.heap.size + 1, 3, none⟩ (.slice A 2 cp)).setCell ⟨w.heap.size + 1, 4, none⟩ (.bool false) = F
    obtain ⟨h1, h2⟩ := hX.put (y := pairI (numI k) (.mk kp np sp lp op)) (u := .slice A 2 cp) F hF
    obtain ⟨f0, f1, f2, f3, f4⟩ := h1.cells
    clear hF
    refine bodyPost_ret (v := .tuple #[.agg #[.int .i64 4, .int .u64 0, .string ⟨#[]⟩, .slice A 2 cp, .bool false], .int .i64 0]) (by simp [results, Tryd.results9, go_sem, f0, f1, f2, f3, f4, pairI, It.kind, It.n, It.s, It.opn]) rfl ⟨root, A, cp, rfl, ?_, h1.below⟩
    exact (HT.out.same fun q hq _ => h2 q (by have := HB.out.lt; omega)).mono HB.out.below.size

set_option maxHeartbeats 16000000 in
theorem item_not (e : Nm) (h : ¬ Right e) (hs : e.name.size ≤ 1099511627776) (w : World) : Calls Tryd.prog 9 #[eV e] w fun r w' => r = .returned (.tuple #[itV (numI 0) (.slice none 0 0), .int .i64 1]) ∧ Below w.heap.size w w' := by
  have HR := Lib.hid (fun w => pright e false ⟨fun h => (by cases h), fun k => absurd k h⟩ hs w)
  have h0 := RBox.new w e (numI 0) (.slice none 0 0)
  generalize hW : (w.alloc (.cells (eCells e) 24 (0, 0))).alloc (boxOf (numI 0) (.slice none 0 0)) = w1 at h0
  clear h hs
  obtain ⟨e0, e1, e2, e3⟩ := e
  have HB1 := Lib.hid h0; clear h0
  obtain ⟨c0, c1, c2, c3⟩ := HB1.out.e.cells
  simp only [eV, eCells, boxOf, numI, itV, It.kind, It.n, It.s, It.l, It.opn, Int.cast_ofNat_Int] at hW HR c0 c1 c2 c3 ⊢
  go_enter Tryd.func9, Tryd.ntmps9
  go_upto_region 1 with fail
  clear hW
  go_wp2_with fail
  refine (HR.out _).mono ?_
  rintro _ X ⟨rfl, hb2⟩
  have HX := Lib.hid (HB1.out.next hb2); clear hb2 HB1 c0 c1 c2 c3
  obtain ⟨r0, r1, r2, r3, r4⟩ := HX.out.cells
  have rf := HX.out.free
  simp only [numI, It.kind, It.n, It.s, It.opn, Int.cast_ofNat_Int] at r0 r1 r2 r3 r4
  go_wp2
  generalize hF : (((((X.setCell ⟨w.heap.size + 1, 0, none⟩ (.int .i64 0)).setCell ⟨w.heap.size + 1, 1, none⟩ (.int .u64 0)).setCell ⟨w.heap.size + 1, 2, none⟩ (.string ⟨#[]⟩)).setCell ⟨w.heap.size + 1, 3, none⟩ (.slice none 0 0)).setCell ⟨w.heap.size + 1, 4, none⟩ (.bool false)) = F
  obtain ⟨h1, h2⟩ := HX.out.put (y := numI 0) (u := .slice none 0 0) F hF
  obtain ⟨f0, f1, f2, f3, f4⟩ := h1.cells
  clear hF
  exact bodyPost_ret (v := .tuple #[.agg #[.int .i64 0, .int .u64 0, .string ⟨#[]⟩, .slice none 0 0, .bool false], .int .i64 1]) (by simp [results, Tryd.results9, go_sem, f0, f1, f2, f3, f4, numI, It.kind, It.n, It.s, It.opn]) rfl ⟨rfl, h1.below⟩

/-- eid.Item. -/
theorem item_any (e : Nm) (h : Right e) (w : World) : Calls Tryd.prog 9 #[eV e] w fun r w' => ∃ A cp, r = .returned (.tuple #[itV (itE e) (.slice A 2 cp), .int .i64 0]) ∧ Lies w' w'.heap.size (itE e) (itV (itE e) (.slice A 2 cp)) ∧ Below w.heap.size w w' := by
  have key : ∀ (k : Nat), k ≤ 2 → IntKind.u64.wrap e.scheme = (k : Int) → e.scheme.toNat = k → Calls Tryd.prog 9 #[eV e] w fun r w' => ∃ A cp, r = .returned (.tuple #[itV (itE e) (.slice A 2 cp), .int .i64 0]) ∧ Lies w' w'.heap.size (itE e) (itV (itE e) (.slice A 2 cp)) ∧ Below w.heap.size w w' := by
    intro k hk hw hs
    refine (item_by e.scheme e.name e.node e.service k hk hw h w).mono ?_
    rintro r w' ⟨root, A, cp, rfl, hT, hb⟩
    refine ⟨A, cp, ?_, ?_, hb⟩
    · unfold itE; rw [hs]
    · have := hT.lies
      unfold itE; rw [hs]; exact this
  rcases right_scheme h with h1 | h1
  · exact key 1 (by decide) (by rw [h1]; decide) (by rw [h1]; rfl)
  · exact key 2 (by decide) (by rw [h1]; decide) (by rw [h1]; rfl)
end Eid
end Go.Proofs.YtmbmhblogjkflaaDoor
