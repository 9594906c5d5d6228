/-
  Contract of eid.partOf at a right name: the second element of its item. Conditions: none.
-/
import Derived.Test.YtmbmhblogjkflaaDoorDpa
import Derived.Deep.RegionWith
namespace Go.Proofs.YtmbmhblogjkflaaDoor
namespace Eid
open Go.ChangeShapes Go.WideShapes Go.ChangeAt Go.RowKit
open Tree Tree.Nd
set_option linter.unusedVariables false
set_option linter.unusedSimpArgs false
set_option maxRecDepth 100000

/-- A name's box, and an item's. -/
structure RBox (w : World) (e : Nm) (x : It) (sl : Value) (X : World) : Prop where
  e : EB X w.heap.size e
  r : X.heap[w.heap.size + 1]? = some (boxOf x sl)
  lt : w.heap.size + 1 < X.heap.size
  below : Below w.heap.size w X
theorem RBox.new (w : World) (e : Nm) (x : It) (sl : Value) : RBox w e x sl ((w.alloc (.cells (eCells e) 24 (0, 0))).alloc (boxOf x sl)) := by
  refine ⟨(EB.new w e).alloc _, ?_, by simp, ((Below.refl w.heap.size w).alloc (Nat.le_refl _) _).alloc (by simp) _⟩
  have := heap_alloc_new (w.alloc (.cells (eCells e) 24 (0, 0))) (boxOf x sl)
  rwa [World.size_alloc] at this
theorem RBox.next {w : World} {e : Nm} {x : It} {sl : Value} {X Y : World} (h : RBox w e x sl X) (hb : Below X.heap.size X Y) : RBox w e x sl Y :=
  ⟨h.e.below hb h.e.lt, (hb.block _ h.lt).trans h.r, Nat.lt_of_lt_of_le h.lt hb.size, h.below.trans (hb.mono h.below.size)⟩
theorem RBox.cells {w : World} {e : Nm} {x : It} {sl : Value} {X : World} (h : RBox w e x sl X) : X.cell? ⟨w.heap.size + 1, 0, none⟩ = some (.int .i64 x.kind) ∧ X.cell? ⟨w.heap.size + 1, 1, none⟩ = some (.int .u64 x.n) ∧ X.cell? ⟨w.heap.size + 1, 2, none⟩ = some (.string x.s) ∧ X.cell? ⟨w.heap.size + 1, 3, none⟩ = some sl ∧ X.cell? ⟨w.heap.size + 1, 4, none⟩ = some (.bool x.opn) :=
  ⟨cell_of_row X _ 0 _ _ _ h.r, cell_of_row X _ 1 _ _ _ h.r, cell_of_row X _ 2 _ _ _ h.r, cell_of_row X _ 3 _ _ _ h.r, cell_of_row X _ 4 _ _ _ h.r⟩
theorem RBox.free {w : World} {e : Nm} {x : It} {sl : Value} {X : World} (h : RBox w e x sl X) (i : Nat) : X.frozen? ⟨w.heap.size + 1, i, none⟩ = false := by
  have := h.r
  unfold boxOf at this
  simp [World.frozen?, this]
theorem RBox.put {w : World} {e : Nm} {x y : It} {sl u : Value} {X : World} (h : RBox w e x sl X) (F : World)
    (hF : (((((X.setCell ⟨w.heap.size + 1, 0, none⟩ (.int .i64 y.kind)).setCell ⟨w.heap.size + 1, 1, none⟩ (.int .u64 (y.n : Nat))).setCell ⟨w.heap.size + 1, 2, none⟩ (.string y.s)).setCell ⟨w.heap.size + 1, 3, none⟩ u).setCell ⟨w.heap.size + 1, 4, none⟩ (.bool y.opn)) = F) :
    RBox w e y u F ∧ ∀ k, k ≠ w.heap.size + 1 → F.heap[k]? = X.heap[k]? := by
  have hk : ∀ k, k ≠ w.heap.size + 1 → F.heap[k]? = X.heap[k]? := fun k hk => by
    rw [← hF, Below.heap_setCell _ _ _ _ (by dsimp only; omega), Below.heap_setCell _ _ _ _ (by dsimp only; omega), Below.heap_setCell _ _ _ _ (by dsimp only; omega), Below.heap_setCell _ _ _ _ (by dsimp only; omega), Below.heap_setCell _ _ _ _ (by dsimp only; omega)]
  have hb : Below (w.heap.size + 1) X F := by
    rw [← hF]
    exact (((((Below.refl _ X).setCell (p := ⟨w.heap.size + 1, 0, none⟩) (Nat.le_refl _) _).setCell (p := ⟨w.heap.size + 1, 1, none⟩) (Nat.le_refl _) _).setCell (p := ⟨w.heap.size + 1, 2, none⟩) (Nat.le_refl _) _).setCell (p := ⟨w.heap.size + 1, 3, none⟩) (Nat.le_refl _) _).setCell (p := ⟨w.heap.size + 1, 4, none⟩) (Nat.le_refl _) _
  refine ⟨⟨(hk _ (by omega)).trans h.e, ?_, Nat.lt_of_lt_of_le h.lt hb.size, h.below.trans (hb.mono (by omega))⟩, hk⟩
  have := h.r
  unfold boxOf at this ⊢
  rw [← hF]
  simp [World.setCell, Array.getElem?_modify, this]

/-- item.List at two numbers, a row that a call makes. -/
theorem list_two {a b : Nat} (ha : a ≤ 18446744073709551615) (hb : b ≤ 18446744073709551615) (Z : World) (cap : Nat) {B0 : Nat} (hB0 : B0 ≤ Z.heap.size) :
    Calls Tryd.prog 23 #[.slice (some ⟨Z.heap.size, 0, none⟩) 2 cap] (Z.alloc (.cells #[.int .i64 0, .int .u64 (a : Nat), .string ⟨#[]⟩, .slice none 0 0, .bool false, .int .i64 0, .int .u64 (b : Nat), .string ⟨#[]⟩, .slice none 0 0, .bool false] 29 (0, 0)))
      fun e w' => ∃ root A cp, e = .returned (.agg #[.int .i64 4, .int .u64 0, .string ⟨#[]⟩, .slice A 2 cp, .bool false]) ∧ Tr w' B0 2 (pairI (numI a) (numI b)) root (.slice A 2 cp) ∧ Below Z.heap.size Z w' := by
  have hA : Below Z.heap.size Z (Z.alloc (.cells #[.int .i64 0, .int .u64 (a : Nat), .string ⟨#[]⟩, .slice none 0 0, .bool false, .int .i64 0, .int .u64 (b : Nat), .string ⟨#[]⟩, .slice none 0 0, .bool false] 29 (0, 0))) := (Below.refl _ _).alloc (Nat.le_refl _) _
  refine (list_pair (X := Z) (c := 0) (B := 0) (a := numI a) (y := numI b) cap rfl (fits_num a ha) (Tr.leaf Z 0 0 rfl (fits_num b hb)) (by decide) hA (Nat.le_refl _) (heap_alloc_new Z _)).mono ?_
  rintro e w' ⟨root, v, rfl, hT, hB⟩
  obtain ⟨A, cp, rfl⟩ := hT.lies.slice
  exact ⟨root, A, cp, rfl, hT.mono (Nat.le_trans hB0 hA.size), hA.trans (hB.mono hA.size)⟩

set_option maxHeartbeats 32000000 in
theorem part_two (nm : ByteArray) (nd sv : Nat) (hn : nd ≤ 18446744073709551615) (hs : sv ≤ 18446744073709551615) (w : World) :
    Calls Tryd.prog 25 #[eV ⟨2, nm, nd, sv⟩] w fun r w' => ∃ root v, r = .returned (itV (pairI (numI nd) (numI sv)) v) ∧ Tr w' w.heap.size 2 (pairI (numI nd) (numI sv)) root v ∧ Below w.heap.size w w' := by
  have HN := Lib.hid (fun n w => num_any n w)
  have h0 := RBox.new w ⟨2, nm, nd, sv⟩ (numI 0) (.slice none 0 0)
  generalize hW : (w.alloc (.cells (eCells ⟨2, nm, nd, sv⟩) 24 (0, 0))).alloc (boxOf (numI 0) (.slice none 0 0)) = w1 at h0
  have HL := Lib.hid (fun Z cap (hZ : Below w1.heap.size w1 Z) => list_two hn hs Z cap hZ.size)
  have hkp : ∀ X, Below w1.heap.size w1 X → (X.cell? ⟨w.heap.size, 0, none⟩ = some (.int .i64 2) ∧ X.cell? ⟨w.heap.size, 1, none⟩ = some (.string nm) ∧ X.cell? ⟨w.heap.size, 2, none⟩ = some (.int .u64 (nd : Nat)) ∧ X.cell? ⟨w.heap.size, 3, none⟩ = some (.int .u64 (sv : Nat))) ∧
      (X.cell? ⟨w.heap.size + 1, 0, none⟩ = some (.int .i64 0) ∧ X.cell? ⟨w.heap.size + 1, 1, none⟩ = some (.int .u64 0) ∧ X.cell? ⟨w.heap.size + 1, 2, none⟩ = some (.string ⟨#[]⟩) ∧ X.cell? ⟨w.heap.size + 1, 3, none⟩ = some (.slice none 0 0) ∧ X.cell? ⟨w.heap.size + 1, 4, none⟩ = some (.bool false)) ∧ ∀ i, X.frozen? ⟨w.heap.size + 1, i, none⟩ = false :=
    fun X hX => ⟨(h0.next hX).e.cells, (h0.next hX).cells, (h0.next hX).free⟩
  have HKP := Lib.hid hkp; clear hkp
  have HB := Lib.hid h0; clear h0 hn hs
  have hd1 : Below w1.heap.size w1 w1 := Below.refl _ _
  have hd0 : Below w1.heap.size w1 w1.drew := hd1.drew
  obtain ⟨⟨c0, c1, c2, c3⟩, ⟨r0, r1, r2, r3, r4⟩, rf⟩ := HKP.out _ hd1
  simp only [eV, eCells, boxOf, numI, It.kind, It.n, It.s, It.l, It.opn, Int.cast_ofNat_Int] at hW ⊢
  go_enter Tryd.func25, Tryd.ntmps25
  go_upto_region 2 with fail
  clear hW
  go_region_with ((first | (go_at_call 24; with_reducible refine (HN.out _ _).mono ?_; rintro e' w' ⟨rfl, hb⟩) | (go_at_call 23; refine (HL.out _ _ (by with_reducible assumption)).mono ?_; intro e' w' hh; obtain ⟨root, A, cp, hv, hT, hb⟩ := hh; subst hv)); have hw := Below.trans (by with_reducible assumption) (hb.mono (Below.size (by with_reducible assumption))); obtain ⟨⟨a0, a1, a2, a3⟩, ⟨b0, b1, b2, b3, b4⟩, af⟩ := HKP.out _ hw)
  all_goals
    have hX := HB.out.next hw
    have HT := Lib.hid hT
    clear hT hb
    go_wp2
    generalize hF : (((((_ : World).setCell ⟨w.heap.size + 1, 0, none⟩ (.int .i64 4)).setCell ⟨w.heap.size + 1, 1, none⟩ (.int .u64 0)).setCell ⟨w.heap.size + 1, 2, none⟩ (.string ⟨#[]⟩)).setCell ⟨w.heap.size + 1, 3, none⟩ (.slice A 2 cp)).setCell ⟨w.heap.size + 1, 4, none⟩ (.bool false) = F
    obtain ⟨h1, h2⟩ := hX.put (y := pairI (numI nd) (numI sv)) (u := .slice A 2 cp) F hF
    obtain ⟨f0, f1, f2, f3, f4⟩ := h1.cells
    clear hF
    refine bodyPost_ret (v := .agg #[.int .i64 4, .int .u64 0, .string ⟨#[]⟩, .slice A 2 cp, .bool false]) (by simp [results, Tryd.results25, go_sem, f0, f1, f2, f3, f4, pairI, It.kind, It.n, It.s, It.opn]) rfl ⟨root, .slice A 2 cp, rfl, ?_, h1.below⟩
    exact (HT.out.same fun q hq _ => h2 q (by have := HB.out.lt; omega)).mono HB.out.below.size

set_option maxHeartbeats 16000000 in
theorem part_none (w : World) : Calls Tryd.prog 25 #[eV noneE] w fun r w' => r = .returned (itV (numI 0) (.slice none 0 0)) ∧ Below w.heap.size w w' := by
  have HN := Lib.hid (fun w => num_any 0 w)
  have h0 := RBox.new w noneE (numI 0) (.slice none 0 0)
  generalize hW : (w.alloc (.cells (eCells noneE) 24 (0, 0))).alloc (boxOf (numI 0) (.slice none 0 0)) = w1 at h0
  have HB := Lib.hid h0
  obtain ⟨c0, c1, c2, c3⟩ := h0.e.cells
  clear h0
  simp only [eV, eCells, noneE, noneB, boxOf, numI, It.kind, It.n, It.s, It.l, It.opn, Int.cast_ofNat_Int] at hW HN c0 c1 c2 c3 ⊢
  go_enter Tryd.func25, Tryd.ntmps25
  go_upto_region 1 with fail
  clear hW
  go_wp2_with fail
  refine (HN.out _).mono ?_
  rintro _ X ⟨rfl, hb⟩
  have hX := HB.out.next hb
  obtain ⟨r0, r1, r2, r3, r4⟩ := hX.cells
  have rf := hX.free
  have HX := Lib.hid hX
  clear hX hb c0 c1 c2 c3
  simp only [numI, It.kind, It.n, It.s, It.opn, Int.cast_ofNat_Int] at r0 r1 r2 r3 r4
  go_wp2
  generalize hF : (((((X.setCell ⟨w.heap.size + 1, 0, none⟩ (.int .i64 0)).setCell ⟨w.heap.size + 1, 1, none⟩ (.int .u64 0)).setCell ⟨w.heap.size + 1, 2, none⟩ (.string ⟨#[]⟩)).setCell ⟨w.heap.size + 1, 3, none⟩ (.slice none 0 0)).setCell ⟨w.heap.size + 1, 4, none⟩ (.bool false)) = F
  obtain ⟨h1, h2⟩ := HX.out.put (y := numI 0) (u := .slice none 0 0) F hF
  obtain ⟨f0, f1, f2, f3, f4⟩ := h1.cells
  clear hF
  exact bodyPost_ret (v := .agg #[.int .i64 0, .int .u64 0, .string ⟨#[]⟩, .slice none 0 0, .bool false]) (by simp [results, Tryd.results25, go_sem, f0, f1, f2, f3, f4, numI, It.kind, It.n, It.s, It.opn]) rfl ⟨rfl, h1.below⟩

set_option maxHeartbeats 16000000 in
theorem part_full (nm : ByteArray) (hn : nm ≠ noneB) (w : World) : Calls Tryd.prog 25 #[eV ⟨1, nm, 0, 0⟩] w fun r w' => r = .returned (itV (textI nm) (.slice none 0 0)) ∧ Below w.heap.size w w' := by
  have ht : (nm.toList == ([110, 111, 110, 101] : List UInt8)) = false := by rw [noneB_test, decide_eq_false hn]
  have ht' : (nm.toList != ([110, 111, 110, 101] : List UInt8)) = true := by rw [noneB_test', decide_eq_false hn]; rfl
  have h0 := RBox.new w ⟨1, nm, 0, 0⟩ (numI 0) (.slice none 0 0)
  generalize hW : (w.alloc (.cells (eCells ⟨1, nm, 0, 0⟩) 24 (0, 0))).alloc (boxOf (numI 0) (.slice none 0 0)) = w1 at h0
  have HB := Lib.hid h0
  obtain ⟨c0, c1, c2, c3⟩ := h0.e.cells
  obtain ⟨r0, r1, r2, r3, r4⟩ := h0.cells
  have rf := h0.free
  clear h0 hn
  simp only [eV, eCells, boxOf, numI, It.kind, It.n, It.s, It.l, It.opn, Int.cast_ofNat_Int] at hW c0 c1 c2 c3 r0 r1 r2 r3 r4 ⊢
  go_enter Tryd.func25, Tryd.ntmps25
  go_upto_region 1 with fail
  clear hW
  go_wp2
  generalize hF : (((((w1.setCell ⟨w.heap.size + 1, 0, none⟩ (.int .i64 3)).setCell ⟨w.heap.size + 1, 1, none⟩ (.int .u64 0)).setCell ⟨w.heap.size + 1, 2, none⟩ (.string nm)).setCell ⟨w.heap.size + 1, 3, none⟩ (.slice none 0 0)).setCell ⟨w.heap.size + 1, 4, none⟩ (.bool false)) = F
  obtain ⟨h1, h2⟩ := HB.out.put (y := textI nm) (u := .slice none 0 0) F hF
  obtain ⟨f0, f1, f2, f3, f4⟩ := h1.cells
  clear hF
  exact bodyPost_ret (v := .agg #[.int .i64 3, .int .u64 0, .string nm, .slice none 0 0, .bool false]) (by simp [results, Tryd.results25, go_sem, f0, f1, f2, f3, f4, textI, It.kind, It.n, It.s, It.opn]) rfl ⟨rfl, h1.below⟩

/-- eid.partOf. -/
theorem part_any (e : Nm) (h : Right e) (w : World) : Calls Tryd.prog 25 #[eV e] w fun r w' => ∃ root A cp, r = .returned (itV (partI e) (.slice A (partI e).l.length cp)) ∧ Tr w' w.heap.size 2 (partI e) root (.slice A (partI e).l.length cp) ∧ Below w.heap.size w w' := by
  obtain ⟨s, nm, nd, sv⟩ := e
  rcases h with ⟨h1, h2, h3, h4⟩ | ⟨h1, h2, h3, h4, h5⟩
  · have h1' : s = 2 := h1
    subst h1'
    have h3' : nd ≤ 4294967295 := h3
    have h4' : sv ≤ 4294967295 := h4
    refine (part_two nm nd sv (by omega) (by omega) w).mono ?_
    rintro r w' ⟨root, v, rfl, hT, hb⟩
    obtain ⟨A, cp, rfl⟩ := hT.lies.slice
    exact ⟨root, A, cp, rfl, hT, hb⟩
  · have h1' : s = 1 := h1
    subst h1'
    have h2' : nd = 0 := h2
    have h3' : sv = 0 := h3
    subst h2' h3'
    by_cases hn : nm = noneB
    · subst hn
      refine (part_none w).mono ?_
      rintro r w' ⟨rfl, hb⟩
      exact ⟨.no, none, 0, rfl, Tr.leaf w' _ _ rfl (fits_num 0 (by decide)), hb⟩
    · have hi : partI ⟨1, nm, 0, 0⟩ = textI nm := by
        unfold partI
        rw [if_neg (show ¬ (1 : Int) = 2 by decide), if_neg hn]
      rw [hi]
      refine (part_full nm hn w).mono ?_
      rintro r w' ⟨rfl, hb⟩
      exact ⟨.no, none, 0, rfl, Tr.leaf w' _ _ rfl (fits_text nm (by have : nm.size ≤ 60 := h4; omega)), hb⟩
end Eid
end Go.Proofs.YtmbmhblogjkflaaDoor
