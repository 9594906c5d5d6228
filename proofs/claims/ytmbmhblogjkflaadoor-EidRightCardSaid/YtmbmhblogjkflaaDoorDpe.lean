/-
  The walk of EidRight. Conditions: the table of powers of ten lies as the program's text lays it.
-/
import Derived.Test.YtmbmhblogjkflaaDoorDpd
namespace Go.Proofs.YtmbmhblogjkflaaDoor
namespace Eid
open Go.ChangeShapes Go.WideShapes Go.ChangeAt Go.RowKit
open Plain
set_option linter.unusedVariables false
set_option linter.unusedSimpArgs false
set_option maxRecDepth 100000

theorem len_num (n : Nat) : (bytesOf (numI n)).length ≤ 9 := by
  simp only [numI, bytesOf, if_true]; exact headOf_len 0 n
theorem len_text (s : ByteArray) : (bytesOf (textI s)).length ≤ 9 + s.size := by
  have := headOf_len 3 s.size
  simp only [textI, bytesOf]
  rw [if_neg (by decide), if_pos (by decide), List.length_append, size_data]
  have h3 : (3 : Int).toNat = 3 := rfl
  rw [h3]; omega
theorem len_pair (a b : It) : (bytesOf (pairI a b)).length ≤ 9 + (bytesOf a).length + (bytesOf b).length := by
  have := headOf_len 4 2
  simp only [pairI, bytesOf, bytesL]
  rw [if_neg (by decide), if_neg (by decide)]
  simp only [Bool.false_eq_true, if_false, List.length_append, List.length_cons, List.length_nil]
  have h2 : (headOf 4 (0 + 1 + 1)).length ≤ 9 := this
  omega
theorem len_item {e : Nm} (h : Right e) : (bytesOf (itE e)).length ≤ 1000000 := by
  have h0 := len_pair (numI e.scheme.toNat) (partI e)
  have h1 := len_num e.scheme.toNat
  have h2 : (bytesOf (partI e)).length ≤ 200 := by
    unfold partI
    split
    · have := len_pair (numI e.node) (numI e.service)
      have := len_num e.node
      have := len_num e.service
      omega
    · split
      · have := len_num 0; omega
      · have := len_text e.name
        have := (right_small h).2.2.2
        omega
  show (bytesOf (pairI _ _)).length ≤ _
  omega
theorem rightB_item (e : Nm) : rightB (itE e) = true := (right_valid (itE e)).trans (valid_item e)
theorem plain_item (e : Nm) : plainB (itE e) = true := by
  have := rightB_item e
  rw [rightB, Bool.and_eq_true] at this
  exact this.2

set_option maxHeartbeats 64000000 in
theorem right_by (e : Nm) (it : It) (tb bx : ByteArray) (w : World) (hk : KonT w)
    (HF : Hid (∀ W, Calls Tryd.prog 7 #[eV e] W fun r w' => r = .returned (.bool true) ∧ Below W.heap.size W w'))
    (HR : Hid (∀ W, Calls Tryd.prog 8 #[eV e] W fun r w' => r = .returned (.bool true) ∧ Below W.heap.size W w'))
    (HPR : Hid (∀ W, Calls Tryd.prog 11 #[eV e] W fun r w' => r = .returned (.bool true) ∧ Below W.heap.size W w'))
    (HI : Hid (∀ W, Calls Tryd.prog 9 #[eV e] W fun r w' => ∃ A cp, r = .returned (.tuple #[itV it (.slice A 2 cp), .int .i64 0]) ∧ Lies w' w'.heap.size it (itV it (.slice A 2 cp)) ∧ Below W.heap.size W w'))
    (HT : Hid (∀ W, KonT W → Calls Tryd.prog 10 #[eV e] W fun r w' => r = .returned (.tuple #[.string tb, .int .i64 0]) ∧ Below W.heap.size W w'))
    (HTX : Hid (∀ W, Calls Tryd.prog 13 #[eV e] W fun r w' => r = .returned (.string tb) ∧ Below W.heap.size W w'))
    (HRX : Hid (∀ W B v, B ≤ W.heap.size → Lies W B it v → Calls Tryd.prog 14 #[v] W fun r w' => r = .returned (.bool true) ∧ Below W.heap.size W w'))
    (HBX : Hid (∀ W B v, B ≤ W.heap.size → Lies W B it v → Calls Tryd.prog 15 #[v] W fun r w' => r = .returned (.string bx) ∧ Below W.heap.size W w'))
    (HIR : Hid (∀ W, Calls Tryd.prog 16 #[eV e] W fun r w' => ∃ v, r = .returned v ∧ Lies w' w'.heap.size it v ∧ Below W.heap.size W w')) :
    Calls Tryd.prog 3 #[eV e] w fun r w' => r = .returned (.bool true) ∧ Below w.heap.size w w' := by
  have HA := Lib.hid (fun w => awake_any w)
  have hkk : ∀ X, Below w.heap.size w X → KonT X := fun X hX => hk.below hX
  have HKK := Lib.hid hkk; clear hkk hk
  obtain ⟨h0, h2⟩ := EB.box1 w e (Below.refl _ _)
  generalize hW : w.alloc (.cells (eCells e) 24 (0, 0)) = w1 at h0 h2
  obtain ⟨e0, e1, e2, e3⟩ := e
  obtain ⟨ki, ni, si, li, oi⟩ := it
  have HB1 := Lib.hid (And.intro h0 h2); clear h0 h2
  obtain ⟨c0, c1, c2, c3⟩ := HB1.out.1.cells
  simp only [eV, eCells, itV, It.kind, It.n, It.s, It.l, It.opn] at hW HF HR HPR HI HT HTX HRX HBX HIR c0 c1 c2 c3 ⊢
  go_enter Tryd.func3, Tryd.ntmps3
  go_upto_region 1 with fail
  clear hW
  go_wp2_with fail
  refine (HA.out _).mono ?_
  rintro _ w2 ⟨rfl, hb2⟩
  have HB2 := Lib.hid (And.intro (HB1.out.1.below hb2 HB1.out.1.lt) (HB1.out.2.trans (hb2.mono HB1.out.2.size))); clear hb2 c0 c1 c2 c3 HB1
  obtain ⟨c0, c1, c2, c3⟩ := HB2.out.1.cells
  go_wp2_with fail
  refine (HF.out _).mono ?_
  rintro _ w3 ⟨rfl, hb3⟩
  have HB3 := Lib.hid (And.intro (HB2.out.1.below hb3 HB2.out.1.lt) (HB2.out.2.trans (hb3.mono HB2.out.2.size))); clear hb3 c0 c1 c2 c3 HB2
  obtain ⟨c0, c1, c2, c3⟩ := HB3.out.1.cells
  go_wp2_with fail
  refine (HR.out _).mono ?_
  rintro _ w4 ⟨rfl, hb4⟩
  have HB4 := Lib.hid (And.intro (HB3.out.1.below hb4 HB3.out.1.lt) (HB3.out.2.trans (hb4.mono HB3.out.2.size))); clear hb4 c0 c1 c2 c3 HB3
  obtain ⟨c0, c1, c2, c3⟩ := HB4.out.1.cells
  go_wp2_with fail
  refine (HI.out _).mono ?_
  rintro _ w5 ⟨A, cp, rfl, hl, hb5⟩
  have hbk := Bk.new (w := w) (HB4.out.1.below hb5 HB4.out.1.lt) hl (HB4.out.2.trans (hb5.mono HB4.out.2.size))
  clear hl hb5 c0 c1 c2 c3 HB4
  generalize hF : w5.alloc (boxOf (.mk ki ni si li oi) (.slice A 2 cp)) = w6 at hbk
  have HB6 := Lib.hid hbk; clear hbk
  simp only [boxOf, It.kind, It.n, It.s, It.l, It.opn] at hF
  go_upto_region 5 with fail
  clear hF
  obtain ⟨c0, c1, c2, c3⟩ := HB6.out.e.cells
  go_wp2_with fail
  refine (HT.out _ (HKK.out _ HB6.out.below)).mono ?_
  rintro _ w7 ⟨rfl, hb7⟩
  have HB7 := Lib.hid (HB6.out.next hb7); clear hb7 c0 c1 c2 c3 HB6
  obtain ⟨c0, c1, c2, c3⟩ := HB7.out.e.cells
  go_wp2_with fail
  refine (HPR.out _).mono ?_
  rintro _ w8 ⟨rfl, hb8⟩
  have HB8 := Lib.hid (HB7.out.next hb8); clear hb8 c0 c1 c2 c3 HB7
  have hkp : ∀ X, Below w8.heap.size w8 X → (X.cell? ⟨w.heap.size, 0, none⟩ = some (.int .i64 e0) ∧ X.cell? ⟨w.heap.size, 1, none⟩ = some (.string e1) ∧ X.cell? ⟨w.heap.size, 2, none⟩ = some (.int .u64 (e2 : Nat)) ∧ X.cell? ⟨w.heap.size, 3, none⟩ = some (.int .u64 (e3 : Nat))) ∧
      (X.cell? ⟨w5.heap.size, 0, none⟩ = some (.int .i64 ki) ∧ X.cell? ⟨w5.heap.size, 1, none⟩ = some (.int .u64 ni) ∧ X.cell? ⟨w5.heap.size, 2, none⟩ = some (.string si) ∧ X.cell? ⟨w5.heap.size, 3, none⟩ = some (.slice A 2 cp) ∧ X.cell? ⟨w5.heap.size, 4, none⟩ = some (.bool oi)) :=
    fun X hX => ⟨(HB8.out.next hX).e.cells, (HB8.out.next hX).cells⟩
  have HKP := Lib.hid hkp; clear hkp
  have HRXX := Lib.hid (fun X (hX : Below w8.heap.size w8 X) => HRX.out X w5.heap.size _ (Nat.le_of_lt (HB8.out.next hX).lt) (HB8.out.next hX).lies)
  have HB1X := Lib.hid (fun X (hX : Below w8.heap.size w8 X) => HBX.out X w5.heap.size _ (Nat.le_of_lt (HB8.out.next hX).lt) (HB8.out.next hX).lies)
  have HB2X := Lib.hid (fun Z X v (hl : Lies Z Z.heap.size (.mk ki ni si li oi) v) (hX : Below Z.heap.size Z X) => HBX.out X Z.heap.size v hX.size (hl.keep hX))
  simp only [itV, It.kind, It.n, It.s, It.l, It.opn] at HRXX HB1X
  have hd1 : Below w8.heap.size w8 w8 := Below.refl _ _
  have hd0 : Below w8.heap.size w8 w8.drew := hd1.drew
  obtain ⟨⟨c0, c1, c2, c3⟩, ⟨d0, d1, d2, d3, d4⟩⟩ := HKP.out _ hd1
  clear HF HR HPR HI HT HA HRX HBX HKK
  go_upto_region 10 with fail
  first | (go_region_with ((first | (go_at_call 13; with_reducible refine (HTX.out _).mono ?_; rintro e' w' ⟨rfl, hb⟩) | (go_at_call 14; with_reducible refine (HRXX.out _ (by with_reducible assumption)).mono ?_; rintro e' w' ⟨rfl, hb⟩) | (go_at_call 16; refine (HIR.out _).mono ?_; intro e' w' hh; obtain ⟨v, hv, hl, hb⟩ := hh; subst hv) | (go_at_call 15; first | (with_reducible refine (HB1X.out _ (by with_reducible assumption)).mono ?_; rintro e' w' ⟨rfl, hb⟩) | (with_reducible refine (HB2X.out _ _ _ hl (by first | exact Below.refl _ _ | with_reducible assumption)).mono ?_; rintro e' w' ⟨rfl, hb⟩))); have hw := Below.trans (by with_reducible assumption) (hb.mono (Below.size (by with_reducible assumption))); obtain ⟨⟨a0, a1, a2, a3⟩, ⟨b0, b1, b2, b3, b4⟩⟩ := HKP.out _ hw)) | fail
  all_goals
    have HFIN := Lib.hid (HB8.out.below.trans (hw.mono HB8.out.below.size))
    clear hw hb
    go_wp2
    go_ret
    exact ⟨rfl, HFIN.out⟩

set_option maxHeartbeats 64000000 in
theorem right_not (e : Nm) (w : World)
    (HF : Hid (∀ W, Calls Tryd.prog 7 #[eV e] W fun r w' => r = .returned (.bool true) ∧ Below W.heap.size W w'))
    (HR : Hid (∀ W, Calls Tryd.prog 8 #[eV e] W fun r w' => r = .returned (.bool false) ∧ Below W.heap.size W w'))
    (HPR : Hid (∀ W, Calls Tryd.prog 11 #[eV e] W fun r w' => r = .returned (.bool false) ∧ Below W.heap.size W w'))
    (HI : Hid (∀ W, Calls Tryd.prog 9 #[eV e] W fun r w' => r = .returned (.tuple #[itV (numI 0) (.slice none 0 0), .int .i64 1]) ∧ Below W.heap.size W w'))
    (HT : Hid (∀ W, Calls Tryd.prog 10 #[eV e] W fun r w' => r = .returned (.tuple #[.string ⟨#[]⟩, .int .i64 1]) ∧ Below W.heap.size W w'))
    (HC : Hid (∀ W, Calls Tryd.prog 12 #[itV (numI 0) (.slice none 0 0), .int .i64 (2 : Nat)] W fun r w' => r = .returned (.int .i64 (1 : Nat)) ∧ Below W.heap.size W w')) :
    Calls Tryd.prog 3 #[eV e] w fun r w' => r = .returned (.bool true) ∧ Below w.heap.size w w' := by
  have HA := Lib.hid (fun w => awake_any w)
  obtain ⟨h0, h2⟩ := EB.box1 w e (Below.refl _ _)
  generalize hW : w.alloc (.cells (eCells e) 24 (0, 0)) = w1 at h0 h2
  obtain ⟨e0, e1, e2, e3⟩ := e
  have HB1 := Lib.hid (And.intro h0 h2); clear h0 h2
  obtain ⟨c0, c1, c2, c3⟩ := HB1.out.1.cells
  simp only [eV, eCells, itV, numI, It.kind, It.n, It.s, It.l, It.opn, Int.cast_ofNat_Int] at hW HF HR HPR HI HT HC c0 c1 c2 c3 ⊢
  go_enter Tryd.func3, Tryd.ntmps3
  go_upto_region 1 with fail
  clear hW
  go_wp2_with fail
  refine (HA.out _).mono ?_
  rintro _ w2 ⟨rfl, hb2⟩
  have HB2 := Lib.hid (And.intro (HB1.out.1.below hb2 HB1.out.1.lt) (HB1.out.2.trans (hb2.mono HB1.out.2.size))); clear hb2 c0 c1 c2 c3 HB1
  obtain ⟨c0, c1, c2, c3⟩ := HB2.out.1.cells
  go_wp2_with fail
  refine (HF.out _).mono ?_
  rintro _ w3 ⟨rfl, hb3⟩
  have HB3 := Lib.hid (And.intro (HB2.out.1.below hb3 HB2.out.1.lt) (HB2.out.2.trans (hb3.mono HB2.out.2.size))); clear hb3 c0 c1 c2 c3 HB2
  obtain ⟨c0, c1, c2, c3⟩ := HB3.out.1.cells
  go_wp2_with fail
  refine (HR.out _).mono ?_
  rintro _ w4 ⟨rfl, hb4⟩
  have HB4 := Lib.hid (And.intro (HB3.out.1.below hb4 HB3.out.1.lt) (HB3.out.2.trans (hb4.mono HB3.out.2.size))); clear hb4 c0 c1 c2 c3 HB3
  obtain ⟨c0, c1, c2, c3⟩ := HB4.out.1.cells
  go_wp2_with fail
  refine (HI.out _).mono ?_
  rintro _ w5 ⟨rfl, hb5⟩
  have hbk := Bk.new (w := w) (it := numI 0) (sl := .slice none 0 0) (HB4.out.1.below hb5 HB4.out.1.lt) (lies_num _ _ 0 (by decide)) (HB4.out.2.trans (hb5.mono HB4.out.2.size))
  clear hb5 c0 c1 c2 c3 HB4
  generalize hF : w5.alloc (boxOf (numI 0) (.slice none 0 0)) = w6 at hbk
  have HB6 := Lib.hid hbk; clear hbk
  simp only [boxOf, numI, It.kind, It.n, It.s, It.l, It.opn, Int.cast_ofNat_Int] at hF
  have HFF := Lib.hid hF; clear hF
  go_upto_region 5 with fail
  try rw [HFF.out]
  clear HFF
  obtain ⟨c0, c1, c2, c3⟩ := HB6.out.e.cells
  go_wp2_with fail
  refine (HT.out _).mono ?_
  rintro _ w7 ⟨rfl, hb7⟩
  have HB7 := Lib.hid (HB6.out.next hb7); clear hb7 c0 c1 c2 c3 HB6
  obtain ⟨c0, c1, c2, c3⟩ := HB7.out.e.cells
  go_wp2_with fail
  refine (HPR.out _).mono ?_
  rintro _ w8 ⟨rfl, hb8⟩
  have HB8 := Lib.hid (HB7.out.next hb8); clear hb8 c0 c1 c2 c3 HB7
  obtain ⟨d0, d1, d2, d3, d4⟩ := HB8.out.cells
  simp only [numI, It.kind, It.n, It.s, It.l, It.opn, Int.cast_ofNat_Int] at d0 d1 d2 d3 d4
  go_wp2_with fail
  refine (HC.out _).mono ?_
  rintro _ w9 ⟨rfl, hb9⟩
  have HB9 := Lib.hid (HB8.out.next hb9); clear hb9 d0 d1 d2 d3 d4 HB8
  obtain ⟨d0, d1, d2, d3, d4⟩ := HB9.out.cells
  simp only [numI, It.kind, It.n, It.s, It.l, It.opn, Int.cast_ofNat_Int] at d0 d1 d2 d3 d4
  go_wp2
  go_ret
  exact ⟨rfl, HB9.out.below⟩

set_option maxHeartbeats 16000000 in
theorem right_many (e : Nm) (hs : ¬ e.name.size ≤ 100) (w : World) : Calls Tryd.prog 3 #[eV e] w fun r w' => r = .returned (.bool true) ∧ Below w.heap.size w w' := by
  have HA := Lib.hid (fun w => awake_any w)
  have hf := fun w => rfew e w
  rw [decide_eq_false hs] at hf
  have HF := Lib.hid hf
  clear hf hs
  obtain ⟨h0, h2⟩ := EB.box1 w e (Below.refl _ _)
  generalize hW : w.alloc (.cells (eCells e) 24 (0, 0)) = w1 at h0 h2
  obtain ⟨e0, e1, e2, e3⟩ := e
  obtain ⟨c0, c1, c2, c3⟩ := h0.cells
  have HB := Lib.hid (And.intro h0 h2); clear h0 h2
  simp only [eV, eCells] at HF hW c0 c1 c2 c3 ⊢
  go_enter Tryd.func3, Tryd.ntmps3
  go_upto_region 1 with fail
  clear hW
  go_wp2_with fail
  refine (HA.out _).mono ?_
  rintro _ w2 ⟨rfl, hb2⟩
  have HB2 := Lib.hid (And.intro (HB.out.1.below hb2 HB.out.1.lt) (HB.out.2.trans (hb2.mono HB.out.2.size))); clear hb2 c0 c1 c2 c3 HB
  obtain ⟨c0, c1, c2, c3⟩ := HB2.out.1.cells
  go_wp2_with fail
  refine (HF.out _).mono ?_
  rintro _ w3 ⟨rfl, hb3⟩
  have HB3 := Lib.hid (HB2.out.2.trans (hb3.mono HB2.out.2.size)); clear hb3 c0 c1 c2 c3 HB2
  go_wp2_with fail
  refine (HA.out _).mono ?_
  rintro _ w4 ⟨rfl, hb4⟩
  have HB4 := Lib.hid (HB3.out.trans (hb4.mono HB3.out.size)); clear hb4
  go_wp2
  go_ret
  exact ⟨rfl, HB4.out⟩

theorem right_law (e : Nm) (w : World) (_ : EFit e) (hk : KonT w) : Calls Tryd.prog 3 #[eV e] w fun r w' => r = .returned (.bool true) ∧ Below w.heap.size w w' := by
  by_cases hs : e.name.size ≤ 100
  · have hz : e.name.size ≤ 1099511627776 := by omega
    have HF : Hid (∀ W, Calls Tryd.prog 7 #[eV e] W fun r w' => r = .returned (.bool true) ∧ Below W.heap.size W w') := Lib.hid fun W => by
      have := rfew e W
      rwa [decide_eq_true hs] at this
    by_cases h : Right e
    · exact right_by e (itE e) (txtB e) ⟨(bytesOf (itE e)).toArray⟩ w hk HF (Lib.hid fun W => rright_all e true ⟨fun _ => h, fun _ => rfl⟩ W) (Lib.hid fun W => pright e true ⟨fun _ => h, fun _ => rfl⟩ hz W) (Lib.hid fun W => item_any e h W)
        (Lib.hid fun W hW => text_any' e h W hW) (Lib.hid fun W => rtext e h W)
        (Lib.hid fun W B v hB hx => by have := refRight_any (itE e) W B v hB hx; rwa [rightB_item e] at this)
        (Lib.hid fun W B v hB hx => bytesR_any (itE e) W B v hB hx (plain_item e) (len_item h))
        (Lib.hid fun W => ritem e h W)
    · exact right_not e w HF (Lib.hid fun W => rright_all e false ⟨fun h => (by cases h), fun k => absurd k h⟩ W) (Lib.hid fun W => pright e false ⟨fun h => (by cases h), fun k => absurd k h⟩ hz W) (Lib.hid fun W => item_not e h hz W)
        (Lib.hid fun W => text_not e h hz W) (Lib.hid fun W => count_any (numI 0) 2 W 0 _ (by decide) (Nat.zero_le _) (lies_num W 0 0 (by decide)))
  · exact right_many e hs w
end Eid
end Go.Proofs.YtmbmhblogjkflaaDoor
