/-
  The walk of EidBack. Conditions: the library's variables lie as the program's text lays them.
-/
import Derived.Test.YtmbmhblogjkflaaDoorDpc
import Derived.Test.YtmbmhblogjkflaaDoorEij
import Derived.Test.YtmbmhblogjkflaaDoorDof
namespace Go.Proofs.YtmbmhblogjkflaaDoor
namespace Eid
open Go.ChangeShapes Go.WideShapes Go.ChangeAt Go.RowKit
set_option linter.unusedVariables false
set_option linter.unusedSimpArgs false
set_option maxRecDepth 100000

theorem itemE_inj {e f : Nm} (he : Right e) (hf : Right f) (h : itE e = itE f) : e = f := by
  have h1 := pair_inj h
  have hs := num_inj h1.1
  have hp := h1.2
  obtain ⟨s, nm, nd, sv⟩ := e
  obtain ⟨s', nm', nd', sv'⟩ := f
  rcases he with ⟨a1, a2, a3, a4⟩ | ⟨a1, a2, a3, a4, a5⟩ <;> rcases hf with ⟨b1, b2, b3, b4⟩ | ⟨b1, b2, b3, b4, b5⟩ <;> simp only at a1 a2 a3 b1 b2 b3 hs <;> subst a1 a2 b1 b2
  · rw [partI, partI, if_pos rfl, if_pos rfl] at hp
    have h2 := pair_inj hp
    have := num_inj h2.1
    have := num_inj h2.2
    simp_all
  · exact absurd hs (by decide)
  · exact absurd hs (by decide)
  · subst a3 b3
    rw [partI, partI, if_neg (show ¬ (1 : Int) = 2 by decide), if_neg (show ¬ (1 : Int) = 2 by decide)] at hp
    simp only at hp
    by_cases n1 : nm = noneB <;> by_cases n2 : nm' = noneB
    · rw [n1, n2]
    · rw [if_pos n1, if_neg n2] at hp; simp [numI, textI] at hp
    · rw [if_neg n1, if_pos n2] at hp; simp [numI, textI] at hp
    · rw [if_neg n1, if_neg n2] at hp
      simp only [textI, It.mk.injEq, true_and, and_true] at hp
      rw [hp]
/-- Of gives a right name back. -/
theorem of_back (e : Nm) (h : Right e) (W : World) (B : Nat) (v : Value) (hB : B ≤ W.heap.size) (hx : Lies W B (itE e) v) : Calls Tryd.prog 17 #[v] W fun r w' => r = .returned (.tuple #[eV e, .int .i64 0]) ∧ Below W.heap.size W w' := by
  obtain ⟨r, c, ho, hc⟩ := of_any (itE e) (fun y hy => by
    have hs := right_small h
    have hy' : y = numI e.scheme.toNat ∨ y = partI e := by simpa [itE, pairI, It.l] using hy
    rcases hy' with rfl | rfl
    · show (⟨#[]⟩ : ByteArray).size ≤ _; decide
    · unfold partI
      split
      · show (⟨#[]⟩ : ByteArray).size ≤ _; decide
      · split
        · show (⟨#[]⟩ : ByteArray).size ≤ _; decide
        · show e.name.size ≤ _; omega) W B v hB hx
  rcases ho with ⟨h1, h2, rfl⟩ | ⟨h1, -, -⟩
  · rw [itemE_inj h1 h h2] at hc; exact hc
  · exact absurd ⟨e, h, rfl⟩ h1
theorem txtB_small {e : Nm} (h : Right e) : (txtB e).size ≤ 1000 := by
  have := txt_size h
  omega
/-- Parse gives a right name back. -/
theorem parse_back (e : Nm) (h : Right e) (W : World) (hk : Kon W) : Calls Tryd.prog 18 #[.string (txtB e)] W fun r w' => r = .returned (.tuple #[eV e, .int .i64 0]) ∧ Below W.heap.size W w' := by
  refine (parse_any (txtB e) (txtB_small h) W hk).mono ?_
  rintro r w' ⟨f, c, rfl, hp, hb⟩
  obtain ⟨rfl, rfl⟩ := parse_one hp (.inl ⟨h, rfl, rfl⟩)
  exact ⟨rfl, hb⟩

/-- A name's box, and its item's. -/
structure Bk (w : World) (e : Nm) (it : It) (sl : Value) (p : Nat) (W : World) : Prop where
  e : EB W w.heap.size e
  r : W.heap[p]? = some (boxOf it sl)
  lies : Lies W p it (itV it sl)
  lt : p < W.heap.size
  below : Below w.heap.size w W
theorem Bk.next {w : World} {e : Nm} {it : It} {sl : Value} {p : Nat} {W W' : World} (h : Bk w e it sl p W) (hb : Below W.heap.size W W') : Bk w e it sl p W' :=
  ⟨h.e.below hb h.e.lt, (hb.block _ h.lt).trans h.r, h.lies.keep (hb.mono (Nat.le_of_lt h.lt)), Nat.lt_of_lt_of_le h.lt hb.size, h.below.trans (hb.mono h.below.size)⟩
theorem Bk.cells {w : World} {e : Nm} {it : It} {sl : Value} {p : Nat} {X : World} (h : Bk w e it sl p X) : X.cell? ⟨p, 0, none⟩ = some (.int .i64 it.kind) ∧ X.cell? ⟨p, 1, none⟩ = some (.int .u64 it.n) ∧ X.cell? ⟨p, 2, none⟩ = some (.string it.s) ∧ X.cell? ⟨p, 3, none⟩ = some sl ∧ X.cell? ⟨p, 4, none⟩ = some (.bool it.opn) :=
  ⟨cell_of_row X _ 0 _ _ _ h.r, cell_of_row X _ 1 _ _ _ h.r, cell_of_row X _ 2 _ _ _ h.r, cell_of_row X _ 3 _ _ _ h.r, cell_of_row X _ 4 _ _ _ h.r⟩
theorem Bk.new {w : World} {e : Nm} {it : It} {sl : Value} {W : World} (he : EB W w.heap.size e) (hl : Lies W W.heap.size it (itV it sl)) (hb : Below w.heap.size w W) : Bk w e it sl W.heap.size (W.alloc (boxOf it sl)) := by
  have hA : Below W.heap.size W (W.alloc (boxOf it sl)) := (Below.refl _ _).alloc (Nat.le_refl _) _
  exact ⟨he.below hA he.lt, heap_alloc_new W _, hl.keep hA, by simp, hb.trans (hA.mono hb.size)⟩

set_option maxHeartbeats 64000000 in
theorem back_by (e : Nm) (it : It) (tb : ByteArray) (w : World) (hk : Kon w)
    (HR : Hid (∀ W, Calls Tryd.prog 8 #[eV e] W fun r w' => r = .returned (.bool true) ∧ Below W.heap.size W w'))
    (HI : Hid (∀ W, Calls Tryd.prog 9 #[eV e] W fun r w' => ∃ A cp, r = .returned (.tuple #[itV it (.slice A 2 cp), .int .i64 0]) ∧ Lies w' w'.heap.size it (itV it (.slice A 2 cp)) ∧ Below W.heap.size W w'))
    (HT : Hid (∀ W, Kon W → Calls Tryd.prog 10 #[eV e] W fun r w' => r = .returned (.tuple #[.string tb, .int .i64 0]) ∧ Below W.heap.size W w'))
    (HO : Hid (∀ W B v, B ≤ W.heap.size → Lies W B it v → Calls Tryd.prog 17 #[v] W fun r w' => r = .returned (.tuple #[eV e, .int .i64 0]) ∧ Below W.heap.size W w'))
    (HP : Hid (∀ W, Kon W → Calls Tryd.prog 18 #[.string tb] W fun r w' => r = .returned (.tuple #[eV e, .int .i64 0]) ∧ Below W.heap.size W w')) :
    Calls Tryd.prog 4 #[eV e] w fun r w' => r = .returned (.bool true) ∧ Below w.heap.size w w' := by
  have HA := Lib.hid (fun w => awake_any w)
  have HE := fun X => eql_run e e X
  rw [decide_eq_true (rfl : e = e)] at HE
  have hkk : ∀ X, Below w.heap.size w X → Kon X := fun X hX => hk.below hX
  have HKK := Lib.hid hkk; clear hkk hk
  obtain ⟨h0, h2⟩ := EB.box1 w e (Below.refl _ _)
  generalize hW : w.alloc (.cells (eCells e) 24 (0, 0)) = w1 at h0 h2
  obtain ⟨e0, e1, e2, e3⟩ := e
  obtain ⟨ki, ni, si, li, oi⟩ := it
  have HB1 := Lib.hid (And.intro h0 h2); clear h0 h2
  obtain ⟨c0, c1, c2, c3⟩ := HB1.out.1.cells
  simp only [eV, eCells, itV, It.kind, It.n, It.s, It.l, It.opn] at hW HR HI HT HO HP HE c0 c1 c2 c3 ⊢
  go_enter Tryd.func4, Tryd.ntmps4
  go_upto_region 1 with fail
  clear hW
  go_wp2_with fail
  refine (HA.out _).mono ?_
  rintro _ w2 ⟨rfl, hb2⟩
  have HB2 := Lib.hid (And.intro (HB1.out.1.below hb2 HB1.out.1.lt) (HB1.out.2.trans (hb2.mono HB1.out.2.size))); clear hb2 c0 c1 c2 c3 HB1
  obtain ⟨c0, c1, c2, c3⟩ := HB2.out.1.cells
  go_wp2_with fail
  refine (HR.out _).mono ?_
  rintro _ w3 ⟨rfl, hb3⟩
  have HB3 := Lib.hid (And.intro (HB2.out.1.below hb3 HB2.out.1.lt) (HB2.out.2.trans (hb3.mono HB2.out.2.size))); clear hb3 c0 c1 c2 c3 HB2
  obtain ⟨c0, c1, c2, c3⟩ := HB3.out.1.cells
  go_wp2_with fail
  refine (HI.out _).mono ?_
  rintro _ w4 ⟨A, cp, rfl, hl, hb4⟩
  have hbk := Bk.new (w := w) (HB3.out.1.below hb4 HB3.out.1.lt) hl (HB3.out.2.trans (hb4.mono HB3.out.2.size))
  clear hl hb4 c0 c1 c2 c3 HB3
  generalize hF : w4.alloc (boxOf (.mk ki ni si li oi) (.slice A 2 cp)) = w5 at hbk
  have HB5 := Lib.hid hbk; clear hbk
  simp only [boxOf, It.kind, It.n, It.s, It.l, It.opn] at hF
  go_upto_region 4 with fail
  clear hF
  obtain ⟨c0, c1, c2, c3⟩ := HB5.out.e.cells
  go_wp2_with fail
  refine (HT.out _ (HKK.out _ HB5.out.below)).mono ?_
  rintro _ w6 ⟨rfl, hb6⟩
  have HB6 := Lib.hid (HB5.out.next hb6); clear hb6 c0 c1 c2 c3 HB5
  obtain ⟨d0, d1, d2, d3, d4⟩ := HB6.out.cells
  simp only [It.kind, It.n, It.s, It.l, It.opn] at d0 d1 d2 d3 d4
  go_wp2_with fail
  refine (HO.out _ _ _ (Nat.le_of_lt HB6.out.lt) HB6.out.lies).mono ?_
  rintro _ w7 ⟨rfl, hb7⟩
  have hn := EB.new w7 ⟨e0, e1, e2, e3⟩
  have h7 := HB6.out.next hb7
  have h8 := h7.next ((Below.refl _ _).alloc (Nat.le_refl _) (.cells (eCells ⟨e0, e1, e2, e3⟩) 24 (0, 0)))
  clear hb7 d0 d1 d2 d3 d4 h7 HB6
  generalize hF : w7.alloc (.cells (eCells ⟨e0, e1, e2, e3⟩) 24 (0, 0)) = w8 at hn h8
  have HB8 := Lib.hid (And.intro hn h8); clear hn h8
  simp only [eCells] at hF
  go_upto_region 6 with fail
  clear hF
  go_wp2_with fail
  refine (HP.out _ (HKK.out _ HB8.out.2.below)).mono ?_
  rintro _ w9 ⟨rfl, hb9⟩
  have hn := EB.new w9 ⟨e0, e1, e2, e3⟩
  have hA : Below w9.heap.size w9 (w9.alloc (.cells (eCells ⟨e0, e1, e2, e3⟩) 24 (0, 0))) := (Below.refl _ _).alloc (Nat.le_refl _) _
  have h9 := HB8.out.2.next hb9
  have h10 := h9.next hA
  have g9 := HB8.out.1.below hb9 HB8.out.1.lt
  have g10 := g9.below hA g9.lt
  clear hb9 h9 g9 hA HB8
  generalize hF : w9.alloc (.cells (eCells ⟨e0, e1, e2, e3⟩) 24 (0, 0)) = w10 at hn h10 g10
  have HB := Lib.hid (And.intro hn (And.intro g10 h10)); clear hn h10 g10
  simp only [eCells] at hF
  go_upto_region 7 with fail
  clear hF
  obtain ⟨c0, c1, c2, c3⟩ := HB.out.1.cells
  obtain ⟨d0, d1, d2, d3⟩ := HB.out.2.1.cells
  obtain ⟨a0, a1, a2, a3⟩ := HB.out.2.2.e.cells
  go_wp2
  go_ret
  exact ⟨rfl, HB.out.2.2.below⟩

set_option maxHeartbeats 16000000 in
theorem back_not (e : Nm) (h : ¬ Right e) (w : World) : Calls Tryd.prog 4 #[eV e] w fun r w' => r = .returned (.bool true) ∧ Below w.heap.size w w' := by
  have HA := Lib.hid (fun w => awake_any w)
  have HR := Lib.hid (fun w => rright_all e false ⟨fun h => (by cases h), fun k => absurd k h⟩ w)
  obtain ⟨h0, h2⟩ := EB.box1 w e (Below.refl _ _)
  generalize hW : w.alloc (.cells (eCells e) 24 (0, 0)) = w1 at h0 h2
  clear h
  obtain ⟨e0, e1, e2, e3⟩ := e
  have HB1 := Lib.hid (And.intro h0 h2); clear h0 h2
  obtain ⟨c0, c1, c2, c3⟩ := HB1.out.1.cells
  simp only [eV, eCells] at hW HR c0 c1 c2 c3 ⊢
  go_enter Tryd.func4, Tryd.ntmps4
  go_upto_region 1 with fail
  clear hW
  go_wp2_with fail
  refine (HA.out _).mono ?_
  rintro _ w2 ⟨rfl, hb2⟩
  have HB2 := Lib.hid (And.intro (HB1.out.1.below hb2 HB1.out.1.lt) (HB1.out.2.trans (hb2.mono HB1.out.2.size))); clear hb2 c0 c1 c2 c3 HB1
  obtain ⟨c0, c1, c2, c3⟩ := HB2.out.1.cells
  go_wp2_with fail
  refine (HR.out _).mono ?_
  rintro _ w3 ⟨rfl, hb3⟩
  have HB3 := Lib.hid (HB2.out.2.trans (hb3.mono HB2.out.2.size)); clear hb3 c0 c1 c2 c3 HB2
  go_wp2_with fail
  refine (HA.out _).mono ?_
  rintro _ w4 ⟨rfl, hb4⟩
  have HB4 := Lib.hid (HB3.out.trans (hb4.mono HB3.out.size)); clear hb4
  go_wp2
  go_ret
  exact ⟨rfl, HB4.out⟩

theorem back_law (e : Nm) (w : World) (_ : EFit e) (hk : Kon w) : Calls Tryd.prog 4 #[eV e] w fun r w' => r = .returned (.bool true) ∧ Below w.heap.size w w' := by
  by_cases h : Right e
  · exact back_by e (itE e) (txtB e) w hk (Lib.hid fun W => rright_all e true ⟨fun _ => h, fun _ => rfl⟩ W) (Lib.hid fun W => item_any e h W) (Lib.hid fun W hW => text_any' e h W hW.toKonT)
      (Lib.hid fun W B v hB hx => of_back e h W B v hB hx) (Lib.hid fun W hW => parse_back e h W hW)
  · exact back_not e h w
end Eid
end Go.Proofs.YtmbmhblogjkflaaDoor
