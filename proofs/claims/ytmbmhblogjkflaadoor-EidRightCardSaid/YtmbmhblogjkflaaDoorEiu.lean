/-
  Contract of eid.Of: the name whose item it is, or the error. Conditions: the item lies in memory, and its texts are of at most 2^40 bytes.
-/
import Derived.Test.YtmbmhblogjkflaaDoorEit
namespace Go.Proofs.YtmbmhblogjkflaaDoor
namespace Eid
open Go.ChangeShapes Go.WideShapes Go.ChangeAt Go.RowKit
set_option linter.unusedVariables false
set_option linter.unusedSimpArgs false
set_option maxRecDepth 100000

/-- What Of answers. -/
def OfR (x : It) (r : Nm) (c : Int) : Prop := (Right r ∧ itE r = x ∧ c = 0) ∨ ((¬ ∃ e, Right e ∧ itE e = x) ∧ r = zeroE ∧ c = 2)

theorem right_scheme {e : Nm} (h : Right e) : e.scheme = 1 ∨ e.scheme = 2 := by
  rcases h with h | h
  · exact .inr h.1
  · exact .inl h.1
theorem num_inj {a b : Nat} (h : numI a = numI b) : a = b := by
  simp only [numI, It.mk.injEq, true_and, and_true] at h
  exact h
theorem zero_not : ¬ Right zeroE := fun h => by
  rcases right_scheme h with h | h
  · exact absurd (show (0 : Int) = 1 from h) (by decide)
  · exact absurd (show (0 : Int) = 2 from h) (by decide)
theorem pair_inj {a b c d : It} (h : pairI a b = pairI c d) : a = c ∧ b = d := by
  simp only [pairI, It.mk.injEq, List.cons.injEq, true_and, and_true] at h
  exact h
/-- Scheme 1: what dtnOf makes is right where there is a name. -/
theorem dtn_good {y : It} {r : Nm} (h : DtnR y r) : (Right r → itE r = pairI (numI 1) y) ∧ ∀ e, Right e → itE e = pairI (numI 1) y → r = e := by
  constructor
  · intro hr
    rcases h with ⟨h1, h2, rfl⟩ | ⟨h1, h2, rfl⟩ | ⟨-, -, rfl⟩
    · unfold isNumI at h1
      rw [h2] at h1
      subst h1
      rfl
    · unfold isTextI at h1
      rw [h1]
      show pairI (numI 1) (partI ⟨1, y.s, 0, 0⟩) = _
      unfold partI
      rw [if_neg (show ¬ (1 : Int) = 2 by decide), if_neg h2]
    · exact absurd hr zero_not
  · intro e he hi
    obtain ⟨h1, h2⟩ := pair_inj hi
    have hs := num_inj h1
    have hsc : e.scheme = 1 := by rcases right_scheme he with h | h <;> omega
    obtain ⟨s, nm, nd, sv⟩ := e
    have hsc' : s = 1 := hsc
    subst hsc'
    rcases he with ⟨h, -⟩ | ⟨-, h4, h5, -, -⟩
    · exact absurd (show (1 : Int) = 2 from h) (by decide)
    have h4' : nd = 0 := h4
    have h5' : sv = 0 := h5
    subst h4' h5'
    unfold partI at h2
    rw [if_neg (show ¬ (1 : Int) = 2 by decide)] at h2
    by_cases hn : nm = noneB
    · rw [if_pos hn] at h2
      subst hn
      have k1 : isNumI y := by rw [← h2]; rfl
      have k2 : y.n = 0 := by rw [← h2]; rfl
      rcases h with ⟨-, -, rfl⟩ | ⟨k3, -, -⟩ | ⟨k3, -, -⟩
      · rfl
      · exfalso
        unfold isTextI at k3
        rw [k3] at h2
        have : (numI 0).kind = (textI y.s).kind := by rw [h2]
        exact absurd (show (0 : Int) = 3 from this) (by decide)
      · exact absurd ⟨k1, k2⟩ k3
    · rw [if_neg hn] at h2
      have k1 : isTextI y := by rw [← h2]; rfl
      have k2 : y.s = nm := by rw [← h2]; rfl
      rcases h with ⟨k3, -, -⟩ | ⟨-, -, rfl⟩ | ⟨-, k3, -⟩
      · exfalso
        unfold isNumI at k3
        rw [k3] at h2
        have : (textI nm).kind = (numI y.n).kind := by rw [h2]
        exact absurd (show (3 : Int) = 0 from this) (by decide)
      · rw [k2]
      · exact absurd ⟨k1, by rw [k2]; exact hn⟩ k3
/-- Scheme 2. -/
theorem ipn_good {y : It} {r : Nm} (h : IpnR y r) : (Right r → itE r = pairI (numI 2) y) ∧ ∀ e, Right e → itE e = pairI (numI 2) y → r = e := by
  constructor
  · intro hr
    rcases h with ⟨a, b, rfl, rfl⟩ | ⟨-, rfl⟩
    · rfl
    · exact absurd hr zero_not
  · intro e he hi
    obtain ⟨h1, h2⟩ := pair_inj hi
    have hs := num_inj h1
    have hsc : e.scheme = 2 := by rcases right_scheme he with h | h <;> omega
    obtain ⟨s, nm, nd, sv⟩ := e
    have hsc' : s = 2 := hsc
    subst hsc'
    rcases he with ⟨-, h4, -, -⟩ | ⟨h, -⟩
    · have h4' : nm = ⟨#[]⟩ := h4
      subst h4'
      have h2' : pairI (numI nd) (numI sv) = y := h2
      rcases h with ⟨a, b, rfl, rfl⟩ | ⟨k, -⟩
      · obtain ⟨k1, k2⟩ := pair_inj h2'
        rw [num_inj k1, num_inj k2]
      · exact absurd ⟨nd, sv, h2'.symm⟩ k
    · exact absurd (show (2 : Int) = 1 from h) (by decide)
theorem dtn_one {y : It} {r q : Nm} (h : DtnR y r) (k : DtnR y q) : r = q := by
  have hno : isNumI y → isTextI y → False := fun h1 h2 => by
    unfold isNumI at h1; unfold isTextI at h2
    have h3 : y.kind = 0 := by rw [h1]; rfl
    have h4 : y.kind = 3 := by rw [h2]; rfl
    omega
  rcases h with ⟨h1, h2, rfl⟩ | ⟨h1, h2, rfl⟩ | ⟨h1, h2, rfl⟩ <;> rcases k with ⟨k1, k2, rfl⟩ | ⟨k1, k2, rfl⟩ | ⟨k1, k2, rfl⟩
  · rfl
  · exact (hno h1 k1).elim
  · exact absurd ⟨h1, h2⟩ k1
  · exact (hno k1 h1).elim
  · rfl
  · exact absurd ⟨h1, h2⟩ k2
  · exact absurd ⟨k1, k2⟩ h1
  · exact absurd ⟨k1, k2⟩ h2
  · rfl
theorem ipn_one {y : It} {r q : Nm} (h : IpnR y r) (k : IpnR y q) : r = q := by
  rcases h with ⟨a, b, h1, rfl⟩ | ⟨h1, rfl⟩ <;> rcases k with ⟨c, d, k1, rfl⟩ | ⟨k1, rfl⟩
  · rw [h1] at k1
    obtain ⟨e1, e2⟩ := pair_inj k1
    rw [num_inj e1, num_inj e2]
  · exact absurd ⟨a, b, h1⟩ k1
  · exact absurd ⟨c, d, k1⟩ h1
  · rfl
theorem item_pair {e : Nm} : ∃ n y, itE e = pairI (numI n) y := ⟨_, _, rfl⟩
theorem item_num {e : Nm} {n : Nat} {y : It} (h : Right e) (hi : itE e = pairI (numI n) y) : n = 1 ∨ n = 2 := by
  have := num_inj (pair_inj hi).1
  rcases right_scheme h with k | k <;> omega

/-- Three boxes: the item's, the result's, and the guess. -/
structure OBox (w : World) (x : It) (sl : Value) (r g : Nm) (q : Nat) (X : World) : Prop where
  i : IBox w x sl r X
  g : EB X q g
  q : w.heap.size + 1 < q
theorem OBox.next {w : World} {x : It} {sl : Value} {r g : Nm} {q : Nat} {X Y : World} (h : OBox w x sl r g q X) (hb : Below X.heap.size X Y) : OBox w x sl r g q Y :=
  ⟨h.i.next hb, h.g.below hb h.g.lt, h.q⟩
theorem OBox.new {w : World} {x : It} {sl : Value} {r : Nm} {X : World} (h : IBox w x sl r X) (g : Nm) : OBox w x sl r g X.heap.size (X.alloc (.cells (eCells g) 24 (0, 0))) :=
  ⟨h.next ((Below.refl _ _).alloc (Nat.le_refl _) _), EB.new X g, h.res.lt⟩
theorem OBox.put {w : World} {x : It} {sl : Value} {r g f : Nm} {q : Nat} {X : World} (h : OBox w x sl r g q X) (F : World)
    (hF : ((((X.setCell ⟨q, 0, none⟩ (.int .i64 f.scheme)).setCell ⟨q, 1, none⟩ (.string f.name)).setCell ⟨q, 2, none⟩ (.int .u64 (f.node : Nat))).setCell ⟨q, 3, none⟩ (.int .u64 (f.service : Nat))) = F) : OBox w x sl r f q F := by
  have hq := h.q
  obtain ⟨h1, h2, h3⟩ := h.g.set_end (f := f) (B := w.heap.size) (by omega) F hF
  exact ⟨⟨(h3 _ (by omega)).trans h.i.box, (h3 _ (by omega)).trans h.i.res, h.i.below.trans h2⟩, h1, hq⟩

set_option maxHeartbeats 16000000 in
theorem of_not (y : It) (h : ¬ isPairI y) (A : Option Addr) (cap : Nat) (w : World) : Calls Tryd.prog 17 #[itV y (.slice A y.l.length cap)] w fun e w' => e = .returned (.tuple #[eV zeroE, .int .i64 2]) ∧ Below w.heap.size w w' := by
  have HP := Lib.hid (fun W => isPair_any y false ⟨fun h => (by cases h), fun k => absurd k h⟩ A cap W)
  clear h
  have h0 := IBox.new w y (.slice A y.l.length cap) zeroE
  generalize hW : (w.alloc (boxOf y (.slice A y.l.length cap))).alloc (.cells (eCells zeroE) 24 (0, 0)) = w1 at h0
  obtain ⟨k, n, s, l, o⟩ := y
  simp only [boxOf, eCells, zeroE, Int.cast_ofNat_Int, It.kind, It.n, It.s, It.l, It.opn, itV] at hW HP ⊢
  obtain ⟨c0, c1, c2, c3, c4⟩ := h0.cells
  have HX := Lib.hid h0; clear h0
  simp only [zeroE, It.kind, It.n, It.s, It.l, It.opn, Int.cast_ofNat_Int] at c0 c1 c2 c3 c4
  generalize l.length = len at *
  go_enter Tryd.func17, Tryd.ntmps17
  go_upto_region 1 with fail
  clear hW
  go_wp2_with fail
  refine (HP.out _).mono ?_
  rintro _ X ⟨rfl, hb⟩
  have h3 := HX.out.next hb
  clear hb c0 c1 c2 c3 c4 HX
  obtain ⟨r0, r1, r2, r3⟩ := h3.res.cells
  have rf := h3.res.free
  have HX := Lib.hid h3; clear h3
  simp only [zeroE, Int.cast_ofNat_Int] at r0 r1 r2 r3
  go_wp2
  generalize hF : ((((X.setCell ⟨w.heap.size + 1, 0, none⟩ (.int .i64 0)).setCell ⟨w.heap.size + 1, 1, none⟩ (.string ⟨#[]⟩)).setCell ⟨w.heap.size + 1, 2, none⟩ (.int .u64 0)).setCell ⟨w.heap.size + 1, 3, none⟩ (.int .u64 0)) = F
  have hfin := HX.out.fin (f := zeroE) F hF
  obtain ⟨f0, f1, f2, f3⟩ := hfin.res.cells
  clear hF
  exact bodyPost_ret (v := .tuple #[eV (zeroE), .int .i64 2]) (by simp [results, Tryd.results17, go_sem, f0, f1, f2, f3, eV, zeroE]) rfl ⟨rfl, hfin.below⟩

set_option maxHeartbeats 16000000 in
theorem of_first (y0 y1 : It) (b off cap : Nat) (s0 s1 : Value) (w : World) (B : Nat) (hB : B ≤ w.heap.size) (hb : b < B) (h5 : Two w b off y0 y1 s0 s1)
    (HN : Hid (∀ W, Below w.heap.size w W → Calls Tryd.prog 33 #[itV y0 s0] W fun e w' => e = .returned (.bool false) ∧ Below W.heap.size W w')) :
    Calls Tryd.prog 17 #[itV (pairI y0 y1) (.slice (some ⟨b, off, none⟩) 2 cap)] w fun e w' => e = .returned (.tuple #[eV zeroE, .int .i64 2]) ∧ Below w.heap.size w w' := by
  have HP := Lib.hid (fun W => isPair_any (pairI y0 y1) true ⟨fun _ => pair_is y0 y1, fun _ => rfl⟩ (some ⟨b, off, none⟩) cap W)
  have h0 := IBox.new w (pairI y0 y1) (.slice (some ⟨b, off, none⟩) 2 cap) zeroE
  generalize hW : (w.alloc (boxOf (pairI y0 y1) (.slice (some ⟨b, off, none⟩) 2 cap))).alloc (.cells (eCells zeroE) 24 (0, 0)) = w1 at h0
  have hkeep : ∀ W, Below w.heap.size w W → Two W b off y0 y1 s0 s1 := fun W h => h5.below h (by omega)
  have HK := Lib.hid hkeep; clear hkeep h5
  have HBB := Lib.hid (And.intro hB hb); clear hB hb
  obtain ⟨k0, n0, t0, l0, o0⟩ := y0
  obtain ⟨k1, n1, t1, l1, o1⟩ := y1
  simp only [boxOf, eCells, zeroE, Int.cast_ofNat_Int, It.kind, It.n, It.s, It.l, It.opn, itV, pairI, List.length_cons, List.length_nil] at hW HP HN ⊢
  obtain ⟨c0, c1, c2, c3, c4⟩ := h0.cells
  have HX := Lib.hid h0; clear h0
  simp only [zeroE, It.kind, It.n, It.s, It.l, It.opn, pairI, Int.cast_ofNat_Int] at c0 c1 c2 c3 c4
  go_enter Tryd.func17, Tryd.ntmps17
  go_upto_region 1 with fail
  clear hW
  go_wp2_with fail
  refine (HP.out _).mono ?_
  rintro _ X ⟨rfl, hb⟩
  have h3 := HX.out.next hb
  clear hb c0 c1 c2 c3 c4 HX
  obtain ⟨c0, c1, c2, c3, c4⟩ := h3.cells
  obtain ⟨r0, r1, r2, r3⟩ := h3.res.cells
  have rf := h3.res.free
  have h5 := HK.out _ h3.below
  have a0 := h5.a.c0
  have a1 := h5.a.c1
  have a2 := h5.a.c2
  have a3 := h5.a.c3
  have a4 := h5.a.c4
  have b0 := h5.b.c0
  have b1 := h5.b.c1
  have b2 := h5.b.c2
  have b3 := h5.b.c3
  have b4 := h5.b.c4
  have HX := Lib.hid h3; clear h3 h5
  simp only [zeroE, numI, It.kind, It.n, It.s, It.l, It.opn, pairI, Int.cast_ofNat_Int] at c0 c1 c2 c3 c4 a0 a1 a2 a3 a4 b0 b1 b2 b3 b4 r0 r1 r2 r3
  go_wp2_with fail
  refine (HN.out _ HX.out.below).mono ?_
  rintro _ X2 ⟨rfl, hb⟩
  have h3 := HX.out.next hb
  clear hb HX
  clear c0 c1 c2 c3 c4 a0 a1 a2 a3 a4 b0 b1 b2 b3 b4 r0 r1 r2 r3 rf
  obtain ⟨c0, c1, c2, c3, c4⟩ := h3.cells
  obtain ⟨r0, r1, r2, r3⟩ := h3.res.cells
  have rf := h3.res.free
  have h5 := HK.out _ h3.below
  have a0 := h5.a.c0
  have a1 := h5.a.c1
  have a2 := h5.a.c2
  have a3 := h5.a.c3
  have a4 := h5.a.c4
  have b0 := h5.b.c0
  have b1 := h5.b.c1
  have b2 := h5.b.c2
  have b3 := h5.b.c3
  have b4 := h5.b.c4
  have HX := Lib.hid h3; clear h3 h5
  simp only [zeroE, numI, It.kind, It.n, It.s, It.l, It.opn, pairI, Int.cast_ofNat_Int] at c0 c1 c2 c3 c4 a0 a1 a2 a3 a4 b0 b1 b2 b3 b4 r0 r1 r2 r3
  go_wp2
  generalize hF : ((((X2.setCell ⟨w.heap.size + 1, 0, none⟩ (.int .i64 0)).setCell ⟨w.heap.size + 1, 1, none⟩ (.string ⟨#[]⟩)).setCell ⟨w.heap.size + 1, 2, none⟩ (.int .u64 0)).setCell ⟨w.heap.size + 1, 3, none⟩ (.int .u64 0)) = F
  have hfin := HX.out.fin (f := zeroE) F hF
  obtain ⟨f0, f1, f2, f3⟩ := hfin.res.cells
  clear hF
  exact bodyPost_ret (v := .tuple #[eV (zeroE), .int .i64 2]) (by simp [results, Tryd.results17, go_sem, f0, f1, f2, f3, eV, zeroE]) rfl ⟨rfl, hfin.below⟩

set_option maxHeartbeats 32000000 in
theorem of_dtn (r : Nm) (rb : Bool) (y0 y1 : It) (b off cap : Nat) (s0 s1 : Value) (w : World) (B : Nat) (hB : B ≤ w.heap.size) (hb : b < B) (h5 : Two w b off y0 y1 s0 s1)
    (HN : Hid (∀ W, Below w.heap.size w W → Calls Tryd.prog 33 #[itV y0 s0] W fun e w' => e = .returned (.bool true) ∧ Below W.heap.size W w'))
    (HC : Hid (∀ W, Below w.heap.size w W → Calls Tryd.prog 34 #[itV y1 s1] W fun e w' => e = .returned (eV r) ∧ Below W.heap.size W w'))
    (HR : Hid (∀ W, Calls Tryd.prog 11 #[eV r] W fun e w' => e = .returned (.bool rb) ∧ Below W.heap.size W w'))
    (hn : y0.n = 1) :
    Calls Tryd.prog 17 #[itV (pairI y0 y1) (.slice (some ⟨b, off, none⟩) 2 cap)] w fun e w' => e = .returned (.tuple #[eV (if rb then r else zeroE), .int .i64 (if rb then 0 else 2)]) ∧ Below w.heap.size w w' := by
  obtain ⟨g0, g1, g2, g3⟩ := r
  have HNN := Lib.hid hn; clear hn
  have HP := Lib.hid (fun W => isPair_any (pairI y0 y1) true ⟨fun _ => pair_is y0 y1, fun _ => rfl⟩ (some ⟨b, off, none⟩) cap W)
  have h0 := IBox.new w (pairI y0 y1) (.slice (some ⟨b, off, none⟩) 2 cap) zeroE
  generalize hW : (w.alloc (boxOf (pairI y0 y1) (.slice (some ⟨b, off, none⟩) 2 cap))).alloc (.cells (eCells zeroE) 24 (0, 0)) = w1 at h0
  have hkeep : ∀ W, Below w.heap.size w W → Two W b off y0 y1 s0 s1 := fun W h => h5.below h (by omega)
  have HK := Lib.hid hkeep; clear hkeep h5
  have HBB := Lib.hid (And.intro hB hb); clear hB hb
  obtain ⟨k0, n0, t0, l0, o0⟩ := y0
  obtain ⟨k1, n1, t1, l1, o1⟩ := y1
  simp only [boxOf, eCells, zeroE, eV, Int.cast_ofNat_Int, It.kind, It.n, It.s, It.l, It.opn, itV, pairI, List.length_cons, List.length_nil] at hW HP HN HR HC ⊢
  obtain ⟨c0, c1, c2, c3, c4⟩ := h0.cells
  have HX := Lib.hid h0; clear h0
  simp only [zeroE, It.kind, It.n, It.s, It.l, It.opn, pairI, Int.cast_ofNat_Int] at c0 c1 c2 c3 c4
  go_enter Tryd.func17, Tryd.ntmps17
  go_upto_region 1 with fail
  clear hW
  go_wp2_with fail
  refine (HP.out _).mono ?_
  rintro _ X ⟨rfl, hb⟩
  have h3 := HX.out.next hb
  clear hb c0 c1 c2 c3 c4 HX
  obtain ⟨c0, c1, c2, c3, c4⟩ := h3.cells
  obtain ⟨r0, r1, r2, r3⟩ := h3.res.cells
  have rf := h3.res.free
  have h5 := HK.out _ h3.below
  have a0 := h5.a.c0
  have a1 := h5.a.c1
  have a2 := h5.a.c2
  have a3 := h5.a.c3
  have a4 := h5.a.c4
  have b0 := h5.b.c0
  have b1 := h5.b.c1
  have b2 := h5.b.c2
  have b3 := h5.b.c3
  have b4 := h5.b.c4
  have HX := Lib.hid h3; clear h3 h5
  simp only [zeroE, numI, It.kind, It.n, It.s, It.l, It.opn, pairI, Int.cast_ofNat_Int] at c0 c1 c2 c3 c4 a0 a1 a2 a3 a4 b0 b1 b2 b3 b4 r0 r1 r2 r3
  go_wp2_with fail
  refine (HN.out _ HX.out.below).mono ?_
  rintro _ X2 ⟨rfl, hb⟩
  have h3 := HX.out.next hb
  clear hb HX
  clear c0 c1 c2 c3 c4 a0 a1 a2 a3 a4 b0 b1 b2 b3 b4 r0 r1 r2 r3 rf
  obtain ⟨c0, c1, c2, c3, c4⟩ := h3.cells
  obtain ⟨r0, r1, r2, r3⟩ := h3.res.cells
  have rf := h3.res.free
  have h5 := HK.out _ h3.below
  have a0 := h5.a.c0
  have a1 := h5.a.c1
  have a2 := h5.a.c2
  have a3 := h5.a.c3
  have a4 := h5.a.c4
  have b0 := h5.b.c0
  have b1 := h5.b.c1
  have b2 := h5.b.c2
  have b3 := h5.b.c3
  have b4 := h5.b.c4
  have HX := Lib.hid h3; clear h3 h5
  simp only [zeroE, numI, It.kind, It.n, It.s, It.l, It.opn, pairI, Int.cast_ofNat_Int] at c0 c1 c2 c3 c4 a0 a1 a2 a3 a4 b0 b1 b2 b3 b4 r0 r1 r2 r3
  have hn' : n0 = 1 := HNN.out
  subst hn'
  clear HNN
  go_upto_region 4 with fail
  have h4 := OBox.new HX.out zeroE
  clear HX
  clear c0 c1 c2 c3 c4 a0 a1 a2 a3 a4 b0 b1 b2 b3 b4 r0 r1 r2 r3 rf
  simp only [eCells, zeroE, Int.cast_ofNat_Int] at h4
  generalize X2.alloc (.cells #[.int .i64 0, .string ⟨#[]⟩, .int .u64 0, .int .u64 0] 24) = X3 at *
  generalize X2.heap.size = q at *
  have h3 := h4.i
  obtain ⟨c0, c1, c2, c3, c4⟩ := h3.cells
  obtain ⟨r0, r1, r2, r3⟩ := h3.res.cells
  have rf := h3.res.free
  have h5 := HK.out _ h3.below
  have a0 := h5.a.c0
  have a1 := h5.a.c1
  have a2 := h5.a.c2
  have a3 := h5.a.c3
  have a4 := h5.a.c4
  have b0 := h5.b.c0
  have b1 := h5.b.c1
  have b2 := h5.b.c2
  have b3 := h5.b.c3
  have b4 := h5.b.c4
  clear h3 h5
  simp only [zeroE, numI, It.kind, It.n, It.s, It.l, It.opn, pairI, Int.cast_ofNat_Int] at c0 c1 c2 c3 c4 a0 a1 a2 a3 a4 b0 b1 b2 b3 b4 r0 r1 r2 r3
  have HO := Lib.hid h4; clear h4
  go_wp2_with fail
  refine (HC.out _ HO.out.i.below).mono ?_
  rintro _ X4 ⟨rfl, hb⟩
  have h4 := HO.out.next hb
  clear hb HO
  clear c0 c1 c2 c3 c4 a0 a1 a2 a3 a4 b0 b1 b2 b3 b4 r0 r1 r2 r3 rf
  obtain ⟨d0, d1, d2, d3⟩ := h4.g.cells
  have df := h4.g.free
  have hq := h4.q
  simp only [zeroE, Int.cast_ofNat_Int] at d0 d1 d2 d3
  have HO := Lib.hid h4; clear h4
  go_upto_region 9 with fail
  clear d0 d1 d2 d3 df
  generalize hF : ((((X4.setCell ⟨q, 0, none⟩ (.int .i64 g0)).setCell ⟨q, 1, none⟩ (.string g1)).setCell ⟨q, 2, none⟩ (.int .u64 (g2 : Nat))).setCell ⟨q, 3, none⟩ (.int .u64 (g3 : Nat))) = X5
  have h4 := HO.out.put (f := ⟨g0, g1, g2, g3⟩) X5 hF
  clear hF HO
  obtain ⟨d0, d1, d2, d3⟩ := h4.g.cells
  simp only [zeroE, Int.cast_ofNat_Int] at d0 d1 d2 d3
  have HO := Lib.hid h4; clear h4
  go_wp2_with fail
  refine (HR.out _).mono ?_
  rintro _ X6 ⟨rfl, hb⟩
  have h4 := HO.out.next hb
  clear hb HO d0 d1 d2 d3
  obtain ⟨d0, d1, d2, d3⟩ := h4.g.cells
  obtain ⟨r0, r1, r2, r3⟩ := h4.i.res.cells
  have rf := h4.i.res.free
  have HX := Lib.hid h4.i; clear h4
  simp only [zeroE, Int.cast_ofNat_Int] at d0 d1 d2 d3 r0 r1 r2 r3
  cases rb with
  | false =>
    go_wp2
    generalize hF : ((((X6.setCell ⟨w.heap.size + 1, 0, none⟩ (.int .i64 0)).setCell ⟨w.heap.size + 1, 1, none⟩ (.string ⟨#[]⟩)).setCell ⟨w.heap.size + 1, 2, none⟩ (.int .u64 0)).setCell ⟨w.heap.size + 1, 3, none⟩ (.int .u64 0)) = F
    have hfin := HX.out.fin (f := zeroE) F hF
    obtain ⟨f0, f1, f2, f3⟩ := hfin.res.cells
    clear hF
    exact bodyPost_ret (v := .tuple #[eV (zeroE), .int .i64 2]) (by simp [results, Tryd.results17, go_sem, f0, f1, f2, f3, eV, zeroE]) rfl ⟨rfl, hfin.below⟩
  | true =>
    go_wp2
    generalize hF : ((((X6.setCell ⟨w.heap.size + 1, 0, none⟩ (.int .i64 g0)).setCell ⟨w.heap.size + 1, 1, none⟩ (.string g1)).setCell ⟨w.heap.size + 1, 2, none⟩ (.int .u64 (g2 : Nat))).setCell ⟨w.heap.size + 1, 3, none⟩ (.int .u64 (g3 : Nat))) = F
    have hfin := HX.out.fin (f := ⟨g0, g1, g2, g3⟩) F hF
    obtain ⟨f0, f1, f2, f3⟩ := hfin.res.cells
    clear hF
    exact bodyPost_ret (v := .tuple #[eV (⟨g0, g1, g2, g3⟩), .int .i64 0]) (by simp [results, Tryd.results17, go_sem, f0, f1, f2, f3, eV, zeroE]) rfl ⟨rfl, hfin.below⟩

set_option maxHeartbeats 32000000 in
theorem of_ipn (r : Nm) (rb : Bool) (y0 y1 : It) (b off cap : Nat) (s0 s1 : Value) (w : World) (B : Nat) (hB : B ≤ w.heap.size) (hb : b < B) (h5 : Two w b off y0 y1 s0 s1)
    (HN : Hid (∀ W, Below w.heap.size w W → Calls Tryd.prog 33 #[itV y0 s0] W fun e w' => e = .returned (.bool true) ∧ Below W.heap.size W w'))
    (HC : Hid (∀ W, Below w.heap.size w W → Calls Tryd.prog 35 #[itV y1 s1] W fun e w' => e = .returned (eV r) ∧ Below W.heap.size W w'))
    (HR : Hid (∀ W, Calls Tryd.prog 11 #[eV r] W fun e w' => e = .returned (.bool rb) ∧ Below W.heap.size W w'))
    (hn : y0.n = 2) :
    Calls Tryd.prog 17 #[itV (pairI y0 y1) (.slice (some ⟨b, off, none⟩) 2 cap)] w fun e w' => e = .returned (.tuple #[eV (if rb then r else zeroE), .int .i64 (if rb then 0 else 2)]) ∧ Below w.heap.size w w' := by
  obtain ⟨g0, g1, g2, g3⟩ := r
  have HNN := Lib.hid hn; clear hn
  have HP := Lib.hid (fun W => isPair_any (pairI y0 y1) true ⟨fun _ => pair_is y0 y1, fun _ => rfl⟩ (some ⟨b, off, none⟩) cap W)
  have h0 := IBox.new w (pairI y0 y1) (.slice (some ⟨b, off, none⟩) 2 cap) zeroE
  generalize hW : (w.alloc (boxOf (pairI y0 y1) (.slice (some ⟨b, off, none⟩) 2 cap))).alloc (.cells (eCells zeroE) 24 (0, 0)) = w1 at h0
  have hkeep : ∀ W, Below w.heap.size w W → Two W b off y0 y1 s0 s1 := fun W h => h5.below h (by omega)
  have HK := Lib.hid hkeep; clear hkeep h5
  have HBB := Lib.hid (And.intro hB hb); clear hB hb
  obtain ⟨k0, n0, t0, l0, o0⟩ := y0
  obtain ⟨k1, n1, t1, l1, o1⟩ := y1
  simp only [boxOf, eCells, zeroE, eV, Int.cast_ofNat_Int, It.kind, It.n, It.s, It.l, It.opn, itV, pairI, List.length_cons, List.length_nil] at hW HP HN HR HC ⊢
  obtain ⟨c0, c1, c2, c3, c4⟩ := h0.cells
  have HX := Lib.hid h0; clear h0
  simp only [zeroE, It.kind, It.n, It.s, It.l, It.opn, pairI, Int.cast_ofNat_Int] at c0 c1 c2 c3 c4
  go_enter Tryd.func17, Tryd.ntmps17
  go_upto_region 1 with fail
  clear hW
  go_wp2_with fail
  refine (HP.out _).mono ?_
  rintro _ X ⟨rfl, hb⟩
  have h3 := HX.out.next hb
  clear hb c0 c1 c2 c3 c4 HX
  obtain ⟨c0, c1, c2, c3, c4⟩ := h3.cells
  obtain ⟨r0, r1, r2, r3⟩ := h3.res.cells
  have rf := h3.res.free
  have h5 := HK.out _ h3.below
  have a0 := h5.a.c0
  have a1 := h5.a.c1
  have a2 := h5.a.c2
  have a3 := h5.a.c3
  have a4 := h5.a.c4
  have b0 := h5.b.c0
  have b1 := h5.b.c1
  have b2 := h5.b.c2
  have b3 := h5.b.c3
  have b4 := h5.b.c4
  have HX := Lib.hid h3; clear h3 h5
  simp only [zeroE, numI, It.kind, It.n, It.s, It.l, It.opn, pairI, Int.cast_ofNat_Int] at c0 c1 c2 c3 c4 a0 a1 a2 a3 a4 b0 b1 b2 b3 b4 r0 r1 r2 r3
  go_wp2_with fail
  refine (HN.out _ HX.out.below).mono ?_
  rintro _ X2 ⟨rfl, hb⟩
  have h3 := HX.out.next hb
  clear hb HX
  clear c0 c1 c2 c3 c4 a0 a1 a2 a3 a4 b0 b1 b2 b3 b4 r0 r1 r2 r3 rf
  obtain ⟨c0, c1, c2, c3, c4⟩ := h3.cells
  obtain ⟨r0, r1, r2, r3⟩ := h3.res.cells
  have rf := h3.res.free
  have h5 := HK.out _ h3.below
  have a0 := h5.a.c0
  have a1 := h5.a.c1
  have a2 := h5.a.c2
  have a3 := h5.a.c3
  have a4 := h5.a.c4
  have b0 := h5.b.c0
  have b1 := h5.b.c1
  have b2 := h5.b.c2
  have b3 := h5.b.c3
  have b4 := h5.b.c4
  have HX := Lib.hid h3; clear h3 h5
  simp only [zeroE, numI, It.kind, It.n, It.s, It.l, It.opn, pairI, Int.cast_ofNat_Int] at c0 c1 c2 c3 c4 a0 a1 a2 a3 a4 b0 b1 b2 b3 b4 r0 r1 r2 r3
  have hn' : n0 = 2 := HNN.out
  subst hn'
  clear HNN
  go_upto_region 4 with fail
  have h4 := OBox.new HX.out zeroE
  clear HX
  clear c0 c1 c2 c3 c4 a0 a1 a2 a3 a4 b0 b1 b2 b3 b4 r0 r1 r2 r3 rf
  simp only [eCells, zeroE, Int.cast_ofNat_Int] at h4
  generalize X2.alloc (.cells #[.int .i64 0, .string ⟨#[]⟩, .int .u64 0, .int .u64 0] 24) = X3 at *
  generalize X2.heap.size = q at *
  have h3 := h4.i
  obtain ⟨c0, c1, c2, c3, c4⟩ := h3.cells
  obtain ⟨r0, r1, r2, r3⟩ := h3.res.cells
  have rf := h3.res.free
  have h5 := HK.out _ h3.below
  have a0 := h5.a.c0
  have a1 := h5.a.c1
  have a2 := h5.a.c2
  have a3 := h5.a.c3
  have a4 := h5.a.c4
  have b0 := h5.b.c0
  have b1 := h5.b.c1
  have b2 := h5.b.c2
  have b3 := h5.b.c3
  have b4 := h5.b.c4
  clear h3 h5
  simp only [zeroE, numI, It.kind, It.n, It.s, It.l, It.opn, pairI, Int.cast_ofNat_Int] at c0 c1 c2 c3 c4 a0 a1 a2 a3 a4 b0 b1 b2 b3 b4 r0 r1 r2 r3
  have HO := Lib.hid h4; clear h4
  go_wp2_with fail
  refine (HC.out _ HO.out.i.below).mono ?_
  rintro _ X4 ⟨rfl, hb⟩
  have h4 := HO.out.next hb
  clear hb HO
  clear c0 c1 c2 c3 c4 a0 a1 a2 a3 a4 b0 b1 b2 b3 b4 r0 r1 r2 r3 rf
  obtain ⟨d0, d1, d2, d3⟩ := h4.g.cells
  have df := h4.g.free
  have hq := h4.q
  simp only [zeroE, Int.cast_ofNat_Int] at d0 d1 d2 d3
  have HO := Lib.hid h4; clear h4
  go_upto_region 9 with fail
  clear d0 d1 d2 d3 df
  generalize hF : ((((X4.setCell ⟨q, 0, none⟩ (.int .i64 g0)).setCell ⟨q, 1, none⟩ (.string g1)).setCell ⟨q, 2, none⟩ (.int .u64 (g2 : Nat))).setCell ⟨q, 3, none⟩ (.int .u64 (g3 : Nat))) = X5
  have h4 := HO.out.put (f := ⟨g0, g1, g2, g3⟩) X5 hF
  clear hF HO
  obtain ⟨d0, d1, d2, d3⟩ := h4.g.cells
  simp only [zeroE, Int.cast_ofNat_Int] at d0 d1 d2 d3
  have HO := Lib.hid h4; clear h4
  go_wp2_with fail
  refine (HR.out _).mono ?_
  rintro _ X6 ⟨rfl, hb⟩
  have h4 := HO.out.next hb
  clear hb HO d0 d1 d2 d3
  obtain ⟨d0, d1, d2, d3⟩ := h4.g.cells
  obtain ⟨r0, r1, r2, r3⟩ := h4.i.res.cells
  have rf := h4.i.res.free
  have HX := Lib.hid h4.i; clear h4
  simp only [zeroE, Int.cast_ofNat_Int] at d0 d1 d2 d3 r0 r1 r2 r3
  cases rb with
  | false =>
    go_wp2
    generalize hF : ((((X6.setCell ⟨w.heap.size + 1, 0, none⟩ (.int .i64 0)).setCell ⟨w.heap.size + 1, 1, none⟩ (.string ⟨#[]⟩)).setCell ⟨w.heap.size + 1, 2, none⟩ (.int .u64 0)).setCell ⟨w.heap.size + 1, 3, none⟩ (.int .u64 0)) = F
    have hfin := HX.out.fin (f := zeroE) F hF
    obtain ⟨f0, f1, f2, f3⟩ := hfin.res.cells
    clear hF
    exact bodyPost_ret (v := .tuple #[eV (zeroE), .int .i64 2]) (by simp [results, Tryd.results17, go_sem, f0, f1, f2, f3, eV, zeroE]) rfl ⟨rfl, hfin.below⟩
  | true =>
    go_wp2
    generalize hF : ((((X6.setCell ⟨w.heap.size + 1, 0, none⟩ (.int .i64 g0)).setCell ⟨w.heap.size + 1, 1, none⟩ (.string g1)).setCell ⟨w.heap.size + 1, 2, none⟩ (.int .u64 (g2 : Nat))).setCell ⟨w.heap.size + 1, 3, none⟩ (.int .u64 (g3 : Nat))) = F
    have hfin := HX.out.fin (f := ⟨g0, g1, g2, g3⟩) F hF
    obtain ⟨f0, f1, f2, f3⟩ := hfin.res.cells
    clear hF
    exact bodyPost_ret (v := .tuple #[eV (⟨g0, g1, g2, g3⟩), .int .i64 0]) (by simp [results, Tryd.results17, go_sem, f0, f1, f2, f3, eV, zeroE]) rfl ⟨rfl, hfin.below⟩

set_option maxHeartbeats 32000000 in
theorem of_other (r : Nm) (rb : Bool) (y0 y1 : It) (b off cap : Nat) (s0 s1 : Value) (w : World) (B : Nat) (hB : B ≤ w.heap.size) (hb : b < B) (h5 : Two w b off y0 y1 s0 s1)
    (HN : Hid (∀ W, Below w.heap.size w W → Calls Tryd.prog 33 #[itV y0 s0] W fun e w' => e = .returned (.bool true) ∧ Below W.heap.size W w'))
    (HR : Hid (∀ W, Calls Tryd.prog 11 #[eV r] W fun e w' => e = .returned (.bool rb) ∧ Below W.heap.size W w'))
    (hn : y0.n ≠ 1 ∧ y0.n ≠ 2) (hr : r = zeroE) :
    Calls Tryd.prog 17 #[itV (pairI y0 y1) (.slice (some ⟨b, off, none⟩) 2 cap)] w fun e w' => e = .returned (.tuple #[eV (if rb then r else zeroE), .int .i64 (if rb then 0 else 2)]) ∧ Below w.heap.size w w' := by
  subst hr
  have HNN := Lib.hid hn; clear hn
  have HP := Lib.hid (fun W => isPair_any (pairI y0 y1) true ⟨fun _ => pair_is y0 y1, fun _ => rfl⟩ (some ⟨b, off, none⟩) cap W)
  have h0 := IBox.new w (pairI y0 y1) (.slice (some ⟨b, off, none⟩) 2 cap) zeroE
  generalize hW : (w.alloc (boxOf (pairI y0 y1) (.slice (some ⟨b, off, none⟩) 2 cap))).alloc (.cells (eCells zeroE) 24 (0, 0)) = w1 at h0
  have hkeep : ∀ W, Below w.heap.size w W → Two W b off y0 y1 s0 s1 := fun W h => h5.below h (by omega)
  have HK := Lib.hid hkeep; clear hkeep h5
  have HBB := Lib.hid (And.intro hB hb); clear hB hb
  obtain ⟨k0, n0, t0, l0, o0⟩ := y0
  obtain ⟨k1, n1, t1, l1, o1⟩ := y1
  simp only [boxOf, eCells, zeroE, eV, Int.cast_ofNat_Int, It.kind, It.n, It.s, It.l, It.opn, itV, pairI, List.length_cons, List.length_nil] at hW HP HN HR ⊢
  obtain ⟨c0, c1, c2, c3, c4⟩ := h0.cells
  have HX := Lib.hid h0; clear h0
  simp only [zeroE, It.kind, It.n, It.s, It.l, It.opn, pairI, Int.cast_ofNat_Int] at c0 c1 c2 c3 c4
  go_enter Tryd.func17, Tryd.ntmps17
  go_upto_region 1 with fail
  clear hW
  go_wp2_with fail
  refine (HP.out _).mono ?_
  rintro _ X ⟨rfl, hb⟩
  have h3 := HX.out.next hb
  clear hb c0 c1 c2 c3 c4 HX
  obtain ⟨c0, c1, c2, c3, c4⟩ := h3.cells
  obtain ⟨r0, r1, r2, r3⟩ := h3.res.cells
  have rf := h3.res.free
  have h5 := HK.out _ h3.below
  have a0 := h5.a.c0
  have a1 := h5.a.c1
  have a2 := h5.a.c2
  have a3 := h5.a.c3
  have a4 := h5.a.c4
  have b0 := h5.b.c0
  have b1 := h5.b.c1
  have b2 := h5.b.c2
  have b3 := h5.b.c3
  have b4 := h5.b.c4
  have HX := Lib.hid h3; clear h3 h5
  simp only [zeroE, numI, It.kind, It.n, It.s, It.l, It.opn, pairI, Int.cast_ofNat_Int] at c0 c1 c2 c3 c4 a0 a1 a2 a3 a4 b0 b1 b2 b3 b4 r0 r1 r2 r3
  go_wp2_with fail
  refine (HN.out _ HX.out.below).mono ?_
  rintro _ X2 ⟨rfl, hb⟩
  have h3 := HX.out.next hb
  clear hb HX
  clear c0 c1 c2 c3 c4 a0 a1 a2 a3 a4 b0 b1 b2 b3 b4 r0 r1 r2 r3 rf
  obtain ⟨c0, c1, c2, c3, c4⟩ := h3.cells
  obtain ⟨r0, r1, r2, r3⟩ := h3.res.cells
  have rf := h3.res.free
  have h5 := HK.out _ h3.below
  have a0 := h5.a.c0
  have a1 := h5.a.c1
  have a2 := h5.a.c2
  have a3 := h5.a.c3
  have a4 := h5.a.c4
  have b0 := h5.b.c0
  have b1 := h5.b.c1
  have b2 := h5.b.c2
  have b3 := h5.b.c3
  have b4 := h5.b.c4
  have HX := Lib.hid h3; clear h3 h5
  simp only [zeroE, numI, It.kind, It.n, It.s, It.l, It.opn, pairI, Int.cast_ofNat_Int] at c0 c1 c2 c3 c4 a0 a1 a2 a3 a4 b0 b1 b2 b3 b4 r0 r1 r2 r3
  have hn : n0 ≠ 1 ∧ n0 ≠ 2 := HNN.out
  have m1 : ((n0 : Int) == 1) = false := by simp; omega
  have m2 : ((n0 : Int) == 2) = false := by simp; omega
  have m3 : decide ((n0 : Int) = 1) = false := by simp; omega
  have m4 : decide ((n0 : Int) = 2) = false := by simp; omega
  clear hn HNN
  go_upto_region 4 with fail
  have h4 := OBox.new HX.out zeroE
  clear HX
  clear c0 c1 c2 c3 c4 a0 a1 a2 a3 a4 b0 b1 b2 b3 b4 r0 r1 r2 r3 rf
  simp only [eCells, zeroE, Int.cast_ofNat_Int] at h4
  generalize X2.alloc (.cells #[.int .i64 0, .string ⟨#[]⟩, .int .u64 0, .int .u64 0] 24) = X3 at *
  generalize X2.heap.size = q at *
  have h3 := h4.i
  obtain ⟨c0, c1, c2, c3, c4⟩ := h3.cells
  obtain ⟨r0, r1, r2, r3⟩ := h3.res.cells
  have rf := h3.res.free
  have h5 := HK.out _ h3.below
  have a0 := h5.a.c0
  have a1 := h5.a.c1
  have a2 := h5.a.c2
  have a3 := h5.a.c3
  have a4 := h5.a.c4
  have b0 := h5.b.c0
  have b1 := h5.b.c1
  have b2 := h5.b.c2
  have b3 := h5.b.c3
  have b4 := h5.b.c4
  clear h3 h5
  simp only [zeroE, numI, It.kind, It.n, It.s, It.l, It.opn, pairI, Int.cast_ofNat_Int] at c0 c1 c2 c3 c4 a0 a1 a2 a3 a4 b0 b1 b2 b3 b4 r0 r1 r2 r3
  go_upto_region 9 with fail
  clear c0 c1 c2 c3 c4 a0 a1 a2 a3 a4 b0 b1 b2 b3 b4 r0 r1 r2 r3 rf
  have hq := h4.q
  generalize X3 = X5 at *
  obtain ⟨d0, d1, d2, d3⟩ := h4.g.cells
  simp only [zeroE, Int.cast_ofNat_Int] at d0 d1 d2 d3
  have HO := Lib.hid h4; clear h4
  go_wp2_with fail
  refine (HR.out _).mono ?_
  rintro _ X6 ⟨rfl, hb⟩
  have h4 := HO.out.next hb
  clear hb HO d0 d1 d2 d3
  obtain ⟨d0, d1, d2, d3⟩ := h4.g.cells
  obtain ⟨r0, r1, r2, r3⟩ := h4.i.res.cells
  have rf := h4.i.res.free
  have HX := Lib.hid h4.i; clear h4
  simp only [zeroE, Int.cast_ofNat_Int] at d0 d1 d2 d3 r0 r1 r2 r3
  cases rb with
  | false =>
    go_wp2
    generalize hF : ((((X6.setCell ⟨w.heap.size + 1, 0, none⟩ (.int .i64 0)).setCell ⟨w.heap.size + 1, 1, none⟩ (.string ⟨#[]⟩)).setCell ⟨w.heap.size + 1, 2, none⟩ (.int .u64 0)).setCell ⟨w.heap.size + 1, 3, none⟩ (.int .u64 0)) = F
    have hfin := HX.out.fin (f := zeroE) F hF
    obtain ⟨f0, f1, f2, f3⟩ := hfin.res.cells
    clear hF
    exact bodyPost_ret (v := .tuple #[eV (zeroE), .int .i64 2]) (by simp [results, Tryd.results17, go_sem, f0, f1, f2, f3, eV, zeroE]) rfl ⟨rfl, hfin.below⟩
  | true =>
    go_wp2
    generalize hF : ((((X6.setCell ⟨w.heap.size + 1, 0, none⟩ (.int .i64 0)).setCell ⟨w.heap.size + 1, 1, none⟩ (.string ⟨#[]⟩)).setCell ⟨w.heap.size + 1, 2, none⟩ (.int .u64 0)).setCell ⟨w.heap.size + 1, 3, none⟩ (.int .u64 0)) = F
    have hfin := HX.out.fin (f := zeroE) F hF
    obtain ⟨f0, f1, f2, f3⟩ := hfin.res.cells
    clear hF
    exact bodyPost_ret (v := .tuple #[eV (zeroE), .int .i64 0]) (by simp [results, Tryd.results17, go_sem, f0, f1, f2, f3, eV, zeroE]) rfl ⟨rfl, hfin.below⟩

/-- eid.Of. -/
theorem of_any (x : It) (hs : ∀ y ∈ x.l, y.s.size ≤ 1099511627776) (w : World) (B : Nat) (v : Value) (hB : B ≤ w.heap.size) (hx : Lies w B x v) : ∃ r c, OfR x r c ∧ Calls Tryd.prog 17 #[v] w fun e w' => e = .returned (.tuple #[eV r, .int .i64 c]) ∧ Below w.heap.size w w' := by
  obtain ⟨A, cap, rfl, hf, he⟩ := hx.out
  by_cases hp : isPairI x
  · obtain ⟨y0, y1, rfl⟩ := isPair_of hp
    obtain ⟨b, off, s0, rfl, hb, h0, l0⟩ := he 0 y0 rfl
    obtain ⟨b', off', s1, e1, hb', h1, l1⟩ := he 1 y1 rfl
    simp only [Option.some.injEq, Addr.mk.injEq, and_true] at e1
    obtain ⟨rfl, rfl⟩ := e1
    simp only [Nat.zero_mul, Nat.add_zero, Nat.one_mul] at h0 h1
    have hs1 : y1.s.size ≤ 1099511627776 := hs y1 (by simp [pairI, It.l])
    have hle : ∀ W, Below w.heap.size w W → B ≤ W.heap.size := fun W h => Nat.le_trans hB h.size
    have HN : ∀ c : Bool, (c = true ↔ isNumI y0) → Hid (∀ W, Below w.heap.size w W → Calls Tryd.prog 33 #[itV y0 s0] W fun e w' => e = .returned (.bool c) ∧ Below W.heap.size W w') := fun c hc => Lib.hid fun W hW => isNumber_any y0 c hc W B _ (hle W hW) (l0.keep (hW.mono hB))
    by_cases hn : isNumI y0
    · have hn0 := HN true ⟨fun _ => hn, fun _ => rfl⟩
      have hx0 : y0 = numI y0.n := hn
      have rsize : ∀ r, DtnR y1 r ∨ IpnR y1 r ∨ r = zeroE → r.name.size ≤ 1099511627776 := fun r h => by
        rcases h with (⟨-, -, rfl⟩ | ⟨-, -, rfl⟩ | ⟨-, -, rfl⟩) | (⟨a, c, -, rfl⟩ | ⟨-, rfl⟩) | rfl
        · decide
        · exact hs1
        · decide
        · show (⟨#[]⟩ : ByteArray).size ≤ _; decide
        · decide
        · decide
      have HR : ∀ r : Nm, r.name.size ≤ 1099511627776 → Hid (∀ W, Calls Tryd.prog 11 #[eV r] W fun e w' => e = .returned (.bool (decide (Right r))) ∧ Below W.heap.size W w') := fun r h => Lib.hid fun W => pright r _ decide_eq_true_iff h W
      have fin : ∀ r : Nm, (Right r → itE r = pairI y0 y1) → (∀ e, Right e → itE e = pairI y0 y1 → r = e) → OfR (pairI y0 y1) (if decide (Right r) = true then r else zeroE) (if decide (Right r) = true then 0 else 2) := fun r h1 h2 => by
        by_cases hr : Right r
        · rw [if_pos (decide_eq_true hr), if_pos (decide_eq_true hr)]
          exact .inl ⟨hr, h1 hr, rfl⟩
        · have : ¬ decide (Right r) = true := fun h => hr (of_decide_eq_true h)
          rw [if_neg this, if_neg this]
          refine .inr ⟨?_, rfl, rfl⟩
          rintro ⟨e, he, hi⟩
          exact hr (h2 e he hi ▸ he)
      by_cases n1 : y0.n = 1
      · obtain ⟨r, hd, hc⟩ : ∃ r, DtnR y1 r ∧ ∀ W, Below w.heap.size w W → Calls Tryd.prog 34 #[itV y1 s1] W fun e w' => e = .returned (eV r) ∧ Below W.heap.size W w' := by
          obtain ⟨r, hd, -⟩ := dtn_any y1 w B _ hB l1
          refine ⟨r, hd, fun W hW => ?_⟩
          obtain ⟨r', hd', hc'⟩ := dtn_any y1 W B _ (hle W hW) (l1.keep (hW.mono hB))
          have : r' = r := dtn_one hd' hd
          rw [← this]; exact hc'
        obtain ⟨g1, g2⟩ := dtn_good hd
        rw [n1] at hx0
        exact ⟨_, _, fin r (fun h => by rw [hx0]; exact g1 h) (fun e he hi => g2 e he (by rw [hi, hx0])), of_dtn r _ y0 y1 b off cap s0 s1 w B hB hb ⟨h0, h1⟩ hn0 (Lib.hid hc) (HR r (rsize r (.inl hd))) n1⟩
      · by_cases n2 : y0.n = 2
        · obtain ⟨r, hd, hc⟩ : ∃ r, IpnR y1 r ∧ ∀ W, Below w.heap.size w W → Calls Tryd.prog 35 #[itV y1 s1] W fun e w' => e = .returned (eV r) ∧ Below W.heap.size W w' := by
            obtain ⟨r, hd, -⟩ := ipn_any y1 w B _ hB l1
            refine ⟨r, hd, fun W hW => ?_⟩
            obtain ⟨r', hd', hc'⟩ := ipn_any y1 W B _ (hle W hW) (l1.keep (hW.mono hB))
            have : r' = r := ipn_one hd' hd
            rw [← this]; exact hc'
          obtain ⟨g1, g2⟩ := ipn_good hd
          rw [n2] at hx0
          exact ⟨_, _, fin r (fun h => by rw [hx0]; exact g1 h) (fun e he hi => g2 e he (by rw [hi, hx0])), of_ipn r _ y0 y1 b off cap s0 s1 w B hB hb ⟨h0, h1⟩ hn0 (Lib.hid hc) (HR r (rsize r (.inr (.inl hd)))) n2⟩
        · refine ⟨_, _, fin zeroE (fun h => absurd h zero_not) (fun e he hi => ?_), of_other zeroE _ y0 y1 b off cap s0 s1 w B hB hb ⟨h0, h1⟩ hn0 (HR zeroE (by decide)) ⟨n1, n2⟩ rfl⟩
          rw [hx0] at hi
          rcases item_num he hi with h | h
          · exact absurd h n1
          · exact absurd h n2
    · refine ⟨_, _, .inr ⟨?_, rfl, rfl⟩, of_first y0 y1 b off cap s0 s1 w B hB hb ⟨h0, h1⟩ (HN false ⟨fun h => (by cases h), fun k => absurd k hn⟩)⟩
      rintro ⟨e, he, hi⟩
      exact hn (by rw [← (pair_inj hi).1]; rfl)
  · refine ⟨_, _, .inr ⟨?_, rfl, rfl⟩, of_not x hp A cap w⟩
    rintro ⟨e, he, hi⟩
    exact hp (by rw [← hi]; exact pair_is _ _)
end Eid
end Go.Proofs.YtmbmhblogjkflaaDoor
