/-
  The walk of EidReads. Conditions: none.
-/
import Derived.Test.YtmbmhblogjkflaaEix
namespace Go.Proofs.Ytmbmhblogjkflaa
namespace Eid
open Go.ChangeShapes Go.WideShapes Go.ChangeAt Go.RowKit
open Plain
set_option linter.unusedVariables false
set_option linter.unusedSimpArgs false
set_option maxRecDepth 100000

/-- An item's box, alone. -/
structure One (w : World) (x : It) (sl : Value) (X : World) : Prop where
  box : X.heap[w.heap.size]? = some (boxOf x sl)
  lt : w.heap.size < X.heap.size
  below : Below w.heap.size w X
theorem One.new (w : World) (x : It) (sl : Value) : One w x sl (w.alloc (boxOf x sl)) := ⟨heap_alloc_new w _, by simp, (Below.refl _ _).alloc (Nat.le_refl _) _⟩
theorem One.next {w : World} {x : It} {sl : Value} {X Y : World} (h : One w x sl X) (hb : Below X.heap.size X Y) : One w x sl Y :=
  ⟨(hb.block _ h.lt).trans h.box, Nat.lt_of_lt_of_le h.lt hb.size, h.below.trans (hb.mono h.below.size)⟩
theorem One.alloc {w : World} {x : It} {sl : Value} {X : World} (h : One w x sl X) (o : Obj) : One w x sl (X.alloc o) := h.next ((Below.refl _ _).alloc (Nat.le_refl _) o)
theorem One.cells {w : World} {x : It} {sl : Value} {X : World} (h : One w x sl X) : X.cell? ⟨w.heap.size, 0, none⟩ = some (.int .i64 x.kind) ∧ X.cell? ⟨w.heap.size, 1, none⟩ = some (.int .u64 x.n) ∧ X.cell? ⟨w.heap.size, 2, none⟩ = some (.string x.s) ∧ X.cell? ⟨w.heap.size, 3, none⟩ = some sl ∧ X.cell? ⟨w.heap.size, 4, none⟩ = some (.bool x.opn) :=
  ⟨cell_of_row X _ 0 _ _ _ h.box, cell_of_row X _ 1 _ _ _ h.box, cell_of_row X _ 2 _ _ _ h.box, cell_of_row X _ 3 _ _ _ h.box, cell_of_row X _ 4 _ _ _ h.box⟩

set_option maxHeartbeats 32000000 in
theorem reads_by (x : It) (fb : Bool) (A : Option Addr) (cap : Nat) (w : World)
    (HF : Hid (∀ W, Below w.heap.size w W → Calls Try.prog 7 #[itV x (.slice A x.l.length cap), .int .i64 (200 : Nat)] W fun e w' => e = .returned (.bool fb) ∧ Below W.heap.size W w'))
    (HP : Hid (fb = true → ∀ W, Below w.heap.size w W → ∃ r c, OfR x r c ∧ Calls Try.prog 8 #[itV x (.slice A x.l.length cap)] W fun e w' => e = .returned (.tuple #[eV r, .int .i64 c]) ∧ Below W.heap.size W w'))
    (HQ : Hid (fb = true → ∀ W, Below w.heap.size w W → Calls Try.prog 9 #[itV x (.slice A x.l.length cap)] W fun e w' => ∃ r c, e = .returned (.tuple #[eV r, .int .i64 c]) ∧ OfR x r c ∧ Below W.heap.size W w')) :
    Calls Try.prog 3 #[itV x (.slice A x.l.length cap)] w fun r w' => r = .returned (.bool true) ∧ Below w.heap.size w w' := by
  have HA := Lib.hid (fun w => awake_any w)
  have h0 := One.new w x (.slice A x.l.length cap)
  generalize hW : w.alloc (boxOf x (.slice A x.l.length cap)) = w1 at h0
  have hone : ∀ (r q : Nm) (c d : Int), OfR x r c → OfR x q d → r = q ∧ c = d := fun r q c d h k => of_one h k
  generalize hR : OfR x = R at *
  have HONE := Lib.hid hone; clear hone hR
  obtain ⟨k, n, s, l, o⟩ := x
  simp only [boxOf, It.kind, It.n, It.s, It.l, It.opn, itV, Int.cast_ofNat_Int] at hW HF HP HQ ⊢
  have sw : ∀ X, One w (.mk k n s l o) (.slice A l.length cap) X → X.cell? ⟨w.heap.size, 0, none⟩ = some (.int .i64 k) ∧ X.cell? ⟨w.heap.size, 1, none⟩ = some (.int .u64 n) ∧ X.cell? ⟨w.heap.size, 2, none⟩ = some (.string s) ∧ X.cell? ⟨w.heap.size, 3, none⟩ = some (.slice A l.length cap) ∧ X.cell? ⟨w.heap.size, 4, none⟩ = some (.bool o) := fun X h => h.cells
  have SW := Lib.hid sw; clear sw
  have HX : Hid (One w (.mk k n s l o) (.slice A l.length cap) w1) := Lib.hid h0; clear h0
  obtain ⟨c0, c1, c2, c3, c4⟩ := SW.out _ HX.out
  go_enter Try.func3, Try.ntmps3
  go_upto_region 1 with fail
  clear hW
  go_wp2_with fail
  refine (HA.out _).mono ?_
  rintro _ w2 ⟨rfl, hb2⟩
  have HX2 := Lib.hid (HX.out.next hb2); clear hb2 c0 c1 c2 c3 c4 HX
  obtain ⟨c0, c1, c2, c3, c4⟩ := SW.out _ HX2.out
  go_wp2_with fail
  refine (HF.out _ HX2.out.below).mono ?_
  rintro _ w3 ⟨rfl, hb3⟩
  have HX := Lib.hid (HX2.out.next hb3); clear hb3 c0 c1 c2 c3 c4 HX2
  cases fb with
  | false =>
    go_wp2_with fail
    refine (HA.out _).mono ?_
    rintro _ w4 ⟨rfl, hb4⟩
    have HB4 := Lib.hid (HX.out.next hb4).below; clear hb4
    go_wp2
    go_ret
    exact ⟨rfl, HB4.out⟩
  | true =>
    obtain ⟨c0, c1, c2, c3, c4⟩ := SW.out _ HX.out
    obtain ⟨⟨e0, e1, e2, e3⟩, ce, hpe, hcall⟩ := HP.out rfl _ HX.out.below
    have HC := Lib.hid hcall
    have HPE := Lib.hid hpe; clear hcall hpe
    go_wp2_with fail
    refine HC.out.mono ?_
    rintro _ w4 ⟨rfl, hb4⟩
    simp only [eV]
    have hx4 := HX.out.next hb4
    have he := EB.new w4 ⟨e0, e1, e2, e3⟩
    have hx5 := hx4.alloc (.cells (eCells ⟨e0, e1, e2, e3⟩) 29 (0, 0))
    generalize hF : w4.alloc (.cells (eCells ⟨e0, e1, e2, e3⟩) 29 (0, 0)) = w5 at he hx5
    have HE := Lib.hid (And.intro he hx5)
    clear he hx5 hx4 hb4 HC HX HP c0 c1 c2 c3 c4
    simp only [eCells] at hF
    go_upto_region 4 with fail
    clear hF
    obtain ⟨c0, c1, c2, c3, c4⟩ := SW.out _ HE.out.2
    go_wp2_with fail
    refine (HQ.out (by trivial) _ HE.out.2.below).mono ?_
    rintro _ w6 ⟨⟨f0, f1, f2, f3⟩, cf, rfl, hpf, hb6⟩
    simp only [eV]
    obtain ⟨h1, h2⟩ := HONE.out _ _ _ _ HPE.out hpf
    have he := HE.out.1.below hb6 HE.out.1.lt
    have hx := HE.out.2.next hb6
    have he2 := he.alloc (.cells (eCells ⟨f0, f1, f2, f3⟩) 29 (0, 0))
    have hf := EB.new w6 ⟨f0, f1, f2, f3⟩
    have hx2 := (hx.alloc (.cells (eCells ⟨f0, f1, f2, f3⟩) 29 (0, 0))).below
    generalize hF : w6.alloc (.cells (eCells ⟨f0, f1, f2, f3⟩) 29 (0, 0)) = w7 at he2 hf hx2
    have HH := Lib.hid (And.intro he2 (And.intro hf hx2))
    have HQQ := Lib.hid (And.intro h1 h2)
    clear he hx he2 hf hx2 hb6 HE HPE hpf h1 h2 HQ HA HONE SW c0 c1 c2 c3 c4
    simp only [eCells] at hF
    go_upto_region 5 with fail
    clear hF
    obtain ⟨c0, c1, c2, c3⟩ := HH.out.1.cells
    obtain ⟨d0, d1, d2, d3⟩ := HH.out.2.1.cells
    have HE := fun X => eql_run ⟨e0, e1, e2, e3⟩ ⟨f0, f1, f2, f3⟩ X
    rw [decide_eq_true HQQ.out.1] at HE
    have hc : ((ce : Int) == cf) = true := by rw [HQQ.out.2]; exact beq_self_eq_true _
    have HBL := Lib.hid HH.out.2.2
    clear HH HQQ
    simp only at HE
    go_wp2
    go_ret
    exact ⟨rfl, HBL.out⟩

theorem fits_small {l : List It} {c m : Nat} (h : countL l c m ≤ m) : ∀ y ∈ l, y.s.size ≤ m := by
  induction l generalizing c with
  | nil => intro y hy; cases hy
  | cons x r ih =>
    simp only [countL] at h
    by_cases hc : c ≤ m
    · rw [if_pos hc] at h
      intro y hy
      rcases List.mem_cons.1 hy with rfl | hy
      · have h1 := countL_ge r (c + countOf y (m - c)) m
        obtain ⟨k, n, s, l, o⟩ := y
        have h2 : 1 + s.size ≤ countOf (.mk k n s l o) (m - c) := by simp only [countOf]; exact countL_ge l _ _
        show s.size ≤ m
        omega
      · exact ih h y hy
    · rw [if_neg hc] at h; omega

theorem reads_law (x : It) (v : Value) (w : World) (hx : Lies w w.heap.size x v) : Calls Try.prog 3 #[v] w fun r w' => r = .returned (.bool true) ∧ Below w.heap.size w w' := by
  have hx0 := hx
  obtain ⟨A, cap, rfl, hf, he⟩ := hx.out
  have small : fewB x 200 = true → countOf x 200 ≤ 200 := fun h => by
    simp only [fewB, Bool.and_eq_true, decide_eq_true_eq] at h; exact h.2
  have hs : fewB x 200 = true → ∀ y ∈ x.l, y.s.size ≤ 1099511627776 := fun h y hy => by
    have h2 := small h
    obtain ⟨k, n, s, l, o⟩ := x
    simp only [countOf] at h2
    have := fits_small h2 y hy
    omega
  have hb : fewB x 200 = true → (bytesOf x).length ≤ 1000000 := fun h => by
    have h2 := small h
    have := few_bytes x 200 h2
    omega
  exact reads_by x (fewB x 200) A cap w
    (Lib.hid fun W hW => few_any x 200 W w.heap.size _ (by decide) hW.size (hx0.keep hW))
    (Lib.hid fun h W hW => of_any x (hs h) W w.heap.size _ hW.size (hx0.keep hW))
    (Lib.hid fun h W hW => rof_any x (hs h) (hb h) W w.heap.size _ hW.size (hx0.keep hW))
end Eid
end Go.Proofs.Ytmbmhblogjkflaa
