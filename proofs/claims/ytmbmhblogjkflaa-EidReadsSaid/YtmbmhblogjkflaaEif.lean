/-
  Contract of eid.Node. Conditions: names are of at most 2^40 bytes.
-/
import Derived.Test.YtmbmhblogjkflaaEie
import Derived.Deep.RegionHeld3
import Derived.Deep.DeepCutAuto
namespace Go.Proofs.Ytmbmhblogjkflaa
namespace Eid
open Go.ChangeShapes Go.WideShapes Go.ChangeAt Go.RowKit
set_option linter.unusedVariables false
set_option maxRecDepth 100000

/-- A name's cells. -/
def eCells (e : Nm) : Array Value := #[.int .i64 e.scheme, .string e.name, .int .u64 (e.node : Nat), .int .u64 (e.service : Nat)]
def zeroE : Nm := ⟨0, ⟨#[]⟩, 0, 0⟩
/-- A name lies in a block. -/
def EB (X : World) (b : Nat) (e : Nm) : Prop := X.heap[b]? = some (.cells (eCells e) 29 (0, 0))
theorem EB.cells {X : World} {b : Nat} {e : Nm} (h : EB X b e) : X.cell? ⟨b, 0, none⟩ = some (.int .i64 e.scheme) ∧ X.cell? ⟨b, 1, none⟩ = some (.string e.name) ∧ X.cell? ⟨b, 2, none⟩ = some (.int .u64 (e.node : Nat)) ∧ X.cell? ⟨b, 3, none⟩ = some (.int .u64 (e.service : Nat)) :=
  ⟨cell_of_row X _ 0 _ _ _ h, cell_of_row X _ 1 _ _ _ h, cell_of_row X _ 2 _ _ _ h, cell_of_row X _ 3 _ _ _ h⟩
theorem EB.free {X : World} {b : Nat} {e : Nm} (h : EB X b e) (i : Nat) : X.frozen? ⟨b, i, none⟩ = false := by
  unfold EB at h
  simp [World.frozen?, h]
theorem EB.below {X Y : World} {b B : Nat} {e : Nm} (h : EB X b e) (hb : Below B X Y) (hB : b < B) : EB Y b e := (hb.block b hB).trans h
theorem EB.new (w : World) (e : Nm) : EB (w.alloc (.cells (eCells e) 29 (0, 0))) w.heap.size e := heap_alloc_new w _
theorem EB.alloc {X : World} {b : Nat} {e : Nm} (h : EB X b e) (o : Obj) : EB (X.alloc o) b e := by
  have hlt : b < X.heap.size := by
    rcases Nat.lt_or_ge b X.heap.size with h1 | h1
    · exact h1
    · unfold EB at h; rw [Array.getElem?_eq_none h1] at h; cases h
  exact h.below ((Below.refl X.heap.size X).alloc (Nat.le_refl _) o) hlt
theorem EB.lt {X : World} {b : Nat} {e : Nm} (h : EB X b e) : b < X.heap.size := by
  rcases Nat.lt_or_ge b X.heap.size with h1 | h1
  · exact h1
  · unfold EB at h; rw [Array.getElem?_eq_none h1] at h; cases h
theorem EB.set {X : World} {b : Nat} {e : Nm} (h : EB X b e) (f : Nm) : EB ((((X.setCell ⟨b, 0, none⟩ (.int .i64 f.scheme)).setCell ⟨b, 1, none⟩ (.string f.name)).setCell ⟨b, 2, none⟩ (.int .u64 (f.node : Nat))).setCell ⟨b, 3, none⟩ (.int .u64 (f.service : Nat))) b f := by
  unfold EB eCells at h ⊢
  simp [World.setCell, Array.getElem?_modify, h]
theorem EB.set_end {X : World} {b B : Nat} {e f : Nm} (h : EB X b e) (hB : B ≤ b) (F : World)
    (hF : ((((X.setCell ⟨b, 0, none⟩ (.int .i64 f.scheme)).setCell ⟨b, 1, none⟩ (.string f.name)).setCell ⟨b, 2, none⟩ (.int .u64 (f.node : Nat))).setCell ⟨b, 3, none⟩ (.int .u64 (f.service : Nat))) = F) : EB F b f ∧ Below B X F ∧ ∀ i, i ≠ b → F.heap[i]? = X.heap[i]? := by
  refine ⟨by rw [← hF]; exact h.set f, ?_, fun i hi => ?_⟩
  · rw [← hF]
    exact ((((Below.refl B X).setCell (p := ⟨b, 0, none⟩) hB _).setCell (p := ⟨b, 1, none⟩) hB _).setCell (p := ⟨b, 2, none⟩) hB _).setCell (p := ⟨b, 3, none⟩) hB _
  · rw [← hF, Below.heap_setCell _ _ _ _ (by dsimp only; omega), Below.heap_setCell _ _ _ _ (by dsimp only; omega), Below.heap_setCell _ _ _ _ (by dsimp only; omega), Below.heap_setCell _ _ _ _ (by dsimp only; omega)]

/-- Behind two boxes. -/
theorem EB.box2 (w : World) (e f : Nm) {w1 : World} (hb : Below ((w.alloc (.cells (eCells e) 29 (0, 0))).alloc (.cells (eCells f) 29 (0, 0))).heap.size ((w.alloc (.cells (eCells e) 29 (0, 0))).alloc (.cells (eCells f) 29 (0, 0))) w1) :
    EB w1 w.heap.size e ∧ EB w1 (w.heap.size + 1) f ∧ Below w.heap.size w w1 := by
  have h1 := EB.new w e
  have h2 := EB.new (w.alloc (.cells (eCells e) 29 (0, 0))) f
  rw [World.size_alloc] at h2
  exact ⟨(h1.alloc _).below hb (by simp; omega), h2.below hb (by simp), (((Below.refl w.heap.size w).alloc (Nat.le_refl _) _).alloc (by simp) _).trans (hb.mono (by simp; omega))⟩
theorem EB.box1 (w : World) (e : Nm) {w1 : World} (hb : Below (w.alloc (.cells (eCells e) 29 (0, 0))).heap.size (w.alloc (.cells (eCells e) 29 (0, 0))) w1) :
    EB w1 w.heap.size e ∧ Below w.heap.size w w1 :=
  ⟨(EB.new w e).below hb (by simp), ((Below.refl w.heap.size w).alloc (Nat.le_refl _) _).trans (hb.mono (by simp))⟩

theorem EB.set1 {X : World} {b : Nat} {e : Nm} (h : EB X b e) (n : ByteArray) : EB (X.setCell ⟨b, 1, none⟩ (.string n)) b ⟨e.scheme, n, e.node, e.service⟩ := by
  unfold EB eCells at h ⊢
  simp [World.setCell, Array.getElem?_modify, h]
theorem EB.set3 {X : World} {b : Nat} {e : Nm} (h : EB X b e) (n : Nat) : EB (X.setCell ⟨b, 3, none⟩ (.int .u64 (n : Nat))) b ⟨e.scheme, e.name, e.node, n⟩ := by
  unfold EB eCells at h ⊢
  simp [World.setCell, Array.getElem?_modify, h]
theorem EB.other {X : World} {b c : Nat} {e : Nm} (h : EB X b e) (hc : b ≠ c) (i : Nat) (v : Value) : EB (X.setCell ⟨c, i, none⟩ v) b e := by
  unfold EB at h ⊢
  rw [Below.heap_setCell _ _ _ _ hc, h]

/-- The node of a right name. -/
def nodeE (e : Nm) : Nm := if e.scheme = 2 then ⟨e.scheme, e.name, e.node, 0⟩ else if e.name = noneB then e else ⟨e.scheme, e.name.extract 0 (svc (nb e.name)), e.node, e.service⟩

set_option maxHeartbeats 8000000 in
theorem pnode_no (e : Nm) (h : ¬ Right e) (hs : e.name.size ≤ 1099511627776) (w : World) : Calls Try.prog 11 #[eV e] w fun r w' => r = .returned (.tuple #[eV zeroE, .int .i64 1]) ∧ Below w.heap.size w w' := by
  have HP := Lib.hid (fun w => pright e false ⟨fun h => (by cases h), fun k => absurd k h⟩ hs w)
  clear h hs
  obtain ⟨s, nm, nd, sv⟩ := e
  simp only [eV] at HP ⊢
  go_enter Try.func11, Try.ntmps11
  go_wp2_with fail
  refine (HP.out _).mono ?_
  rintro r w1 ⟨rfl, hb1⟩
  obtain ⟨-, hz, hbl⟩ := EB.box2 w ⟨s, nm, nd, sv⟩ zeroE hb1
  obtain ⟨r0, r1, r2, r3⟩ := hz.cells
  have rf := hz.free
  have HX := Lib.hid (And.intro hz hbl); clear hz hb1 hbl
  simp only [zeroE] at r0 r1 r2 r3
  go_wp2
  generalize hF : ((((w1.setCell ⟨w.heap.size + 1, 0, none⟩ (.int .i64 0)).setCell ⟨w.heap.size + 1, 1, none⟩ (.string ⟨#[]⟩)).setCell ⟨w.heap.size + 1, 2, none⟩ (.int .u64 0)).setCell ⟨w.heap.size + 1, 3, none⟩ (.int .u64 0)) = F
  obtain ⟨h1, h2, -⟩ := HX.out.1.set_end (f := zeroE) (B := w.heap.size) (by omega) F hF
  obtain ⟨f0, f1, f2, f3⟩ := h1.cells
  simp only [zeroE] at f0 f1 f2 f3
  clear hF
  exact bodyPost_ret (v := .tuple #[eV zeroE, .int .i64 1]) (by simp [results, Try.results11, go_sem, f0, f1, f2, f3, eV, zeroE]) rfl ⟨rfl, HX.out.2.trans h2⟩

/-- What is done at the end: the name is copied into the result. -/
theorem pnode_end {X w : World} {e f : Nm} (h0 : EB X w.heap.size e) (h1 : EB X (w.heap.size + 1) f) (hb : Below w.heap.size w X) (F : World)
    (hF : ((((X.setCell ⟨w.heap.size + 1, 0, none⟩ (.int .i64 e.scheme)).setCell ⟨w.heap.size + 1, 1, none⟩ (.string e.name)).setCell ⟨w.heap.size + 1, 2, none⟩ (.int .u64 (e.node : Nat))).setCell ⟨w.heap.size + 1, 3, none⟩ (.int .u64 (e.service : Nat))) = F) :
    EB F (w.heap.size + 1) e ∧ Below w.heap.size w F := by
  obtain ⟨h2, h3, -⟩ := h1.set_end (f := e) (B := w.heap.size) (by omega) F hF
  exact ⟨h2, hb.trans h3⟩

theorem pnode_set {w1 w X : World} {e f : Nm} (h0 : EB w1 w.heap.size e) (h1 : EB w1 (w.heap.size + 1) f) (hb : Below w.heap.size w w1) (hX : Below w1.heap.size w1 X) (n : ByteArray) :
    EB (X.setCell ⟨w.heap.size, 1, none⟩ (.string n)) w.heap.size ⟨e.scheme, n, e.node, e.service⟩ ∧ EB (X.setCell ⟨w.heap.size, 1, none⟩ (.string n)) (w.heap.size + 1) f ∧ Below w.heap.size w (X.setCell ⟨w.heap.size, 1, none⟩ (.string n)) :=
  ⟨(h0.below hX h0.lt).set1 n, (h1.below hX h1.lt).other (by omega) 1 _, (hb.trans (hX.mono hb.size)).setCell (p := ⟨w.heap.size, 1, none⟩) (Nat.le_refl _) _⟩

set_option maxHeartbeats 8000000 in
theorem pnode_two (nm : ByteArray) (nd sv : Nat) (h : Right ⟨2, nm, nd, sv⟩) (hs : nm.size ≤ 1099511627776) (w : World) : Calls Try.prog 11 #[eV ⟨2, nm, nd, sv⟩] w fun r w' => r = .returned (.tuple #[eV ⟨2, nm, nd, 0⟩, .int .i64 0]) ∧ Below w.heap.size w w' := by
  have HP := Lib.hid (fun w => pright ⟨2, nm, nd, sv⟩ true ⟨fun _ => h, fun _ => rfl⟩ hs w)
  clear h hs
  simp only [eV] at HP ⊢
  go_enter Try.func11, Try.ntmps11
  go_wp2_with fail
  refine (HP.out _).mono ?_
  rintro r w1 ⟨rfl, hb1⟩
  obtain ⟨hy, hz, hbl⟩ := EB.box2 w ⟨2, nm, nd, sv⟩ zeroE hb1
  clear hb1
  obtain ⟨y0, y1, y2, y3⟩ := hy.cells
  have yf := hy.free
  have hy2 := hy.set3 0
  have hz2 := hz.other (c := w.heap.size) (by omega) 3 (.int .u64 ((0 : Nat) : Int))
  have hbl2 := hbl.setCell (p := ⟨w.heap.size, 3, none⟩) (Nat.le_refl _) (.int .u64 ((0 : Nat) : Int))
  obtain ⟨x0, x1, x2, x3⟩ := hy2.cells
  obtain ⟨r0, r1, r2, r3⟩ := hz2.cells
  have rf := hz2.free
  have HX := Lib.hid (And.intro hy2 (And.intro hz2 hbl2)); clear hz hbl hy hy2 hz2 hbl2
  simp only [zeroE, Int.cast_ofNat_Int] at r0 r1 r2 r3 x0 x1 x2 x3 rf HX
  go_wp2
  generalize hF : ((((((w1.setCell ⟨w.heap.size, 3, none⟩ (.int .u64 0)).setCell ⟨w.heap.size + 1, 0, none⟩ (.int .i64 2)).setCell ⟨w.heap.size + 1, 1, none⟩ (.string nm)).setCell ⟨w.heap.size + 1, 2, none⟩ (.int .u64 (nd : Nat))).setCell ⟨w.heap.size + 1, 3, none⟩ (.int .u64 0))) = F
  obtain ⟨h1, h2⟩ := pnode_end (e := ⟨2, nm, nd, 0⟩) HX.out.1 HX.out.2.1 HX.out.2.2 F hF
  obtain ⟨f0, f1, f2, f3⟩ := h1.cells
  clear hF
  exact bodyPost_ret (v := .tuple #[eV ⟨2, nm, nd, 0⟩, .int .i64 0]) (by simp [results, Try.results11, go_sem, f0, f1, f2, f3, eV]) rfl ⟨rfl, h2⟩

set_option maxHeartbeats 8000000 in
theorem pnode_none (w : World) : Calls Try.prog 11 #[eV noneE] w fun r w' => r = .returned (.tuple #[eV noneE, .int .i64 0]) ∧ Below w.heap.size w w' := by
  have HP := Lib.hid (fun w => pright noneE true ⟨fun _ => noneE_right, fun _ => rfl⟩ (by decide) w)
  simp only [eV, noneE, noneB, Int.cast_ofNat_Int] at HP ⊢
  go_enter Try.func11, Try.ntmps11
  go_wp2_with fail
  refine (HP.out _).mono ?_
  rintro r w1 ⟨rfl, hb1⟩
  obtain ⟨hy, hz, hbl⟩ := EB.box2 w noneE zeroE hb1
  clear hb1
  obtain ⟨y0, y1, y2, y3⟩ := hy.cells
  obtain ⟨r0, r1, r2, r3⟩ := hz.cells
  have rf := hz.free
  have HX := Lib.hid (And.intro hy (And.intro hz hbl)); clear hz hbl hy
  simp only [zeroE, noneE, noneB, Int.cast_ofNat_Int] at r0 r1 r2 r3 y0 y1 y2 y3
  go_wp2
  generalize hF : (((((w1.setCell ⟨w.heap.size + 1, 0, none⟩ (.int .i64 1)).setCell ⟨w.heap.size + 1, 1, none⟩ (.string ⟨#[110, 111, 110, 101]⟩)).setCell ⟨w.heap.size + 1, 2, none⟩ (.int .u64 0)).setCell ⟨w.heap.size + 1, 3, none⟩ (.int .u64 0))) = F
  obtain ⟨h1, h2⟩ := pnode_end (e := noneE) HX.out.1 HX.out.2.1 HX.out.2.2 F hF
  obtain ⟨f0, f1, f2, f3⟩ := h1.cells
  clear hF
  exact bodyPost_ret (v := .tuple #[eV noneE, .int .i64 0]) (by simp [results, Try.results11, go_sem, f0, f1, f2, f3, eV, noneE, noneB]) rfl ⟨rfl, h2⟩

set_option maxHeartbeats 8000000 in
theorem pnode_full (nm : ByteArray) (h : Right ⟨1, nm, 0, 0⟩) (hn : nm ≠ noneB) (hs : nm.size ≤ 1099511627776) (w : World) : Calls Try.prog 11 #[eV ⟨1, nm, 0, 0⟩] w fun r w' => r = .returned (.tuple #[eV ⟨1, nm.extract 0 (svc (nb nm)), 0, 0⟩, .int .i64 0]) ∧ Below w.heap.size w w' := by
  have HP := Lib.hid (fun w => pright ⟨1, nm, 0, 0⟩ true ⟨fun _ => h, fun _ => rfl⟩ hs w)
  have HS := Lib.hid (fun w => serviceAt_any nm hs w)
  have hk := svc_le (nb nm)
  rw [nb_length] at hk
  obtain ⟨k, hkk⟩ : ∃ k, k = svc (nb nm) := ⟨_, rfl⟩
  rw [← hkk] at HS hk ⊢
  clear hkk
  have ht := noneB_test nm
  rw [decide_eq_false hn] at ht
  have ht' : (nm.toList != ([110, 111, 110, 101] : List UInt8)) = true := by rw [noneB_test', decide_eq_false hn]; rfl
  clear h hn
  have hkI : (k : Int) ≤ (nm.size : Int) := by omega
  have hk0 : (0 : Int) ≤ (k : Int) := by omega
  have HSZ := Lib.hid hs; clear hs hk
  simp only [eV, Int.cast_ofNat_Int] at HP ⊢
  go_enter Try.func11, Try.ntmps11
  go_wp2_with fail
  refine (HP.out _).mono ?_
  rintro r w1 ⟨rfl, hb1⟩
  obtain ⟨hy, hz, hbl⟩ := EB.box2 w ⟨1, nm, 0, 0⟩ zeroE hb1
  clear hb1
  obtain ⟨y0, y1, y2, y3⟩ := hy.cells
  have yf := hy.free
  have hlt := hz.lt
  have hlt0 := hy.lt
  have HX := Lib.hid (And.intro hy (And.intro hz hbl)); clear hz hbl hy
  have hkp : ∀ X, Below w1.heap.size w1 X → X.cell? ⟨w.heap.size, 1, none⟩ = some (.string nm) := fun X hX => (hX.cell (p := ⟨w.heap.size, 1, none⟩) hlt0).trans y1
  have hkf : ∀ X, Below w1.heap.size w1 X → X.frozen? ⟨w.heap.size, 1, none⟩ = false := fun X hX => (HX.out.1.below hX hlt0).free 1
  have HKP := Lib.hid hkp; clear hkp
  have HKF := Lib.hid hkf; clear hkf
  simp only [zeroE, Int.cast_ofNat_Int] at y0 y1 y2 y3
  have hd0 : Below w1.heap.size w1 w1.drew := (Below.refl _ _).drew
  have hc0 := HKP.out _ hd0
  have hd1 : Below w1.heap.size w1 w1 := Below.refl _ _
  go_upto_region 6 with fail
  go_region_with (go_at_call 27; with_reducible refine (HS.out _).mono ?_; rintro e w' ⟨rfl, hb⟩; have hw := Below.trans (by with_reducible assumption) (hb.mono (Below.size (by with_reducible assumption))); have hf := HKF.out _ hw; have hc := HKP.out _ hw)
  all_goals
    obtain ⟨E0, E1, E2⟩ := pnode_set HX.out.1 HX.out.2.1 HX.out.2.2 hw (nm.extract 0 k)
    obtain ⟨x0, x1, x2, x3⟩ := E0.cells
    obtain ⟨r0, r1, r2, r3⟩ := E1.cells
    have rf := E1.free
    have HE := Lib.hid (And.intro E0 (And.intro E1 E2)); clear E0 E1 E2 hd0 hd1 hc0 hb hw hf hc
    simp only [zeroE, Int.cast_ofNat_Int] at x0 x1 x2 x3 r0 r1 r2 r3
    generalize w'.setCell ⟨w.heap.size, 1, none⟩ (.string (nm.extract 0 k)) = X at *
    go_wp2
    generalize hF : ((((X.setCell ⟨w.heap.size + 1, 0, none⟩ (.int .i64 1)).setCell ⟨w.heap.size + 1, 1, none⟩ (.string (nm.extract 0 k))).setCell ⟨w.heap.size + 1, 2, none⟩ (.int .u64 0)).setCell ⟨w.heap.size + 1, 3, none⟩ (.int .u64 0)) = F
    obtain ⟨h1, h2⟩ := pnode_end (e := ⟨1, nm.extract 0 k, 0, 0⟩) HE.out.1 HE.out.2.1 HE.out.2.2 F hF
    obtain ⟨f0, f1, f2, f3⟩ := h1.cells
    clear hF
    exact bodyPost_ret (v := .tuple #[eV ⟨1, nm.extract 0 k, 0, 0⟩, .int .i64 0]) (by simp [results, Try.results11, go_sem, f0, f1, f2, f3, eV]) rfl ⟨rfl, h2⟩

/-- eid.Node. -/
theorem pnode (e : Nm) (h : Right e) (hs : e.name.size ≤ 1099511627776) (w : World) : Calls Try.prog 11 #[eV e] w fun r w' => r = .returned (.tuple #[eV (nodeE e), .int .i64 0]) ∧ Below w.heap.size w w' := by
  obtain ⟨s, nm, nd, sv⟩ := e
  rcases h with ⟨h1, h2, h3, h4⟩ | ⟨h1, h2, h3, h4, h5⟩
  · obtain rfl : s = 2 := h1
    exact pnode_two nm nd sv (.inl ⟨rfl, h2, h3, h4⟩) hs w
  · obtain rfl : s = 1 := h1
    obtain rfl : nd = 0 := h2
    obtain rfl : sv = 0 := h3
    by_cases hn : nm = noneB
    · subst hn
      have e : nodeE ⟨1, noneB, 0, 0⟩ = noneE := by unfold nodeE; rw [if_neg (by decide), if_pos rfl]; rfl
      rw [e]
      exact pnode_none w
    · have e : nodeE ⟨1, nm, 0, 0⟩ = ⟨1, nm.extract 0 (svc (nb nm)), 0, 0⟩ := by unfold nodeE; rw [if_neg (show ¬ (1 : Int) = 2 by decide), if_neg hn]
      rw [e]
      exact pnode_full nm (.inr ⟨rfl, rfl, rfl, h4, h5⟩) hn hs w
end Eid
end Go.Proofs.Ytmbmhblogjkflaa
