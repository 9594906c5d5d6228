/-
  Contracts of item.equal, slices.EqualFunc at items and Same. Conditions: the items lie in memory.
-/
import Derived.Test.YtpmepnejjjlodaaValid
namespace Go.Proofs.Ytpmepnejjjlodaa
open Go.ChangeShapes Go.WideShapes Go.ChangeAt Go.RowKit
open Plain
set_option linter.unusedVariables false

mutual
/-- Are they equal? -/
def eqB : It → It → Bool
  | .mk k n s l o, .mk k' n' s' l' o' => decide (k = k') && decide (n = n') && decide (s.toList = s'.toList) && (o == o') && eqL l l'
def eqL : List It → List It → Bool
  | [], [] => true
  | x :: r, y :: r' => eqB x y && eqL r r'
  | [], _ :: _ => false
  | _ :: _, [] => false
end

theorem eqL_len : ∀ (a b : List It), a.length ≠ b.length → eqL a b = false
  | [], [], h => absurd rfl h
  | x :: r, y :: r', h => by
    simp only [eqL]
    rw [eqL_len r r' (by simpa using h)]
    simp
  | [], _ :: _, _ => rfl
  | _ :: _, [], _ => rfl

theorem eqL_next : ∀ (a b : List It) (j : Nat) (x y : It), a[j]? = some x → b[j]? = some y → eqL (a.take (j + 1)) (b.take (j + 1)) = (eqL (a.take j) (b.take j) && eqB x y)
  | [], _, j, x, y, h, _ => by simp at h
  | _ :: _, [], j, x, y, _, h => by simp at h
  | p :: r, q :: r', 0, x, y, h, h' => by
    simp at h h'
    subst h h'
    simp [eqL]
  | p :: r, q :: r', j + 1, x, y, h, h' => by
    simp at h h'
    simp only [List.take_succ_cons, eqL]
    rw [eqL_next r r' j x y h h', Bool.and_assoc]

theorem eqL_not : ∀ (a b : List It) (j : Nat) (x y : It), a[j]? = some x → b[j]? = some y → eqB x y = false → eqL a b = false
  | [], _, j, x, y, h, _, _ => by simp at h
  | _ :: _, [], j, x, y, _, h, _ => by simp at h
  | p :: r, q :: r', 0, x, y, h, h', hn => by
    simp at h h'
    subst h h'
    simp [eqL, hn]
  | p :: r, q :: r', j + 1, x, y, h, h', hn => by
    simp at h h'
    simp only [eqL]
    rw [eqL_not r r' j x y h h' hn, Bool.and_false]

/-- A list of items lies in memory. -/
def LiesL (w : World) (B : Nat) (A : Option Addr) (l : List It) : Prop :=
  ∀ i y, l[i]? = some y → ∃ b off sl, A = some ⟨b, off, none⟩ ∧ b < B ∧ At5 w b (off + i * 5) y sl ∧ Lies w B y (itV y sl)

theorem LiesL.keep {w w' : World} {B : Nat} {A : Option Addr} {l : List It} (h : LiesL w B A l) (hb : Below B w w') : LiesL w' B A l := by
  intro i y hi
  obtain ⟨b, off, sl, h1, h2, h3, h4⟩ := h i y hi
  exact ⟨b, off, sl, h1, h2, h3.below hb h2, h4.keep hb⟩

set_option maxHeartbeats 1000000 in
set_option maxRecDepth 100000 in
theorem equalFunc_any (l l' : List It)
    (ih : ∀ x ∈ l, ∀ (y : It) (w : World) (B : Nat) (v u : Value), B ≤ w.heap.size → Lies w B x v → Lies w B y u → Calls Try.prog 26 #[v, u] w fun e w' => e = .returned (.bool (eqB x y)) ∧ Below w.heap.size w w')
    (w : World) (B : Nat) (A A' : Option Addr) (cap cap' : Nat) (hB : B ≤ w.heap.size) (hll : l.length ≤ 140737488355328) (hll' : l'.length ≤ 140737488355328)
    (he : LiesL w B A l) (he' : LiesL w B A' l') :
    Calls Try.prog 41 #[.slice A l.length cap, .slice A' l'.length cap', .func (.func 26) #[] #[]] w fun e w' => e = .returned (.bool (eqL l l')) ∧ Below w.heap.size w w' := by
  have IH := Lib.hid ih; clear ih
  have hlI : (l.length : Int) ≤ 140737488355328 := by omega
  have hlI' : (l'.length : Int) ≤ 140737488355328 := by omega
  have HLL := Lib.hid hll; clear hll
  have HLL' := Lib.hid hll'; clear hll'
  have HE := Lib.hid he; clear he
  have HE' := Lib.hid he'; clear he'
  by_cases hne : l.length = l'.length
  · have g1 : ((l.length : Int) == (l'.length : Int)) = true := by simp [hne]
    have hI : (l'.length : Int) = (l.length : Int) := by omega
    have HNE := Lib.hid hne; clear hne
    go_enter Try.func41, Try.ntmps41
    go_wp2
    go_loopw [17] (fun i wr => ∃ j : Nat, j ≤ l.length ∧ i = .int .i64 j ∧ eqL (l.take j) (l'.take j) = true ∧ Below w.heap.size w wr) (fun i _ => l.length - (intOf i).toNat)
    case atStart => exact ⟨0, Nat.zero_le _, rfl, by simp [eqL], Below.refl _ _⟩
    case round =>
      obtain ⟨j, hj, rfl, hpl, hbx⟩ := hrel
      by_cases hlt : j < l.length
      · have hlt' : j < l'.length := by have := HNE.out; omega
        obtain ⟨b, off, sl, rfl, hb, h5, hy⟩ := HE.out j _ (List.getElem?_eq_getElem hlt)
        obtain ⟨b', off', sl', rfl, hb', h5', hy'⟩ := HE'.out j _ (List.getElem?_eq_getElem hlt')
        obtain ⟨A1, cap1, rfl⟩ := hy.slice
        obtain ⟨A2, cap2, rfl⟩ := hy'.slice
        have hnext := eqL_next l l' j _ _ (List.getElem?_eq_getElem hlt) (List.getElem?_eq_getElem hlt')
        have hno := eqL_not l l' j _ _ (List.getElem?_eq_getElem hlt) (List.getElem?_eq_getElem hlt')
        rw [hpl, Bool.true_and] at hnext
        have hcall := fun W (h : Below w.heap.size w W) => IH.out l[j] (List.getElem_mem hlt) l'[j] W B _ _ (Nat.le_trans hB h.size) (hy.keep (h.mono hB)) (hy'.keep (h.mono hB))
        have a5 := h5.below (hbx.mono hB) hb
        have l0 := a5.c0
        have l1 := a5.c1
        have l2 := a5.c2
        have l3 := a5.c3
        have l4 := a5.c4
        have a5' := h5'.below (hbx.mono hB) hb'
        have m0 := a5'.c0
        have m1 := a5'.c1
        have m2 := a5'.c2
        have m3 := a5'.c3
        have m4 := a5'.c4
        have hbs' : b' < wr.heap.size := by have := hbx.size; omega
        have hjI : (j : Int) < (l'.length : Int) := by omega
        generalize l[j] = y at *
        generalize l'[j] = y' at *
        have HN := Lib.hid hnext; clear hnext
        have HO := Lib.hid hno; clear hno
        have HC := Lib.hid hcall; clear hcall
        have HB := Lib.hid hbx; clear hbx
        have HP := Lib.hid hpl; clear hpl
        simp only [itV] at HC
        clear a5 h5 hy a5' h5' hy'
        go_wp2_with fail
        refine (HC.out _ ((HB.out.alloc HB.out.size _).alloc (by have := HB.out.size; simp <;> omega) _)).mono ?_
        cases hp : eqB y y'
        · have HPY := Lib.hid hp; clear hp
          rintro e w' ⟨rfl, hb'⟩
          have hfin := ((HB.out.alloc HB.out.size _).alloc (by have := HB.out.size; simp <;> omega) _).trans (hb'.mono (by have := HB.out.size; simp <;> omega))
          have HFIN := Lib.hid hfin; clear hfin
          go_wp2
          go_ret
          exact ⟨by rw [HO.out HPY.out]; rfl, HFIN.out⟩
        · have HPY := Lib.hid hp; clear hp
          rintro e w' ⟨rfl, hb'⟩
          have hfin := ((HB.out.alloc HB.out.size _).alloc (by have := HB.out.size; simp <;> omega) _).trans (hb'.mono (by have := HB.out.size; simp <;> omega))
          have HFIN := Lib.hid hfin; clear hfin
          go_wp2
          go_roundw
          case rel => exact ⟨j + 1, by omega, by go_num, HN.out.trans HPY.out, HFIN.out⟩
          case measure => simp [intOf]; omega
      · obtain rfl : j = l.length := by omega
        have hx := HNE.out
        rw [List.take_length, hx, List.take_length] at hpl
        have HPL := Lib.hid hpl; clear hpl hx
        go_wp2
        go_ret
        exact ⟨by rw [HPL.out]; rfl, hbx⟩
  · have g1 : ((l.length : Int) == (l'.length : Int)) = false := by simp; omega
    have hfalse := eqL_len l l' hne
    have HFA := Lib.hid hfalse; clear hfalse
    go_enter Try.func41, Try.ntmps41
    go_wp2
    go_ret
    exact ⟨by rw [HFA.out]; rfl, Below.refl _ _⟩

set_option maxHeartbeats 2000000 in
set_option maxRecDepth 100000 in
theorem equal_any (x : It) : ∀ (y : It) (w : World) (B : Nat) (v u : Value), B ≤ w.heap.size → Lies w B x v → Lies w B y u →
    Calls Try.prog 26 #[v, u] w fun e w' => e = .returned (.bool (eqB x y)) ∧ Below w.heap.size w w' := by
  induction x using It.ind with
  | h k n s l o ih =>
  intro y w B v u hB hx hy
  obtain ⟨A, cap, rfl, hf, he⟩ := hx.out
  obtain ⟨A', cap', rfl, hf', he'⟩ := hy.out
  obtain ⟨k', n', s', l', o'⟩ := y
  have hll : l.length ≤ 140737488355328 := hf.l
  have hll' : l'.length ≤ 140737488355328 := hf'.l
  simp only [itV, It.kind, It.n, It.s, It.l, It.opn] at *
  have hlist := fun W (h : Below w.heap.size w W) => equalFunc_any l l' ih W B A A' cap cap' (Nat.le_trans hB h.size) hll hll' (LiesL.keep he (h.mono hB)) (LiesL.keep he' (h.mono hB))
  have HL := Lib.hid hlist; clear hlist
  have hbb : ∀ o o' : Obj, Below w.heap.size w ((w.alloc o).alloc o') := fun o o' => ((Below.refl _ _).alloc (Nat.le_refl _) o).alloc (by simp) o'
  have HBB := Lib.hid hbb; clear hbb
  have hbe : ∀ (o o' : Obj) (w' : World), Below ((w.alloc o).alloc o').heap.size ((w.alloc o).alloc o') w' → Below w.heap.size w w' := fun o o' w' h => (HBB.out o o').trans (h.mono (by simp <;> omega))
  have HBE := Lib.hid hbe; clear hbe
  clear ih he he' hx hy hf hf'
  have hs : eqB (.mk k n s l o) (.mk k' n' s' l' o') = (decide (k = k') && decide (n = n') && decide (s.toList = s'.toList) && (o == o') && eqL l l') := by simp only [eqB]
  have HS := Lib.hid hs; clear hs
  by_cases hk : k = k'
  · subst hk
    by_cases hn : n = n'
    · subst hn
      by_cases hs : s.toList = s'.toList
      · by_cases ho : o = o'
        · subst ho
          go_enter Try.func26, Try.ntmps26
          go_wp2_with fail
          refine (HL.out _ (HBB.out _ _)).mono ?_
          rintro e w1 ⟨rfl, hb1⟩
          go_wp2
          go_ret
          exact ⟨by rw [HS.out]; simp [hs], HBE.out _ _ _ hb1⟩
        · have go' : (o == o') = false := by simpa using ho
          go_enter Try.func26, Try.ntmps26
          go_wp2
          go_ret
          exact ⟨by rw [HS.out]; simp [ho], HBB.out _ _⟩
      · go_enter Try.func26, Try.ntmps26
        go_wp2
        go_ret
        exact ⟨by rw [HS.out]; simp [hs], HBB.out _ _⟩
    · go_enter Try.func26, Try.ntmps26
      go_wp2
      go_ret
      exact ⟨by rw [HS.out]; simp [hn], HBB.out _ _⟩
  · go_enter Try.func26, Try.ntmps26
    go_wp2
    go_ret
    exact ⟨by rw [HS.out]; simp [hk], HBB.out _ _⟩

/-- Two items that a call has boxed. -/
structure Boxed2 (w : World) (x : It) (sl : Value) (y : It) (sl' : Value) (wr : World) : Prop where
  box : wr.heap[w.heap.size]? = some (boxOf x sl)
  box' : wr.heap[w.heap.size + 1]? = some (boxOf y sl')
  below : Below w.heap.size w wr

section
variable {w : World} {x y : It} {sl sl' : Value} {wr w' : World}
theorem Boxed2.new (w : World) (x : It) (sl : Value) (y : It) (sl' : Value) : Boxed2 w x sl y sl' ((w.alloc (boxOf x sl)).alloc (boxOf y sl')) := by
  refine ⟨?_, ?_, ((Below.refl _ _).alloc (Nat.le_refl _) _).alloc (by simp) _⟩
  · rw [Below.heap_alloc _ _ _ (by simp)]
    exact heap_alloc_new w _
  · have := heap_alloc_new (w.alloc (boxOf x sl)) (boxOf y sl')
    rw [World.size_alloc] at this
    exact this
theorem Boxed2.lt (h : Boxed2 w x sl y sl' wr) : w.heap.size + 1 < wr.heap.size := by
  rcases Nat.lt_or_ge (w.heap.size + 1) wr.heap.size with h1 | h1
  · exact h1
  · have := h.box'
    rw [Array.getElem?_eq_none h1] at this
    cases this
theorem Boxed2.next (h : Boxed2 w x sl y sl' wr) (hb : Below wr.heap.size wr w') : Boxed2 w x sl y sl' w' :=
  ⟨(hb.block _ (by have := h.lt; omega)).trans h.box, (hb.block _ h.lt).trans h.box', h.below.trans (hb.mono (by have := h.lt; omega))⟩
theorem Boxed2.drew (h : Boxed2 w x sl y sl' wr) : Boxed2 w x sl y sl' wr.drew := h.next (Below.refl _ _).drew
theorem Boxed2.c0 (h : Boxed2 w x sl y sl' wr) : wr.cell? ⟨w.heap.size, 0, none⟩ = some (.int .i64 x.kind) := cell_of_row wr _ 0 _ _ _ h.box
theorem Boxed2.c1 (h : Boxed2 w x sl y sl' wr) : wr.cell? ⟨w.heap.size, 1, none⟩ = some (.int .u64 x.n) := cell_of_row wr _ 1 _ _ _ h.box
theorem Boxed2.c2 (h : Boxed2 w x sl y sl' wr) : wr.cell? ⟨w.heap.size, 2, none⟩ = some (.string x.s) := cell_of_row wr _ 2 _ _ _ h.box
theorem Boxed2.c3 (h : Boxed2 w x sl y sl' wr) : wr.cell? ⟨w.heap.size, 3, none⟩ = some sl := cell_of_row wr _ 3 _ _ _ h.box
theorem Boxed2.c4 (h : Boxed2 w x sl y sl' wr) : wr.cell? ⟨w.heap.size, 4, none⟩ = some (.bool x.opn) := cell_of_row wr _ 4 _ _ _ h.box
theorem Boxed2.d0 (h : Boxed2 w x sl y sl' wr) : wr.cell? ⟨w.heap.size + 1, 0, none⟩ = some (.int .i64 y.kind) := cell_of_row wr _ 0 _ _ _ h.box'
theorem Boxed2.d1 (h : Boxed2 w x sl y sl' wr) : wr.cell? ⟨w.heap.size + 1, 1, none⟩ = some (.int .u64 y.n) := cell_of_row wr _ 1 _ _ _ h.box'
theorem Boxed2.d2 (h : Boxed2 w x sl y sl' wr) : wr.cell? ⟨w.heap.size + 1, 2, none⟩ = some (.string y.s) := cell_of_row wr _ 2 _ _ _ h.box'
theorem Boxed2.d3 (h : Boxed2 w x sl y sl' wr) : wr.cell? ⟨w.heap.size + 1, 3, none⟩ = some sl' := cell_of_row wr _ 3 _ _ _ h.box'
theorem Boxed2.d4 (h : Boxed2 w x sl y sl' wr) : wr.cell? ⟨w.heap.size + 1, 4, none⟩ = some (.bool y.opn) := cell_of_row wr _ 4 _ _ _ h.box'
end

/-- item.Same. -/
def sameB (x y : It) : Bool := validB x 8 && validB y 8 && eqB x y

set_option maxHeartbeats 2000000 in
set_option maxRecDepth 100000 in
theorem same_any (x y : It) (w : World) (B : Nat) (v u : Value) (hB : B ≤ w.heap.size) (hx : Lies w B x v) (hy : Lies w B y u) :
    Calls Try.prog 13 #[v, u] w fun e w' => e = .returned (.bool (sameB x y)) ∧ Below w.heap.size w w' := by
  obtain ⟨A, cap, rfl, hf, he⟩ := hx.out
  obtain ⟨A', cap', rfl, hf', he'⟩ := hy.out
  have h1 := fun W (h : Boxed2 w x (.slice A x.l.length cap) y (.slice A' y.l.length cap') W) => right_any x W B _ (by have := h.lt; omega) (hx.keep (h.below.mono hB))
  have h2 := fun W (h : Boxed2 w x (.slice A x.l.length cap) y (.slice A' y.l.length cap') W) => right_any y W B _ (by have := h.lt; omega) (hy.keep (h.below.mono hB))
  have h3 := fun W (h : Boxed2 w x (.slice A x.l.length cap) y (.slice A' y.l.length cap') W) => equal_any x y W B _ _ (by have := h.lt; omega) (hx.keep (h.below.mono hB)) (hy.keep (h.below.mono hB))
  unfold sameB
  generalize validB x 8 = p at *
  generalize validB y 8 = q at *
  generalize eqB x y = r at *
  simp only [itV] at h1 h2 h3
  have H1 := Lib.hid h1; clear h1
  have H2 := Lib.hid h2; clear h2
  have H3 := Lib.hid h3; clear h3
  clear he he' hx hy hf hf'
  simp only [itV]
  cases p
  · go_enter Try.func13, Try.ntmps13
    go_wp2_with fail
    refine (H1.out _ (Boxed2.new w _ _ _ _)).mono ?_
    rintro e w1 ⟨rfl, hb1⟩
    have hbx := ((Boxed2.new w x (.slice A x.l.length cap) y (.slice A' y.l.length cap')).next hb1)
    have HB := Lib.hid hbx; clear hbx
    go_wp2
    go_ret
    exact ⟨rfl, HB.out.below⟩
  · go_enter Try.func13, Try.ntmps13
    go_wp2_with fail
    refine (H1.out _ (Boxed2.new w _ _ _ _)).mono ?_
    rintro e w1 ⟨rfl, hb1⟩
    have hbx := ((Boxed2.new w x (.slice A x.l.length cap) y (.slice A' y.l.length cap')).next hb1)
    have c0 := hbx.d0
    have c1 := hbx.d1
    have c2 := hbx.d2
    have c3 := hbx.d3
    have c4 := hbx.d4
    have HB := Lib.hid hbx; clear hbx
    go_wp2_with fail
    refine (H2.out _ HB.out).mono ?_
    rintro e w2 ⟨rfl, hb2⟩
    have hbx := HB.out.next hb2
    clear c0 c1 c2 c3 c4
    cases q
    · have HB2 := Lib.hid hbx; clear hbx
      go_wp2
      go_ret
      exact ⟨rfl, HB2.out.below⟩
    · have c0 := hbx.d0
      have c1 := hbx.d1
      have c2 := hbx.d2
      have c3 := hbx.d3
      have c4 := hbx.d4
      have e0 := hbx.c0
      have e1 := hbx.c1
      have e2 := hbx.c2
      have e3 := hbx.c3
      have e4 := hbx.c4
      have HB2 := Lib.hid hbx; clear hbx
      go_wp2_with fail
      refine (H3.out _ HB2.out).mono ?_
      rintro e w3 ⟨rfl, hb3⟩
      go_wp2
      go_ret
      exact ⟨rfl, (HB2.out.next hb3).below⟩

end Go.Proofs.Ytpmepnejjjlodaa
