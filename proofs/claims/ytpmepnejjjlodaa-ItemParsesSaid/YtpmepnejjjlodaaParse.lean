/-
  Contract of item.Parse. Conditions: the text has at most 2^47 bytes.
-/
import Derived.Test.YtpmepnejjjlodaaItem
namespace Go.Proofs.Ytpmepnejjjlodaa
open Go.ChangeShapes Go.WideShapes Go.ChangeAt Go.RowKit
open Plain
set_option linter.unusedVariables false

def zeroIt : It := .mk 0 0 ⟨#[]⟩ [] false

/-- What Parse answers: an item, an offset, an error. -/
def parseOf (t : List UInt8) : It × Int × Int :=
  match readItem 8 t with
  | .ok x u => if u = t.length then (x, -1, 0) else (zeroIt, u, 2)
  | .err a c => (zeroIt, a, c)

/-- Behind the result's block, the reader and the parser's block. -/
structure PP (w : World) (s : ByteArray) (wr : World) : Prop where
  res : wr.heap[w.heap.size]? = some (.cells zero5 25 (0, 0))
  box : wr.heap[w.heap.size + 1 + 1]? = some (pBox s (w.heap.size + 1))
  below : Below w.heap.size w wr

section
variable {w : World} {s : ByteArray} {wr w' : World}
theorem PP.lt (h : PP w s wr) : w.heap.size + 1 + 1 < wr.heap.size := lt_of_some h.box
theorem PP.next (h : PP w s wr) (k : Below wr.heap.size wr w') : PP w s w' := ⟨(k.block _ (by have := h.lt; omega)).trans h.res, (k.block _ h.lt).trans h.box, h.below.trans (k.mono (by have := h.lt; omega))⟩
theorem PP.step (h : PP w s wr) (k : Only (w.heap.size + 1) wr w') : PP w s w' :=
  ⟨(k.block _ (by have := h.lt; omega) (by omega)).trans h.res, (k.block _ h.lt (by omega)).trans h.box, h.below.trans (k.below (by have := h.lt; omega) (by omega))⟩
theorem PP.c0 (h : PP w s wr) : wr.cell? ⟨w.heap.size + 1 + 1, 0, none⟩ = some (.string s) := cell_of_row wr _ 0 _ _ _ h.box
theorem PP.c1 (h : PP w s wr) : wr.cell? ⟨w.heap.size + 1 + 1, 1, none⟩ = some (.pointer (some ⟨w.heap.size + 1, 0, none⟩)) := cell_of_row wr _ 1 _ _ _ h.box
theorem PP.r0 (h : PP w s wr) : wr.cell? ⟨w.heap.size, 0, none⟩ = some (.int .i64 0) := cell_of_row wr _ 0 _ _ _ h.res
theorem PP.r1 (h : PP w s wr) : wr.cell? ⟨w.heap.size, 1, none⟩ = some (.int .u64 0) := cell_of_row wr _ 1 _ _ _ h.res
theorem PP.r2 (h : PP w s wr) : wr.cell? ⟨w.heap.size, 2, none⟩ = some (.string ⟨#[]⟩) := cell_of_row wr _ 2 _ _ _ h.res
theorem PP.r3 (h : PP w s wr) : wr.cell? ⟨w.heap.size, 3, none⟩ = some (.slice none 0 0) := cell_of_row wr _ 3 _ _ _ h.res
theorem PP.r4 (h : PP w s wr) : wr.cell? ⟨w.heap.size, 4, none⟩ = some (.bool false) := cell_of_row wr _ 4 _ _ _ h.res
theorem PP.rf (h : PP w s wr) (i : Nat) : wr.frozen? ⟨w.heap.size, i, none⟩ = false := free5 h.res i
end

theorem pp_new (w : World) (s : ByteArray) :
    PP w s (((w.alloc (.cells zero5 25)).alloc (.cells #[.string s, .int .i64 0, .int .i64 0] 73)).alloc (pBox s (w.heap.size + 1))) ∧
    Rd (((w.alloc (.cells zero5 25)).alloc (.cells #[.string s, .int .i64 0, .int .i64 0] 73)).alloc (pBox s (w.heap.size + 1))) (w.heap.size + 1) s 0 0 := by
  refine ⟨⟨?_, ?_, ?_⟩, ?_⟩
  · rw [Below.heap_alloc _ _ _ (by simp <;> omega), Below.heap_alloc _ _ _ (by simp)]
    exact heap_alloc_new w _
  · have := heap_alloc_new ((w.alloc (.cells zero5 25)).alloc (.cells #[.string s, .int .i64 0, .int .i64 0] 73)) (pBox s (w.heap.size + 1))
    simp only [World.size_alloc] at this
    exact this
  · exact ((((Below.refl _ _).alloc (Nat.le_refl _) _).alloc (by simp) _).alloc (by simp <;> omega) _)
  · unfold Rd
    rw [Below.heap_alloc _ _ _ (by simp)]
    have := heap_alloc_new (w.alloc (.cells zero5 25)) (.cells #[.string s, .int .i64 0, .int .i64 0] 73)
    rw [World.size_alloc] at this
    exact this

/-- The same, behind the item that was read. -/
structure PX (w : World) (s : ByteArray) (w2 : World) (x : It) (sl : Value) (wr : World) : Prop where
  pp : PP w s wr
  xb : wr.heap[w2.heap.size]? = some (boxOf x sl)
  old : ∀ k, w.heap.size + 3 ≤ k → k < w2.heap.size → wr.heap[k]? = w2.heap[k]?
  big : w.heap.size + 3 ≤ w2.heap.size

section
variable {w : World} {s : ByteArray} {w2 : World} {x : It} {sl : Value} {wr w' : World}
theorem PX.new (h : PP w s w2) (x : It) (sl : Value) : PX w s w2 x sl (w2.alloc (boxOf x sl)) :=
  ⟨h.next ((Below.refl _ _).alloc (Nat.le_refl _) _), heap_alloc_new w2 _, fun k _ hk => Below.heap_alloc _ _ _ hk, h.lt⟩
theorem PX.lt (h : PX w s w2 x sl wr) : w2.heap.size < wr.heap.size := lt_of_some h.xb
theorem PX.next (h : PX w s w2 x sl wr) (k : Below wr.heap.size wr w') : PX w s w2 x sl w' :=
  ⟨h.pp.next k, (k.block _ h.lt).trans h.xb, fun i h1 h2 => (k.block i (by have := h.lt; omega)).trans (h.old i h1 h2), h.big⟩
theorem PX.step (h : PX w s w2 x sl wr) (k : Only (w.heap.size + 1) wr w') : PX w s w2 x sl w' :=
  ⟨h.pp.step k, (k.block _ h.lt (by have := h.big; omega)).trans h.xb, fun i h1 h2 => (k.block i (by have := h.lt; omega) (by omega)).trans (h.old i h1 h2), h.big⟩
theorem PX.x0 (h : PX w s w2 x sl wr) : wr.cell? ⟨w2.heap.size, 0, none⟩ = some (.int .i64 x.kind) := cell_of_row wr _ 0 _ _ _ h.xb
theorem PX.x1 (h : PX w s w2 x sl wr) : wr.cell? ⟨w2.heap.size, 1, none⟩ = some (.int .u64 x.n) := cell_of_row wr _ 1 _ _ _ h.xb
theorem PX.x2 (h : PX w s w2 x sl wr) : wr.cell? ⟨w2.heap.size, 2, none⟩ = some (.string x.s) := cell_of_row wr _ 2 _ _ _ h.xb
theorem PX.x3 (h : PX w s w2 x sl wr) : wr.cell? ⟨w2.heap.size, 3, none⟩ = some sl := cell_of_row wr _ 3 _ _ _ h.xb
theorem PX.x4 (h : PX w s w2 x sl wr) : wr.cell? ⟨w2.heap.size, 4, none⟩ = some (.bool x.opn) := cell_of_row wr _ 4 _ _ _ h.xb
end

def ParsedPost (s : ByteArray) (w : World) (e : Ending) (w' : World) : Prop :=
  ∃ v, e = .returned (.tuple #[v, .int .i64 (parseOf s.data.toList).2.1, .int .i64 (parseOf s.data.toList).2.2]) ∧ Lies w' w'.heap.size (parseOf s.data.toList).1 v ∧ Below w.heap.size w w'

set_option maxHeartbeats 4000000 in
set_option maxRecDepth 100000 in
theorem parse_all (s : ByteArray) (w : World) (hs : s.size ≤ 140737488355328) : Calls Try.prog 14 #[.string s] w (ParsedPost s w) := by
  have hml : s.size ≤ maxLen := by unfold maxLen; omega
  have hitem := fun (W : World) (r : Rd W (w.heap.size + 1) s 0 0) => item_any s (w.heap.size + 1) hs 8 1 (by omega) W 0 ⟨r, hml, Nat.zero_le _⟩
  have hdone := fun (W : World) (q : Nat) (c : Int) (r : Rd W (w.heap.size + 1) s q c) (hq : q ≤ s.size) => done_any (w := W) (b := w.heap.size + 1) ⟨r, hml, hq⟩
  unfold ItemPost at hitem
  simp only [List.drop_zero] at hitem
  have hpo : ∀ R, readItem 8 s.data.toList = R → parseOf s.data.toList = match R with | .ok x u => if u = s.size then (x, -1, 0) else (zeroIt, (u : Int), 2) | .err a c => (zeroIt, (a : Int), c) := by
    intro R hR
    unfold parseOf
    rw [hR, size_data]
  generalize hR : readItem 8 s.data.toList = R at *
  have hpo2 := hpo R rfl
  clear hpo
  unfold ParsedPost
  rw [hpo2]
  clear hpo2
  have HITEM := Lib.hid hitem; clear hitem
  have HDONE := Lib.hid hdone; clear hdone
  have HS := Lib.hid (And.intro hs (And.intro hml hR)); clear hs hml hR
  obtain ⟨hpp, hrd⟩ := pp_new w s
  have HPP := Lib.hid hpp; clear hpp
  have HRD := Lib.hid hrd; clear hrd
  simp only [pV] at *
  go_enter Try.func14, Try.ntmps14
  go_wp2_with fail
  refine (newReader_any s _).mono ?_
  rintro e wn ⟨rfl, rfl⟩
  go_wp2_with fail
  refine (HITEM.out _ HRD.out).mono ?_
  rintro e w2 ⟨x, v, rfl, hx, ho, haft⟩
  obtain ⟨A, cap, rfl⟩ := hx.slice
  have hpp2 := HPP.out.step ho
  have hxl : ∀ F : World, (∀ k, w.heap.size + 3 ≤ k → k < w2.heap.size → F.heap[k]? = w2.heap[k]?) → w2.heap.size ≤ F.heap.size → LiesIn F (fun k => k < F.heap.size) x (itV x (.slice A x.l.length cap)) := by
    intro F h1 h2
    refine hx.keep ?_
    rintro k ⟨k1, k2⟩
    simp only [World.size_alloc] at k1
    exact ⟨h1 k (by omega) k2, by omega⟩
  have HXL := Lib.hid hxl; clear hxl hx ho
  have hpx := PX.new hpp2 x (.slice A x.l.length cap)
  have d1 := hpp2.c1
  have dlt := hpp2.lt
  have HPX := Lib.hid hpx; clear hpx hpp2
  simp only [itV]
  cases R with
  | err a c =>
    simp only [AfterI, Nat.zero_add] at haft
    obtain ⟨hrd2, hc, ha⟩ := haft
    have hd := HDONE.out _ a c (hrd2.alloc (boxOf x (.slice A x.l.length cap))) ha
    have hdo : doneOf s a c = false := by simp [doneOf, hc]
    rw [hdo] at hd
    have HD := Lib.hid hd; clear hd hdo
    have hrd3 := hrd2.alloc (boxOf x (.slice A x.l.length cap))
    have HRD3 := Lib.hid hrd3; clear hrd3 hrd2
    go_wp2_with fail
    refine HD.out.mono ?_
    rintro e w3 ⟨rfl, hb3⟩
    have HX3 := Lib.hid (HPX.out.next hb3)
    have HR3 := Lib.hid (HRD3.out.below hb3)
    clear hb3 d1 dlt
    have c1 := HX3.out.pp.c1
    go_wp2_with fail
    refine (fail_any 2 HR3.out).mono ?_
    have hfc : failC c 2 = c := by simp [failC, hc]
    rw [hfc]
    clear hfc
    rintro e w4 ⟨rfl, hrd4, ho4⟩
    have HX4 := Lib.hid (HX3.out.step ho4)
    have hbad := bad_failed hrd4 hc
    have HBAD := Lib.hid hbad; clear hbad hrd4 ho4 c1
    have c1 := HX4.out.pp.c1
    go_wp2_with fail
    refine HBAD.out.mono ?_
    rintro e w5 ⟨rfl, hb5⟩
    have HX5 := Lib.hid (HX4.out.next hb5)
    clear hb5 c1
    have gc : (c == 0) = false := by simpa using hc
    have r0 := HX5.out.pp.r0
    have r1 := HX5.out.pp.r1
    have r2 := HX5.out.pp.r2
    have r3 := HX5.out.pp.r3
    have r4 := HX5.out.pp.r4
    have rf := HX5.out.pp.rf
    go_wp2
    generalize hF : ((((w5.setCell ⟨w.heap.size, 0, none⟩ (.int .i64 0)).setCell ⟨w.heap.size, 1, none⟩ (.int .u64 0)).setCell ⟨w.heap.size, 2, none⟩ (.string ⟨#[]⟩)).setCell ⟨w.heap.size, 3, none⟩ (.slice none 0 0)).setCell ⟨w.heap.size, 4, none⟩ (.bool false) = F
    obtain ⟨⟨f0, f1, f2, f3, f4⟩, hoth, hbel, _⟩ := set5_end HX5.out.pp.res _ _ _ _ _ F hF.symm
    clear hF
    refine bodyPost_ret (v := .tuple #[.agg #[.int .i64 0, .int .u64 0, .string ⟨#[]⟩, .slice none 0 0, .bool false], .int .i64 a, .int .i64 c]) (by simp [results, Try.results14, go_sem, f0, f1, f2, f3, f4]) rfl ⟨_, rfl, lies_leaf F _ 0 0 ⟨#[]⟩ (by decide) (by decide) (by decide), HX5.out.pp.below.trans (hbel _ (Nat.le_refl _))⟩
  | ok y u =>
    simp only [AfterI, Nat.zero_add] at haft
    obtain ⟨hxy, hrd2, hu⟩ := haft
    have HXY := Lib.hid hxy; clear hxy
    have hrd3 := hrd2.alloc (boxOf x (.slice A x.l.length cap))
    have hd := HDONE.out _ u 0 hrd3 hu
    by_cases hus : u = s.size
    · have hdo : doneOf s u 0 = true := by simp [doneOf, hus]
      rw [hdo] at hd
      have HD := Lib.hid hd; clear hd hdo
      have HRD3 := Lib.hid hrd3; clear hrd3 hrd2
      have HUS := Lib.hid hus; clear hus
      go_wp2_with fail
      refine HD.out.mono ?_
      rintro e w3 ⟨rfl, hb3⟩
      have HX3 := Lib.hid (HPX.out.next hb3)
      have hbad := bad_ok (HRD3.out.below hb3)
      have HBAD := Lib.hid hbad; clear hbad hb3 d1 dlt
      have c1 := HX3.out.pp.c1
      go_wp2_with fail
      refine HBAD.out.mono ?_
      rintro e w5 ⟨rfl, hb5⟩
      have HX5 := Lib.hid (HX3.out.next hb5)
      clear hb5 c1
      have r0 := HX5.out.pp.r0
      have r1 := HX5.out.pp.r1
      have r2 := HX5.out.pp.r2
      have r3 := HX5.out.pp.r3
      have r4 := HX5.out.pp.r4
      have rf := HX5.out.pp.rf
      have x0 := HX5.out.x0
      have x1 := HX5.out.x1
      have x2 := HX5.out.x2
      have x3 := HX5.out.x3
      have x4 := HX5.out.x4
      go_wp2
      generalize hF : ((((w5.setCell ⟨w.heap.size, 0, none⟩ (.int .i64 x.kind)).setCell ⟨w.heap.size, 1, none⟩ (.int .u64 x.n)).setCell ⟨w.heap.size, 2, none⟩ (.string x.s)).setCell ⟨w.heap.size, 3, none⟩ (.slice A x.l.length cap)).setCell ⟨w.heap.size, 4, none⟩ (.bool x.opn) = F
      obtain ⟨⟨f0, f1, f2, f3, f4⟩, hoth, hbel, _⟩ := set5_end HX5.out.pp.res _ _ _ _ _ F hF.symm
      clear hF
      have hB := hbel w.heap.size (Nat.le_refl _)
      have hlies := (HXL.out F (fun k k1 k2 => (hoth k (by omega)).trans (HX5.out.old k k1 k2)) (by have := hB.size; have := HX5.out.lt; omega)).lies (B := F.heap.size) (fun k hk => hk)
      refine bodyPost_ret (v := .tuple #[.agg #[.int .i64 x.kind, .int .u64 x.n, .string x.s, .slice A x.l.length cap, .bool x.opn], .int .i64 (-1), .int .i64 0]) (by simp [results, Try.results14, go_sem, f0, f1, f2, f3, f4]) rfl ⟨.agg #[.int .i64 x.kind, .int .u64 x.n, .string x.s, .slice A x.l.length cap, .bool x.opn], rfl, by rw [← HXY.out]; exact hlies, HX5.out.pp.below.trans hB⟩
    · have hdo : doneOf s u 0 = false := by simp [doneOf, hus]
      rw [hdo] at hd
      have HD := Lib.hid hd; clear hd hdo
      have HRD3 := Lib.hid hrd3; clear hrd3 hrd2
      have HUS := Lib.hid hus; clear hus
      go_wp2_with fail
      refine HD.out.mono ?_
      rintro e w3 ⟨rfl, hb3⟩
      have HX3 := Lib.hid (HPX.out.next hb3)
      have HR3 := Lib.hid (HRD3.out.below hb3)
      clear hb3 d1 dlt
      have c1 := HX3.out.pp.c1
      go_wp2_with fail
      refine (fail_any 2 HR3.out).mono ?_
      have hfc : failC 0 2 = 2 := rfl
      rw [hfc]
      clear hfc
      rintro e w4 ⟨rfl, hrd4, ho4⟩
      have HX4 := Lib.hid (HX3.out.step ho4)
      have hbad := bad_failed hrd4 (by decide)
      have HBAD := Lib.hid hbad; clear hbad hrd4 ho4 c1
      have c1 := HX4.out.pp.c1
      go_wp2_with fail
      refine HBAD.out.mono ?_
      rintro e w5 ⟨rfl, hb5⟩
      have HX5 := Lib.hid (HX4.out.next hb5)
      clear hb5 c1
      have r0 := HX5.out.pp.r0
      have r1 := HX5.out.pp.r1
      have r2 := HX5.out.pp.r2
      have r3 := HX5.out.pp.r3
      have r4 := HX5.out.pp.r4
      have rf := HX5.out.pp.rf
      go_wp2
      generalize hF : ((((w5.setCell ⟨w.heap.size, 0, none⟩ (.int .i64 0)).setCell ⟨w.heap.size, 1, none⟩ (.int .u64 0)).setCell ⟨w.heap.size, 2, none⟩ (.string ⟨#[]⟩)).setCell ⟨w.heap.size, 3, none⟩ (.slice none 0 0)).setCell ⟨w.heap.size, 4, none⟩ (.bool false) = F
      obtain ⟨⟨f0, f1, f2, f3, f4⟩, hoth, hbel, _⟩ := set5_end HX5.out.pp.res _ _ _ _ _ F hF.symm
      clear hF
      refine bodyPost_ret (v := .tuple #[.agg #[.int .i64 0, .int .u64 0, .string ⟨#[]⟩, .slice none 0 0, .bool false], .int .i64 u, .int .i64 2]) (by simp [results, Try.results14, go_sem, f0, f1, f2, f3, f4]) rfl ⟨_, rfl, lies_leaf F _ 0 0 ⟨#[]⟩ (by decide) (by decide) (by decide), HX5.out.pp.below.trans (hbel _ (Nat.le_refl _))⟩

end Go.Proofs.Ytpmepnejjjlodaa
