/-
  Contract of item's parser: array. Conditions: its reader is in order, and items are read as readItem says.
-/
import Derived.Test.YtpmepnejjjlodaaOpenL
namespace Go.Proofs.Ytpmepnejjjlodaa
open Go.ChangeShapes Go.WideShapes Go.ChangeAt Go.RowKit
open Plain
set_option linter.unusedVariables false

def zero5 : Array Value := #[.int .i64 0, .int .u64 0, .string ⟨#[]⟩, .slice none 0 0, .bool false]

/-- Behind the parser's box and the result's block. -/
structure PRes (w : World) (s : ByteArray) (b : Nat) (wr : World) : Prop where
  box : wr.heap[w.heap.size]? = some (pBox s b)
  res : wr.heap[w.heap.size + 1]? = some (.cells zero5 25 (0, 0))
  only : Only b w wr

section
variable {w : World} {s : ByteArray} {b : Nat} {wr w' : World}
theorem PRes.new (w : World) (s : ByteArray) (b : Nat) : PRes w s b ((w.alloc (pBox s b)).alloc (.cells zero5 25)) := by
  refine ⟨?_, ?_, ((Only.refl b w).alloc _).alloc _⟩
  · rw [Below.heap_alloc _ _ _ (by simp)]
    exact heap_alloc_new w _
  · have := heap_alloc_new (w.alloc (pBox s b)) (.cells zero5 25)
    rw [World.size_alloc] at this
    exact this
theorem PRes.lt (h : PRes w s b wr) : w.heap.size + 1 < wr.heap.size := lt_of_some h.res
theorem PRes.next (h : PRes w s b wr) (k : Below wr.heap.size wr w') : PRes w s b w' := ⟨(k.block _ (by have := h.lt; omega)).trans h.box, (k.block _ h.lt).trans h.res, h.only.next k⟩
theorem PRes.step (h : PRes w s b wr) (hb : b < w.heap.size) (k : Only b wr w') : PRes w s b w' := ⟨(k.block _ (by have := h.lt; omega) (by omega)).trans h.box, (k.block _ h.lt (by omega)).trans h.res, h.only.trans k⟩
theorem PRes.c0 (h : PRes w s b wr) : wr.cell? ⟨w.heap.size, 0, none⟩ = some (.string s) := cell_of_row wr _ 0 _ _ _ h.box
theorem PRes.c1 (h : PRes w s b wr) : wr.cell? ⟨w.heap.size, 1, none⟩ = some (.pointer (some ⟨b, 0, none⟩)) := cell_of_row wr _ 1 _ _ _ h.box
theorem PRes.r0 (h : PRes w s b wr) : wr.cell? ⟨w.heap.size + 1, 0, none⟩ = some (.int .i64 0) := cell_of_row wr _ 0 _ _ _ h.res
theorem PRes.r1 (h : PRes w s b wr) : wr.cell? ⟨w.heap.size + 1, 1, none⟩ = some (.int .u64 0) := cell_of_row wr _ 1 _ _ _ h.res
theorem PRes.r2 (h : PRes w s b wr) : wr.cell? ⟨w.heap.size + 1, 2, none⟩ = some (.string ⟨#[]⟩) := cell_of_row wr _ 2 _ _ _ h.res
theorem PRes.r3 (h : PRes w s b wr) : wr.cell? ⟨w.heap.size + 1, 3, none⟩ = some (.slice none 0 0) := cell_of_row wr _ 3 _ _ _ h.res
theorem PRes.r4 (h : PRes w s b wr) : wr.cell? ⟨w.heap.size + 1, 4, none⟩ = some (.bool false) := cell_of_row wr _ 4 _ _ _ h.res
theorem PRes.rf (h : PRes w s b wr) (i : Nat) : wr.frozen? ⟨w.heap.size + 1, i, none⟩ = false := free5 h.res i

/-- The result, stored. -/
theorem PRes.end_ (h : PRes w s b wr) (hb : b < w.heap.size) (v0 v1 v2 v3 v4 : Value) (F : World)
    (hF : F = (((((wr.setCell ⟨w.heap.size + 1, 0, none⟩ v0).setCell ⟨w.heap.size + 1, 1, none⟩ v1).setCell ⟨w.heap.size + 1, 2, none⟩ v2).setCell ⟨w.heap.size + 1, 3, none⟩ v3).setCell ⟨w.heap.size + 1, 4, none⟩ v4)) :
    (F.cell? ⟨w.heap.size + 1, 0, none⟩ = some v0 ∧ F.cell? ⟨w.heap.size + 1, 1, none⟩ = some v1 ∧ F.cell? ⟨w.heap.size + 1, 2, none⟩ = some v2 ∧ F.cell? ⟨w.heap.size + 1, 3, none⟩ = some v3 ∧ F.cell? ⟨w.heap.size + 1, 4, none⟩ = some v4) ∧
      Only b w F ∧ (∀ q c, Rd wr b s q c → Rd F b s q c) ∧ (∀ k, k ≠ w.heap.size + 1 → F.heap[k]? = wr.heap[k]?) ∧ wr.heap.size ≤ F.heap.size := by
  obtain ⟨hc, hoth, hbel, _⟩ := set5_end h.res v0 v1 v2 v3 v4 F hF
  have hB := hbel (w.heap.size + 1) (Nat.le_refl _)
  refine ⟨hc, ⟨hB.os.trans h.only.os, hB.tape.trans h.only.tape, hB.output.trans h.only.output, Nat.le_trans h.only.size hB.size, fun i hi hne => (hB.block i (by omega)).trans (h.only.block i hi hne)⟩, fun q c hq => (hoth b (by omega)).trans hq, hoth, hB.size⟩
end

/-- What holds behind the reading of an array, at a reader that may have failed. -/
def ArrPost (d : Nat) (s : ByteArray) (b p : Nat) (c : Int) (w : World) (e : Ending) (w' : World) : Prop :=
  ∃ x v, e = .returned v ∧ LiesIn w' (News w w') x v ∧ Only b w w' ∧ (c ≠ 0 → Rd w' b s p c) ∧ (c = 0 → AfterI w' s b p x (readItem (d + 1) (s.data.toList.drop p)))

set_option maxHeartbeats 1000000 in
set_option maxRecDepth 100000 in
/-- list: no items. -/
theorem list_zero (L : Nat) (s : ByteArray) (b : Nat) (hL : L ≤ 10) (w : World) :
    Calls Try.prog 60 #[pV s b, .int .i64 0, .int .i64 L] w fun e w' => e = .returned (.slice none 0 0) ∧ Below w.heap.size w w' := by
  unfold pV
  go_enter Try.func60, Try.ntmps60
  go_wp2
  go_loopw [7] (fun v wr => v = .slice none 0 0 ∧ Below w.heap.size w wr) (fun v _ => 0)
  case atStart => exact ⟨rfl, (Below.refl _ _).alloc (Nat.le_refl _) _⟩
  case round =>
    obtain ⟨rfl, hb⟩ := hrel
    go_wp2
    go_ret
    exact ⟨rfl, hb⟩

set_option maxHeartbeats 2000000 in
set_option maxRecDepth 100000 in
/-- array, where there is nothing to read: the reader has failed, or it fails now. -/
theorem array_none (L : Nat) (s : ByteArray) (b : Nat) (hL : L ≤ 9) (w : World) (p q : Nat) (c c' : Int) (h : Ok w b s p c) (ha : arrOf s p c = (0, q, c')) :
    Calls Try.prog 46 #[pV s b, .int .i64 L] w fun e w' => ∃ x v, e = .returned v ∧ LiesIn w' (News w w') x v ∧ Only b w w' ∧ Rd w' b s q c' := by
  have hblt := h.rd.lt
  have harr := fun (W : World) (k : Only b w W) (r : Rd W b s p c) => readArray_any (w := W) (b := b) (s := s) (p := p) (c := c) ⟨r, h.fits, h.within⟩
  rw [ha] at harr
  simp only [] at harr
  have hrd := h.rd
  have HARR := Lib.hid harr; clear harr
  have HRD := Lib.hid hrd; clear hrd h
  have hlz := list_zero (L + 1) s b (by omega)
  have HLZ := Lib.hid hlz; clear hlz
  have hLI : (L : Int) ≤ 9 := by omega
  have hcast : ((L + 1 : Nat) : Int) = (L : Int) + 1 := by omega
  rw [hcast] at HLZ
  clear hcast
  simp only [pV] at *
  go_enter Try.func46, Try.ntmps46
  go_wp2_with fail
  refine (HARR.out _ (PRes.new w s b).only ((HRD.out.alloc _).alloc _)).mono ?_
  rintro e w1 ⟨rfl, hrd1, ho1⟩
  have hpr := (PRes.new w s b).step hblt ho1
  have c0 := hpr.c0
  have c1 := hpr.c1
  have HPR := Lib.hid hpr; clear hpr ho1
  have HRD1 := Lib.hid hrd1; clear hrd1
  go_wp2_with fail
  refine (HLZ.out _).mono ?_
  rintro e w2 ⟨rfl, hb2⟩
  have hpr := HPR.out.next hb2
  have r0 := hpr.r0
  have r1 := hpr.r1
  have r2 := hpr.r2
  have r3 := hpr.r3
  have r4 := hpr.r4
  have rf := hpr.rf
  have hrd2 := HRD1.out.below hb2
  have HPR2 := Lib.hid hpr; clear hpr hb2
  have HRD2 := Lib.hid hrd2; clear hrd2
  clear c0 c1
  go_wp2
  generalize hF : ((((w2.setCell ⟨w.heap.size + 1, 0, none⟩ (.int .i64 4)).setCell ⟨w.heap.size + 1, 1, none⟩ (.int .u64 0)).setCell ⟨w.heap.size + 1, 2, none⟩ (.string ⟨#[]⟩)).setCell ⟨w.heap.size + 1, 3, none⟩ (.slice none 0 0)).setCell ⟨w.heap.size + 1, 4, none⟩ (.bool false) = F
  obtain ⟨⟨f0, f1, f2, f3, f4⟩, hoF, hrdF, _, _⟩ := HPR2.out.end_ hblt _ _ _ _ _ F hF.symm
  clear hF
  refine bodyPost_ret (v := .agg #[.int .i64 4, .int .u64 0, .string ⟨#[]⟩, .slice none 0 0, .bool false]) (by simp [results, Try.results46, go_sem, f0, f1, f2, f3, f4]) rfl ⟨.mk 4 0 ⟨#[]⟩ [] false, _, rfl, liesIn_leaf F _ 4 0 ⟨#[]⟩ false (by decide) (by decide) (by decide), hoF, hrdF _ _ HRD2.out⟩

set_option maxHeartbeats 2000000 in
set_option maxRecDepth 100000 in
/-- array, closed. -/
theorem array_closed (d L : Nat) (s : ByteArray) (b : Nat) (hL : L ≤ 8)
    (ih : ∀ (w : World) (p : Nat), Ok w b s p 0 → Calls Try.prog 28 #[pV s b, .int .i64 ((L + 1 : Nat) : Int)] w (ItemPost d s b p w))
    (w : World) (p : Nat) (h : Ok w b s p 0) (x : Hd) (hx : headL (s.data.toList.drop p) = some x) (hm : x.major = 4) (ho : x.op = false) (hn : x.n ≤ 1000) :
    Calls Try.prog 46 #[pV s b, .int .i64 L] w fun e w' => ∃ y v, e = .returned v ∧ LiesIn w' (News w w') y v ∧ Only b w w' ∧ AfterI w' s b p y (readItem (d + 1) (s.data.toList.drop p)) := by
  have hblt := h.rd.lt
  obtain ⟨hz1, _, hzl, _⟩ := headL_size hx
  have hlen : (s.data.toList.drop p).length = s.size - p := by rw [List.length_drop, size_data]
  have hwi := h.within
  have hle : p + x.size ≤ s.size := by omega
  have harrv : arrOf s p 0 = ((x.n : Int), p + x.size, 0) := by
    have hpk : peekOf s p 0 = (x, 0) := by unfold peekOf; rw [if_neg (by simp), hx]
    unfold arrOf
    rw [hpk]
    simp [hm, ho, show ¬ 1000 < x.n by omega]
  have harr := fun (W : World) (r : Rd W b s p 0) => readArray_any (w := W) (b := b) (s := s) (p := p) (c := 0) ⟨r, h.fits, h.within⟩
  rw [harrv] at harr
  simp only [] at harr
  have hspec : readItem (d + 1) (s.data.toList.drop p) = arrayRes false x.size (readMany (readItem d) x.n (s.data.toList.drop (p + x.size))) := by
    simp only [readItem, hx, hm]
    simp [ho, show ¬ 1000 < x.n by omega, List.drop_drop]
  rw [hspec]
  have hlist := fun (W : World) (r : Rd W b s (p + x.size) 0) => list_any d (L + 1) x.n s b (by omega) hn ih W (p + x.size) ⟨r, h.fits, hle⟩
  generalize readMany (readItem d) x.n (s.data.toList.drop (p + x.size)) = R at *
  have hrd := h.rd
  have HARR := Lib.hid harr; clear harr
  have HRD := Lib.hid hrd; clear hrd h
  have HL := Lib.hid hlist; clear hlist ih
  have hLI : (L : Int) ≤ 8 := by omega
  have hcast : ((L + 1 : Nat) : Int) = (L : Int) + 1 := by omega
  rw [hcast] at HL
  clear hcast hspec harrv hx hlen
  have hnI : (x.n : Int) ≤ 1000 := by omega
  have gneg : decide ((x.n : Int) < 0) = false := by simp
  simp only [pV] at *
  go_enter Try.func46, Try.ntmps46
  go_wp2_with fail
  refine (HARR.out _ ((HRD.out.alloc _).alloc _)).mono ?_
  rintro e w1 ⟨rfl, hrd1, ho1⟩
  have hpr := (PRes.new w s b).step hblt ho1
  have c0 := hpr.c0
  have c1 := hpr.c1
  have HPR := Lib.hid hpr; clear hpr ho1
  have HRD1 := Lib.hid hrd1; clear hrd1
  go_wp2_with fail
  refine (HL.out _ HRD1.out).mono ?_
  rintro e w2 ⟨l, v, rfl, hmk, hl1000, ho2, haft⟩
  obtain ⟨A, cap, rfl⟩ := hmk.form
  have hpr := HPR.out.step hblt ho2
  have r0 := hpr.r0
  have r1 := hpr.r1
  have r2 := hpr.r2
  have r3 := hpr.r3
  have r4 := hpr.r4
  have rf := hpr.rf
  have HPR2 := Lib.hid hpr; clear hpr
  have HMK := Lib.hid hmk; clear hmk ho2
  have HAFT := Lib.hid haft; clear haft
  clear c0 c1
  go_wp2
  generalize hF : ((((w2.setCell ⟨w.heap.size + 1, 0, none⟩ (.int .i64 4)).setCell ⟨w.heap.size + 1, 1, none⟩ (.int .u64 0)).setCell ⟨w.heap.size + 1, 2, none⟩ (.string ⟨#[]⟩)).setCell ⟨w.heap.size + 1, 3, none⟩ (.slice A l.length cap)).setCell ⟨w.heap.size + 1, 4, none⟩ (.bool false) = F
  obtain ⟨⟨f0, f1, f2, f3, f4⟩, hoF, hrdF, hothF, hszF⟩ := HPR2.out.end_ hblt _ _ _ _ _ F hF.symm
  clear hF
  have hlies := (HMK.out.lies false hl1000).keep (w' := F) (Q' := News w F) (fun k hk => by
    have h1 := HPR.out.lt
    obtain ⟨k1, k2⟩ := hk
    exact ⟨hothF k (by omega), by omega, by omega⟩)
  refine bodyPost_ret (v := .agg #[.int .i64 4, .int .u64 0, .string ⟨#[]⟩, .slice A l.length cap, .bool false]) (by simp [results, Try.results46, go_sem, f0, f1, f2, f3, f4]) rfl ⟨.mk 4 0 ⟨#[]⟩ (l.map (·.1)) false, _, rfl, hlies, hoF, ?_⟩
  have ha := HAFT.out
  cases R with
  | ok ys u =>
    simp only [AfterL] at ha
    simp only [arrayRes, AfterI]
    refine ⟨by rw [ha.1], ?_, by omega⟩
    rw [← Nat.add_assoc]
    exact hrdF _ _ ha.2.1
  | err a c =>
    simp only [AfterL] at ha
    simp only [arrayRes, AfterI]
    refine ⟨?_, ha.2.1, by omega⟩
    rw [← Nat.add_assoc]
    exact hrdF _ _ ha.1

set_option maxHeartbeats 2000000 in
set_option maxRecDepth 100000 in
/-- array, opened. -/
theorem array_opened (d L : Nat) (s : ByteArray) (b : Nat) (hL : L ≤ 8)
    (ih : ∀ (w : World) (p : Nat), Ok w b s p 0 → Calls Try.prog 28 #[pV s b, .int .i64 ((L + 1 : Nat) : Int)] w (ItemPost d s b p w))
    (w : World) (p : Nat) (h : Ok w b s p 0) (x : Hd) (hx : headL (s.data.toList.drop p) = some x) (hm : x.major = 4) (ho : x.op = true) (hn : x.n = 0) :
    Calls Try.prog 46 #[pV s b, .int .i64 L] w fun e w' => ∃ y v, e = .returned v ∧ LiesIn w' (News w w') y v ∧ Only b w w' ∧ AfterI w' s b p y (readItem (d + 1) (s.data.toList.drop p)) := by
  have hblt := h.rd.lt
  obtain ⟨hz1, _, hzl, _⟩ := headL_size hx
  have hlen : (s.data.toList.drop p).length = s.size - p := by rw [List.length_drop, size_data]
  have hwi := h.within
  have hle : p + x.size ≤ s.size := by omega
  have harrv : arrOf s p 0 = (-1, p + x.size, 0) := by
    have hpk : peekOf s p 0 = (x, 0) := by unfold peekOf; rw [if_neg (by simp), hx]
    unfold arrOf
    rw [hpk]
    simp [hm, ho, hn]
  have harr := fun (W : World) (r : Rd W b s p 0) => readArray_any (w := W) (b := b) (s := s) (p := p) (c := 0) ⟨r, h.fits, h.within⟩
  rw [harrv] at harr
  simp only [] at harr
  have hspec : readItem (d + 1) (s.data.toList.drop p) = arrayRes true x.size (readOpen (readItem d) 1000 (s.data.toList.drop (p + x.size))) := by
    simp only [readItem, hx, hm]
    simp [ho, List.drop_drop]
  rw [hspec]
  have hlist := fun (W : World) (r : Rd W b s (p + x.size) 0) => openList_any d (L + 1) s b (by omega) ih W (p + x.size) ⟨r, h.fits, hle⟩
  generalize readOpen (readItem d) 1000 (s.data.toList.drop (p + x.size)) = R at *
  have hrd := h.rd
  have HARR := Lib.hid harr; clear harr
  have HRD := Lib.hid hrd; clear hrd h
  have HL := Lib.hid hlist; clear hlist ih
  have hLI : (L : Int) ≤ 8 := by omega
  have hcast : ((L + 1 : Nat) : Int) = (L : Int) + 1 := by omega
  rw [hcast] at HL
  clear hcast hspec harrv hx hlen
  simp only [pV] at *
  go_enter Try.func46, Try.ntmps46
  go_wp2_with fail
  refine (HARR.out _ ((HRD.out.alloc _).alloc _)).mono ?_
  rintro e w1 ⟨rfl, hrd1, ho1⟩
  have hpr := (PRes.new w s b).step hblt ho1
  have c0 := hpr.c0
  have c1 := hpr.c1
  have HPR := Lib.hid hpr; clear hpr ho1
  have HRD1 := Lib.hid hrd1; clear hrd1
  go_wp2_with fail
  refine (HL.out _ HRD1.out).mono ?_
  rintro e w2 ⟨l, v, rfl, hmk, hl1000, ho2, haft⟩
  obtain ⟨A, cap, rfl⟩ := hmk.form
  have hpr := HPR.out.step hblt ho2
  have r0 := hpr.r0
  have r1 := hpr.r1
  have r2 := hpr.r2
  have r3 := hpr.r3
  have r4 := hpr.r4
  have rf := hpr.rf
  have HPR2 := Lib.hid hpr; clear hpr
  have HMK := Lib.hid hmk; clear hmk ho2
  have HAFT := Lib.hid haft; clear haft
  clear c0 c1
  go_wp2
  generalize hF : ((((w2.setCell ⟨w.heap.size + 1, 0, none⟩ (.int .i64 4)).setCell ⟨w.heap.size + 1, 1, none⟩ (.int .u64 0)).setCell ⟨w.heap.size + 1, 2, none⟩ (.string ⟨#[]⟩)).setCell ⟨w.heap.size + 1, 3, none⟩ (.slice A l.length cap)).setCell ⟨w.heap.size + 1, 4, none⟩ (.bool true) = F
  obtain ⟨⟨f0, f1, f2, f3, f4⟩, hoF, hrdF, hothF, hszF⟩ := HPR2.out.end_ hblt _ _ _ _ _ F hF.symm
  clear hF
  have hlies := (HMK.out.lies true hl1000).keep (w' := F) (Q' := News w F) (fun k hk => by
    have h1 := HPR.out.lt
    obtain ⟨k1, k2⟩ := hk
    exact ⟨hothF k (by omega), by omega, by omega⟩)
  refine bodyPost_ret (v := .agg #[.int .i64 4, .int .u64 0, .string ⟨#[]⟩, .slice A l.length cap, .bool true]) (by simp [results, Try.results46, go_sem, f0, f1, f2, f3, f4]) rfl ⟨.mk 4 0 ⟨#[]⟩ (l.map (·.1)) true, _, rfl, hlies, hoF, ?_⟩
  have ha := HAFT.out
  cases R with
  | ok ys u =>
    simp only [AfterL] at ha
    simp only [arrayRes, AfterI]
    refine ⟨by rw [ha.1], ?_, by omega⟩
    rw [← Nat.add_assoc]
    exact hrdF _ _ ha.2.1
  | err a c =>
    simp only [AfterL] at ha
    simp only [arrayRes, AfterI]
    refine ⟨?_, ha.2.1, by omega⟩
    rw [← Nat.add_assoc]
    exact hrdF _ _ ha.1

/-- array, at a head of an array. -/
theorem array_any (d L : Nat) (s : ByteArray) (b : Nat) (hL : L ≤ 8)
    (ih : ∀ (w : World) (p : Nat), Ok w b s p 0 → Calls Try.prog 28 #[pV s b, .int .i64 ((L + 1 : Nat) : Int)] w (ItemPost d s b p w))
    (w : World) (p : Nat) (h : Ok w b s p 0) (x : Hd) (hx : headL (s.data.toList.drop p) = some x) (hm : x.major = 4) :
    Calls Try.prog 46 #[pV s b, .int .i64 L] w fun e w' => ∃ y v, e = .returned v ∧ LiesIn w' (News w w') y v ∧ Only b w w' ∧ AfterI w' s b p y (readItem (d + 1) (s.data.toList.drop p)) := by
  cases ho : x.op
  · by_cases hn : x.n ≤ 1000
    · exact array_closed d L s b hL ih w p h x hx hm ho hn
    · have hpk : peekOf s p 0 = (x, 0) := by unfold peekOf; rw [if_neg (by simp), hx]
      have ha : arrOf s p 0 = (0, p, 4) := by
        unfold arrOf
        rw [hpk]
        simp [hm, show 1000 < x.n by omega, failC]
      refine (array_none L s b (by omega) w p p 0 4 h ha).mono ?_
      rintro e w' ⟨y, v, he, hl, hoo, hrd⟩
      refine ⟨y, v, he, hl, hoo, ?_⟩
      have hspec : readItem (d + 1) (s.data.toList.drop p) = .err 0 4 := by
        simp only [readItem, hx, hm]
        simp [ho, show 1000 < x.n by omega]
      rw [hspec]
      exact ⟨hrd, by decide, h.within⟩
  · exact array_opened d L s b hL ih w p h x hx hm ho ((headL_size hx).2.2.2.2.2 ho)

theorem uint_failed (s : ByteArray) (p : Nat) {c : Int} (hc : c ≠ 0) : uintOf s p c = (0, p, c) := by
  unfold uintOf
  rw [peek_failed_is s p hc]
  rfl

theorem str_failed (s : ByteArray) (p m : Nat) (most : Int) {c : Int} (hc : c ≠ 0) (hm : m ≠ 0) : strOf s p c m most = (⟨#[]⟩, p, c) := by
  unfold strOf
  rw [peek_failed_is s p hc]
  have h0 : (0 : Nat) ≠ m := Ne.symm hm
  simp [hd0, failC, hc, h0]

theorem arr_failed (s : ByteArray) (p : Nat) {c : Int} (hc : c ≠ 0) : arrOf s p c = (0, p, c) := by
  unfold arrOf
  rw [peek_failed_is s p hc]
  simp [hd0, failC, hc]

theorem read_zero (t : List UInt8) : readItem 0 t = .err 0 (failC (kindOf t).2 3) := by
  unfold kindOf
  simp only [readItem]
  cases headL t with
  | none => simp [failC]
  | some h =>
    simp only []
    cases kindOk h.major <;> simp [failC]

theorem read_bad {t : List UInt8} (d : Nat) (h : (kindOf t).2 ≠ 0) : readItem (d + 1) t = .err 0 (kindOf t).2 := by
  unfold kindOf at *
  simp only [readItem]
  cases hh : headL t with
  | none => rfl
  | some x =>
    rw [hh] at h
    simp only [] at h ⊢
    have hk : kindOk x.major = false := by
      cases hk : kindOk x.major
      · rfl
      · simp [hk] at h
    simp [kindOk] at hk
    simp [kindOk, hk]

theorem kind_code (t : List UInt8) : (kindOf t).2 = 0 ∨ (kindOf t).2 = 2 := by
  unfold kindOf
  cases headL t with
  | none => right; rfl
  | some x => simp only []; cases kindOk x.major <;> simp

theorem kind_good {t : List UInt8} (h : (kindOf t).2 = 0) : ∃ x, headL t = some x ∧ (kindOf t).1 = x.major ∧ (x.major = 0 ∨ x.major = 2 ∨ x.major = 3 ∨ x.major = 4) := by
  unfold kindOf at *
  cases hh : headL t with
  | none => rw [hh] at h; cases h
  | some x =>
    rw [hh] at h
    simp only [] at h
    refine ⟨x, rfl, rfl, ?_⟩
    cases hk : kindOk x.major
    · simp [hk] at h
    · simp [kindOk] at hk
      omega

end Go.Proofs.Ytpmepnejjjlodaa
