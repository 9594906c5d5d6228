/-
  Contract of item's parser: openList. Conditions: its reader is in order, and items are read as readItem says.
-/
import Derived.Test.YtpmepnejjjlodaaList
namespace Go.Proofs.Ytpmepnejjjlodaa
open Go.ChangeShapes Go.WideShapes Go.ChangeAt Go.RowKit
open Plain
set_option linter.unusedVariables false

theorem peek_failed_is (s : ByteArray) (q : Nat) {c : Int} (hc : c ≠ 0) : peekOf s q c = (hd0, c) := by simp [peekOf, hc]

theorem peek_break {s : ByteArray} {q : Nat} (h : isBreak (s.data.toList.drop q) = true) : peekOf s q 0 = (⟨7, 0, true, 1⟩, 0) ∧ q + 1 ≤ s.size := by
  have hl : (s.data.toList.drop q).length = s.size - q := by rw [List.length_drop, size_data]
  unfold peekOf
  rw [if_neg (by simp)]
  cases hd : s.data.toList.drop q with
  | nil => rw [hd] at h; cases h
  | cons x r =>
    rw [hd] at h hl
    simp [isBreak] at h
    subst h
    refine ⟨rfl, ?_⟩
    simp at hl
    omega

set_option maxHeartbeats 4000000 in
set_option maxRecDepth 100000 in
/-- openList: items up to the break. -/
theorem openList_any (d L : Nat) (s : ByteArray) (b : Nat) (hL : L ≤ 10)
    (ih : ∀ (w : World) (p : Nat), Ok w b s p 0 → Calls Try.prog 28 #[pV s b, .int .i64 L] w (ItemPost d s b p w))
    (w : World) (p : Nat) (h : Ok w b s p 0) :
    Calls Try.prog 59 #[pV s b, .int .i64 L] w (ListPost (readOpen (readItem d) 1000 (s.data.toList.drop p)) s b p w) := by
  obtain ⟨i0, hi, hz0, hz1, hz2⟩ := info_parts Try.infoItem
  have hfit := h.fits
  have hrd := h.rd
  have hwi := h.within
  have hblt := hrd.lt
  generalize hR : readOpen (readItem d) 1000 (s.data.toList.drop p) = R
  have hstart : LoopI w s b p 1000 (readOpen (readItem d)) R [] (.slice none 0 0) (w.alloc (pBox s b)) := by
    refine ⟨Making.nil _ _, Nat.zero_le _, PBox.new w s b, .inl ⟨0, ?_, hwi, ?_⟩⟩
    · exact hrd.alloc _
    · rw [← hR]
      simp only [List.map_nil, List.length_nil, Nat.sub_zero, Nat.add_zero]
      cases readOpen (readItem d) 1000 (s.data.toList.drop p) with
      | ok y k => simp [shiftL]
      | err a c => simp [shiftL]
  have HSTART := Lib.hid hstart; clear hstart
  have HR := Lib.hid hR; clear hR
  have IH := Lib.hid ih; clear ih
  have HF := Lib.hid (And.intro hfit hwi); clear hfit hwi hrd h
  have hLI : (L : Int) ≤ 10 := by omega
  simp only [pV] at *
  go_enter Try.func59, Try.ntmps59
  go_wp2
  go_loopw [5] (fun v wr => ∃ l, LoopI w s b p 1000 (readOpen (readItem d)) R l v wr) (fun v _ => 1000 - lenV v)
  case atStart => exact ⟨[], HSTART.out⟩
  case round =>
    obtain ⟨l, hloop⟩ := hrel
    obtain ⟨A, cap, rfl⟩ := hloop.making.form
    have c0 := hloop.box.c0
    have c1 := hloop.box.c1
    have hln := hloop.len
    have hlI : (l.length : Int) ≤ 1000 := by omega
    have HLOOP := Lib.hid hloop; clear hloop
    rcases HLOOP.out.stand with ⟨u, hrd, hpu, hRu⟩ | ⟨a, c, hrd, hc, hpa, hRa⟩
    · have hfine := fine_any hrd
      have HFINE := Lib.hid hfine; clear hfine
      have HRD := Lib.hid hrd; clear hrd
      have HRU := Lib.hid hRu; clear hRu
      simp only [pV, decide_true] at HFINE
      go_wp2_with fail
      refine HFINE.out.mono ?_
      rintro e w1 ⟨rfl, hb1⟩
      have hbx1 := HLOOP.out.box.next hb1
      clear c0 c1
      have c0 := hbx1.c0
      have c1 := hbx1.c1
      have hrd1 := HRD.out.below hb1
      have hmk1 := HLOOP.out.making.next hb1
      have hbrk := atBreak_any (w := w1) (b := b) (s := s) (p := p + u) (c := 0) ⟨hrd1, HF.out.1, hpu⟩
      simp only [pV] at hbrk
      have HBRK := Lib.hid hbrk; clear hbrk
      have HB1 := Lib.hid hb1; clear hb1
      have HBX1 := Lib.hid hbx1; clear hbx1
      have HRD1 := Lib.hid hrd1; clear hrd1
      have HMK1 := Lib.hid hmk1; clear hmk1
      go_wp2_with fail
      refine HBRK.out.mono ?_
      cases hib : isBreak (s.data.toList.drop (p + u))
      · have HIB := Lib.hid hib; clear hib
        rintro e w2 ⟨rfl, hb2⟩
        have hb12 := HB1.out.trans (hb2.mono HB1.out.size)
        have hbx2 := HBX1.out.next hb2
        clear c0 c1
        have c0 := hbx2.c0
        have c1 := hbx2.c1
        have hrd2 := HRD1.out.below hb2
        have hmk2 := HMK1.out.next hb2
        have HB12 := Lib.hid hb12; clear hb12 hb2
        have HBX2 := Lib.hid hbx2; clear hbx2
        have HRD2 := Lib.hid hrd2; clear hrd2
        have HMK2 := Lib.hid hmk2; clear hmk2
        by_cases hfull : l.length = 1000
        · have hq : R = .err u 4 := by
            have hz : 1000 - (l.map (·.1)).length = 0 := by rw [List.length_map]; omega
            rw [HRU.out, hz]
            simp [readOpen, HIB.out, shiftL]
          have gl : ((l.length : Int) == 1000) = true := by simp; omega
          have gl2 : (l.length : Int) = 1000 := by omega
          have HQ := Lib.hid hq; clear hq
          have HFULL := Lib.hid hfull; clear hfull
          go_wp2_with fail
          refine (fail_any 4 HRD2.out).mono ?_
          have h04 : failC 0 4 = 4 := rfl
          rw [h04]
          rintro e w3 ⟨rfl, hrd3, ho3⟩
          have hbx3 := HBX2.out.step hblt ho3
          clear c0 c1
          have c0 := hbx3.c0
          have c1 := hbx3.c1
          have hmk3 := HMK2.out.only ho3 (by simp; omega)
          have hhead := readHead_any (w := w3) (b := b) (s := s) (p := p + u) (c := 4) ⟨hrd3, HF.out.1, hpu⟩
          rw [peek_failed_is s _ (by decide)] at hhead
          simp only [hd0] at hhead
          have HHEAD := Lib.hid hhead; clear hhead
          have HBX3 := Lib.hid hbx3; clear hbx3
          have HMK3 := Lib.hid hmk3; clear hmk3 ho3 hrd3
          go_wp2_with fail
          refine HHEAD.out.mono ?_
          rintro e w4 ⟨rfl, hrd4, ho4⟩
          have HRD4 := Lib.hid hrd4; clear hrd4
          have HO4 := Lib.hid ho4; clear ho4
          go_wp2
          go_ret
          refine ⟨l, _, rfl, (HMK3.out.only HO4.out (by simp; omega)).base (by simp), by omega, (HBX3.out.step hblt HO4.out).only, ?_⟩
          rw [HQ.out]
          exact ⟨HRD4.out, by decide, hpu⟩
        · have hlt : l.length < 1000 := by omega
          have gl : ((l.length : Int) == 1000) = false := by simp; omega
          have gl2 : ¬ (l.length : Int) = 1000 := by omega
          have HFULL := Lib.hid hfull; clear hfull
          go_wp2_with fail
          refine (IH.out _ (p + u) ⟨HRD2.out, HF.out.1, hpu⟩).mono ?_
          rintro e w3 ⟨x, v2, rfl, hx, ho, haft⟩
          obtain ⟨A2, cap2, rfl⟩ := hx.slice
          clear c0 c1
          have hrow2 := (HMK2.out.only ho (by simp; omega)).row
          have hsz2 : w.heap.size + 1 ≤ w3.heap.size := Nat.le_trans HBX2.out.lt ho.size
          have HX := Lib.hid hx; clear hx
          have HO := Lib.hid ho; clear ho
          have HAFT := Lib.hid haft; clear haft
          simp only [itV]
          go_wp2_with (at_builtin; refine wpList_append_lies _ rfl _ _ 23 rfl (w.heap.size + 1) 25 i0 _ 5 64 Try.underlying23 hi hz0 hz1 hz2 rfl (by decide) (.slice A l.length cap) l.length (rowCells l) rfl ?o1 ⟨w3.heap.size, 0, none⟩ 1 1 [.int .i64 x.kind, .int .u64 x.n, .string x.s, .slice A2 x.l.length cap2, .bool x.opn] rfl rfl ?o2 ?o3 (by omega) ?o4 ?o5 ?o6 (w3.heap.size + 1) ?o7 ?_)
          case o1 => simpa using hrow2.alloc _
          case o2 => exact news25 (heap_alloc_new w3 _)
          case o3 => exact fits25 A2 _ cap2 rfl
          case o4 => unfold maxLen; omega
          case o5 => omega
          case o6 => simp; omega
          case o7 => simp
          intro g cap4 w4 hown4 hgrow hat hgl
          have hstep : R = match readItem d (s.data.toList.drop (p + u)) with | .err a c => .err (u + a) c | .ok x k => shiftL (l.map (·.1) ++ [x]) (u + k) (readOpen (readItem d) (1000 - (l.length + 1)) ((s.data.toList.drop (p + u)).drop k)) := by
            rw [HRU.out, List.length_map, show 1000 - l.length = (1000 - (l.length + 1)) + 1 by omega, open_step _ _ _ _ _ HIB.out]
            cases readItem d (s.data.toList.drop (p + u)) <;> rfl
          have hpush := LoopI.push hstep HLOOP.out hlt hblt HB12.out HO.out HX.out HAFT.out hown4 hgrow hat hgl
          have HPUSH := Lib.hid hpush; clear hpush hstep hown4 hgrow hat hgl hrow2
          go_wp2
          go_roundw
          case rel => exact ⟨_, HPUSH.out⟩
          case measure => simp [lenV]; omega
      · obtain ⟨hpk, hle⟩ := peek_break hib
        have HIB := Lib.hid hib; clear hib
        rintro e w2 ⟨rfl, hb2⟩
        have hbx2 := HBX1.out.next hb2
        clear c0 c1
        have c0 := hbx2.c0
        have c1 := hbx2.c1
        have hrd2 := HRD1.out.below hb2
        have hmk2 := HMK1.out.next hb2
        have hhead := readHead_any (w := w2) (b := b) (s := s) (p := p + u) (c := 0) ⟨hrd2, HF.out.1, hpu⟩
        rw [hpk] at hhead
        simp only [] at hhead
        have HHEAD := Lib.hid hhead; clear hhead hpk
        have HBX2 := Lib.hid hbx2; clear hbx2
        have HMK2 := Lib.hid hmk2; clear hmk2 hb2 hrd2
        go_wp2_with fail
        refine HHEAD.out.mono ?_
        rintro e w3 ⟨rfl, hrd3, ho3⟩
        have HRD3 := Lib.hid hrd3; clear hrd3
        have HO3 := Lib.hid ho3; clear ho3
        go_wp2
        go_ret
        refine ⟨l, _, rfl, (HMK2.out.only HO3.out (by simp; omega)).base (by simp), by omega, (HBX2.out.step hblt HO3.out).only, ?_⟩
        have hq : readOpen (readItem d) (1000 - (l.map (·.1)).length) (s.data.toList.drop (p + u)) = .ok [] 1 := by
          cases 1000 - (l.map (·.1)).length <;> simp [readOpen, HIB.out]
        rw [HRU.out, hq]
        simp only [shiftL, AfterL, List.append_nil]
        exact ⟨trivial, HRD3.out, hle⟩
    · have hfine := fine_any hrd
      have hcd : decide (c = 0) = false := by simpa using hc
      rw [hcd] at hfine
      have HFINE := Lib.hid hfine; clear hfine
      have HRD := Lib.hid hrd; clear hrd
      have HRA := Lib.hid hRa; clear hRa
      simp only [pV] at HFINE
      go_wp2_with fail
      refine HFINE.out.mono ?_
      rintro e w1 ⟨rfl, hb1⟩
      have hbx1 := HLOOP.out.box.next hb1
      clear c0 c1
      have c0 := hbx1.c0
      have c1 := hbx1.c1
      have hrd1 := HRD.out.below hb1
      have hmk1 := HLOOP.out.making.next hb1
      have hhead := readHead_any (w := w1) (b := b) (s := s) (p := p + a) (c := c) ⟨hrd1, HF.out.1, hpa⟩
      rw [peek_failed_is s _ hc] at hhead
      simp only [hd0] at hhead
      have HHEAD := Lib.hid hhead; clear hhead
      have HBX1 := Lib.hid hbx1; clear hbx1
      have HMK1 := Lib.hid hmk1; clear hmk1 hb1 hrd1
      go_wp2_with fail
      refine HHEAD.out.mono ?_
      rintro e w3 ⟨rfl, hrd3, ho3⟩
      have HRD3 := Lib.hid hrd3; clear hrd3
      have HO3 := Lib.hid ho3; clear ho3
      go_wp2
      go_ret
      refine ⟨l, _, rfl, (HMK1.out.only HO3.out (by simp; omega)).base (by simp), by omega, (HBX1.out.step hblt HO3.out).only, ?_⟩
      rw [HRA.out]
      exact ⟨HRD3.out, hc, hpa⟩

end Go.Proofs.Ytpmepnejjjlodaa
