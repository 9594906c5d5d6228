/-
  Contracts of item's parser: fine, atBreak, kind. Conditions: its reader is in order.
-/
import Derived.Test.YtpmepnejjjlodaaNew
import Derived.Deep.RegionHeld3
import Derived.Deep.DeepCutAuto
namespace Go.Proofs.Ytpmepnejjjlodaa
open Go.ChangeShapes Go.WideShapes Go.ChangeAt Go.RowKit
open Plain
set_option linter.unusedVariables false

/-- The parser's value. -/
def pV (s : ByteArray) (b : Nat) : Value := .agg #[.string s, .pointer (some ⟨b, 0, none⟩)]
def pBox (s : ByteArray) (b : Nat) : Obj := .cells #[.string s, .pointer (some ⟨b, 0, none⟩)] 55

theorem Only.other {a b : Nat} {w w1 w2 : World} (h : Only b w w1) (k : Only a w1 w2) (ha : w.heap.size ≤ a) : Only b w w2 :=
  ⟨k.os.trans h.os, k.tape.trans h.tape, k.output.trans h.output, Nat.le_trans h.size k.size, fun i hi hne => (k.block i (by have := h.size; omega) (by omega)).trans (h.block i hi hne)⟩

theorem Only.next {b : Nat} {w w1 w2 : World} (h : Only b w w1) (k : Below w1.heap.size w1 w2) : Only b w w2 := h.trans (Only.of_below k)

/-- Behind the parser's box. -/
structure PBox (w : World) (s : ByteArray) (b : Nat) (wr : World) : Prop where
  box : wr.heap[w.heap.size]? = some (pBox s b)
  only : Only b w wr

section
variable {w : World} {s : ByteArray} {b : Nat} {wr w' : World}
theorem PBox.new (w : World) (s : ByteArray) (b : Nat) : PBox w s b (w.alloc (pBox s b)) := ⟨heap_alloc_new w _, (Only.refl b w).alloc _⟩
theorem PBox.lt (h : PBox w s b wr) : w.heap.size < wr.heap.size := lt_of_some h.box
theorem PBox.next (h : PBox w s b wr) (k : Below wr.heap.size wr w') : PBox w s b w' := ⟨(k.block _ h.lt).trans h.box, h.only.next k⟩
theorem PBox.step (h : PBox w s b wr) (hb : b < w.heap.size) (k : Only b wr w') : PBox w s b w' := ⟨(k.block _ h.lt (by omega)).trans h.box, h.only.trans k⟩
theorem PBox.other (h : PBox w s b wr) {a : Nat} (ha : w.heap.size < a) (k : Only a wr w') : PBox w s b w' := ⟨(k.block _ h.lt (by omega)).trans h.box, h.only.other k (by omega)⟩
theorem PBox.c0 (h : PBox w s b wr) : wr.cell? ⟨w.heap.size, 0, none⟩ = some (.string s) := cell_of_row wr _ 0 _ _ _ h.box
theorem PBox.c1 (h : PBox w s b wr) : wr.cell? ⟨w.heap.size, 1, none⟩ = some (.pointer (some ⟨b, 0, none⟩)) := cell_of_row wr _ 1 _ _ _ h.box
end

/-- fine: nothing has failed. -/
theorem fine_any {w : World} {b : Nat} {s : ByteArray} {p : Nat} {c : Int} (h : Rd w b s p c) :
    Calls Try.prog 69 #[pV s b] w fun e w' => e = .returned (.bool (decide (c = 0))) ∧ Below w.heap.size w w' := by
  unfold pV
  by_cases hc : c = 0
  · subst hc
    have hbad := fun (W : World) (k : Below w.heap.size w W) => bad_ok (h.below k)
    have HB := Lib.hid hbad; clear hbad h
    go_enter Try.func69, Try.ntmps69
    go_wp2_with fail
    refine (HB.out _ ((Below.refl _ _).alloc (Nat.le_refl _) _)).mono ?_
    rintro e w1 ⟨rfl, hb1⟩
    have hfin := ((Below.refl w.heap.size w).alloc (Nat.le_refl _) (pBox s b)).trans (hb1.mono (by simp))
    have HFIN := Lib.hid hfin; clear hfin
    go_wp2
    go_ret
    exact ⟨rfl, HFIN.out⟩
  · have hbad := fun (W : World) (k : Below w.heap.size w W) => bad_failed (h.below k) hc
    have HB := Lib.hid hbad; clear hbad h
    have gc : (c == 0) = false := by simpa using hc
    have gd : decide (c = 0) = false := by simpa using hc
    go_enter Try.func69, Try.ntmps69
    go_wp2_with fail
    refine (HB.out _ ((Below.refl _ _).alloc (Nat.le_refl _) _)).mono ?_
    rintro e w1 ⟨rfl, hb1⟩
    have hfin := ((Below.refl w.heap.size w).alloc (Nat.le_refl _) (pBox s b)).trans (hb1.mono (by simp))
    have HFIN := Lib.hid hfin; clear hfin
    go_wp2
    go_ret
    exact ⟨by rw [gd]; rfl, HFIN.out⟩

theorem isBreak_iff (s : ByteArray) : isBreak s.data.toList = true ↔ 0 < s.size ∧ (s.extract 0 1).toList = [255] := by
  obtain ⟨⟨l⟩⟩ := s
  rw [ByteArray.toList_eq]
  cases l with
  | nil => simp [isBreak]
  | cons x r =>
    have hsz : (0 : Nat) < (⟨⟨x :: r⟩⟩ : ByteArray).size := by show 0 < (x :: r).length; simp
    simp only [isBreak, hsz, true_and, ByteArray.data_extract]
    simp

set_option maxHeartbeats 1000000 in
set_option maxRecDepth 100000 in
theorem hasPrefix_break (s : ByteArray) (w : World) (hs : s.size ≤ maxLen) : Calls Try.prog 72 #[.string s, .string ⟨[255].toArray⟩] w fun e w' => e = .returned (.bool (isBreak s.data.toList)) ∧ w = w' := by
  unfold maxLen at hs
  have hb := isBreak_iff s
  by_cases h0 : 0 < s.size
  · have g0 : decide ((1 : Int) ≤ (s.size : Int)) = true := by simp; omega
    by_cases h1 : (s.extract 0 1).toList = [255]
    · have hT : isBreak s.data.toList = true := hb.2 ⟨h0, h1⟩
      have HT := Lib.hid hT; clear hT hb
      go_enter Try.func72, Try.ntmps72
      go_wp2
      go_ret
      exact ⟨by rw [HT.out]; rfl, rfl⟩
    · have hF : isBreak s.data.toList = false := by
        cases hq : isBreak s.data.toList
        · rfl
        · exact absurd (hb.1 hq).2 h1
      have HT := Lib.hid hF; clear hF hb
      have h2 : ((s.extract 0 1).toList == [255]) = false := by simpa using h1
      go_enter Try.func72, Try.ntmps72
      go_wp2
      go_ret
      exact ⟨by rw [HT.out]; rfl, rfl⟩
  · have g0 : decide ((1 : Int) ≤ (s.size : Int)) = false := by simp; omega
    have hF : isBreak s.data.toList = false := by
      cases hq : isBreak s.data.toList
      · rfl
      · exact absurd (hb.1 hq).1 h0
    have HT := Lib.hid hF; clear hF hb
    go_enter Try.func72, Try.ntmps72
    go_wp2
    go_ret
    exact ⟨by rw [HT.out]; rfl, rfl⟩

theorem drop_extract (s : ByteArray) (p : Nat) : (s.extract p s.size).data.toList = s.data.toList.drop p := by
  simp [ByteArray.data_extract]
  exact List.take_of_length_le (by rw [List.length_drop, size_data]; omega)

theorem extract_size (s : ByteArray) (p : Nat) : (s.extract p s.size).size = s.size - p := by
  rw [← size_data, drop_extract, List.length_drop, size_data]

set_option maxHeartbeats 2000000 in
set_option maxRecDepth 100000 in
/-- atBreak: does a break follow? -/
theorem atBreak_any {w : World} {b : Nat} {s : ByteArray} {p : Nat} {c : Int} (h : Ok w b s p c) :
    Calls Try.prog 70 #[pV s b] w fun e w' => e = .returned (.bool (isBreak (s.data.toList.drop p))) ∧ Below w.heap.size w w' := by
  unfold pV
  have hfit := h.fits
  have hwi := h.within
  have hs' : (s.extract p s.size).size ≤ maxLen := by rw [extract_size]; omega
  have hpre := fun W => hasPrefix_break (s.extract p s.size) W hs'
  rw [drop_extract] at hpre
  have hopen := fun W => open_any 7 W
  rw [open7] at hopen
  unfold maxLen at hfit
  have hpI : (p : Int) ≤ (s.size : Int) := by omega
  have hpI0 : (0 : Int) ≤ (p : Int) := by omega
  have hsI : (s.size : Int) ≤ 9223372036854775807 := by omega
  generalize isBreak (s.data.toList.drop p) = r at *
  have HPRE := Lib.hid hpre; clear hpre
  have HOPEN := Lib.hid hopen; clear hopen
  have HFW := Lib.hid (And.intro hfit hwi); clear hfit hwi hs'
  have hrd := h.rd
  have hblt := hrd.lt
  clear h
  go_enter Try.func70, Try.ntmps70
  go_upto_region 1 with fail
  have hbx : PBox w s b (w.alloc (.cells #[.string s, .pointer (some ⟨b, 0, none⟩)] 55)) := PBox.new w s b
  have hrd1 := hrd.alloc (.cells #[.string s, .pointer (some ⟨b, 0, none⟩)] 55)
  have hbel : Below w.heap.size w (w.alloc (.cells #[.string s, .pointer (some ⟨b, 0, none⟩)] 55)) := (Below.refl _ _).alloc (Nat.le_refl _) _
  generalize w.alloc (.cells #[.string s, .pointer (some ⟨b, 0, none⟩)] 55) = W at *
  have c0 := hbx.c0
  have c1 := hbx.c1
  have hlt := hbx.lt
  have hkp : ∀ X, Below W.heap.size W X → X.cell? ⟨w.heap.size, 0, none⟩ = some (.string s) ∧ X.cell? ⟨w.heap.size, 1, none⟩ = some (.pointer (some ⟨b, 0, none⟩)) := fun X hX => ⟨(hX.cell (p := ⟨w.heap.size, 0, none⟩) hlt).trans c0, (hX.cell (p := ⟨w.heap.size, 1, none⟩) hlt).trans c1⟩
  have hat : ∀ X, Below W.heap.size W X → Calls Try.prog 54 #[.pointer (some ⟨b, 0, none⟩)] X fun e w' => e = .returned (.int .i64 p) ∧ X = w' := fun X hX => at_any (hrd1.below hX)
  have HKP := Lib.hid hkp; clear hkp
  have HAT := Lib.hid hat; clear hat
  have HB := Lib.hid hbx; clear hbx
  have HBEL := Lib.hid hbel; clear hbel
  have HRD := Lib.hid (And.intro hrd hrd1); clear hrd hrd1
  have hd0 : Below W.heap.size W W.drew := (Below.refl _ _).drew
  have hd1 : Below W.heap.size W W := Below.refl _ _
  go_cut [2] (fun s2 wc => s2 = .bool r ∧ Below w.heap.size w wc)
  case first =>
    go_region_held3 (fun X => X.cell? ⟨w.heap.size, 0, none⟩ = some (.string s) ∧ X.cell? ⟨w.heap.size, 1, none⟩ = some (.pointer (some ⟨b, 0, none⟩))) ((refine HKP.out _ ?_; (with_reducible assumption)))
      (first | (go_at_call 54; with_reducible refine (HAT.out _ (by with_reducible assumption)).mono ?_; rintro e w' ⟨rfl, rfl⟩) | (go_at_call 53; with_reducible refine (HOPEN.out _).mono ?_; rintro e w' ⟨rfl, hb⟩; have hw := Below.trans (by with_reducible assumption) (hb.mono (Below.size (by with_reducible assumption)))) | (go_at_call 72; with_reducible refine (HPRE.out _).mono ?_; rintro e w' ⟨rfl, rfl⟩))
    all_goals (go_wp2_with fail; go_meet)
    all_goals exact ⟨rfl, HBEL.out.trans (Below.mono (by with_reducible assumption) HBEL.out.size)⟩
  case rest =>
    obtain ⟨rfl, hfin⟩ := hcut
    go_wp2
    go_ret
    exact ⟨rfl, hfin⟩

/-- The kind that follows, and the error of its head. -/
def kindOf (t : List UInt8) : Nat × Int :=
  match headL t with
  | none => (0, 2)
  | some h => (h.major, if kindOk h.major then 0 else 2)

theorem peek_new (s : ByteArray) (p : Nat) : peekOf (s.extract p s.size) 0 0 = match headL (s.data.toList.drop p) with | some x => (x, 0) | none => (hd0, 2) := by
  unfold peekOf
  rw [drop_extract]
  cases h : headL (s.data.toList.drop p) <;> simp [h]

set_option maxHeartbeats 2000000 in
set_option maxRecDepth 100000 in
/-- kind: the kind of the item that follows. -/
theorem kind_any {w : World} {b : Nat} {s : ByteArray} {p : Nat} (h : Ok w b s p 0) :
    Calls Try.prog 42 #[pV s b] w fun e w' => e = .returned (.int .i64 (kindOf (s.data.toList.drop p)).1) ∧ Rd w' b s p (kindOf (s.data.toList.drop p)).2 ∧ Only b w w' := by
  unfold pV
  have hfit := h.fits
  have hwi := h.within
  have hs' : (s.extract p s.size).size ≤ maxLen := by rw [extract_size]; omega
  have hpk := peek_new s p
  obtain ⟨_, _, hm7, _, _⟩ := peekOf_size (s.extract p s.size) 0 0 (Nat.zero_le _)
  have hhead := fun (W : World) (a : Nat) (k : Rd W a (s.extract p s.size) 0 0) => readHead_any (w := W) (b := a) (p := 0) (c := 0) ⟨k, hs', Nat.zero_le _⟩
  have hspec : kindOf (s.data.toList.drop p) = ((peekOf (s.extract p s.size) 0 0).1.major, if (peekOf (s.extract p s.size) 0 0).2 = 0 then (if kindOk (peekOf (s.extract p s.size) 0 0).1.major then 0 else 2) else 2) := by
    rw [hpk]
    unfold kindOf
    cases headL (s.data.toList.drop p) <;> rfl
  have hcode : (peekOf (s.extract p s.size) 0 0).2 = 0 ∨ ((peekOf (s.extract p s.size) 0 0).2 = 2 ∧ (peekOf (s.extract p s.size) 0 0).1.major = 0) := by
    rw [hpk]
    cases headL (s.data.toList.drop p)
    · right; exact ⟨rfl, rfl⟩
    · left; rfl
  rw [hspec]
  clear hspec hpk
  generalize hs2 : s.extract p s.size = s2 at *
  generalize hy : peekOf s2 0 0 = y at *
  obtain ⟨⟨m, n, o, z⟩, cc⟩ := y
  simp only [] at *
  generalize hK : (if cc = 0 then (if kindOk m then (0 : Int) else 2) else 2) = K at *
  have HK := Lib.hid hK; clear hK
  unfold maxLen at hfit
  have hpI : (p : Int) ≤ (s.size : Int) := by omega
  have hpI0 : (0 : Int) ≤ (p : Int) := by omega
  have hsI : (s.size : Int) ≤ 9223372036854775807 := by omega
  have HHEAD := Lib.hid hhead; clear hhead
  have HFW := Lib.hid (And.intro hfit (And.intro hwi (And.intro hs' hy))); clear hfit hwi hs' hy
  have hrd := h.rd
  have hblt := hrd.lt
  clear h
  go_enter Try.func42, Try.ntmps42
  go_upto_region 1 with fail
  have hbx : PBox w s b (w.alloc (.cells #[.string s, .pointer (some ⟨b, 0, none⟩)] 55)) := PBox.new w s b
  have hrd1 := hrd.alloc (.cells #[.string s, .pointer (some ⟨b, 0, none⟩)] 55)
  generalize w.alloc (.cells #[.string s, .pointer (some ⟨b, 0, none⟩)] 55) = W at *
  have c0 := hbx.c0
  have c1 := hbx.c1
  have hlt := hbx.lt
  have hkp : ∀ X, Below W.heap.size W X → X.cell? ⟨w.heap.size, 0, none⟩ = some (.string s) ∧ X.cell? ⟨w.heap.size, 1, none⟩ = some (.pointer (some ⟨b, 0, none⟩)) := fun X hX => ⟨(hX.cell (p := ⟨w.heap.size, 0, none⟩) hlt).trans c0, (hX.cell (p := ⟨w.heap.size, 1, none⟩) hlt).trans c1⟩
  have hat : ∀ X, Below W.heap.size W X → Calls Try.prog 54 #[.pointer (some ⟨b, 0, none⟩)] X fun e w' => e = .returned (.int .i64 p) ∧ X = w' := fun X hX => at_any (hrd1.below hX)
  have hnew : ∀ X, Below W.heap.size W X → Calls Try.prog 27 #[.string s2] X fun e w' => ∃ a, e = .returned (.pointer (some ⟨a, 0, none⟩)) ∧ Rd w' a s2 0 0 ∧ w.heap.size < a ∧ Below W.heap.size W w' := by
    intro X hX
    refine (newReader_any s2 X).mono ?_
    rintro e w' ⟨rfl, rfl⟩
    exact ⟨_, rfl, Rd.new X s2, Nat.lt_of_lt_of_le hlt hX.size, hX.alloc hX.size _⟩
  have HKP := Lib.hid hkp; clear hkp
  have HAT := Lib.hid hat; clear hat
  have HNEW := Lib.hid hnew; clear hnew
  have HB := Lib.hid hbx; clear hbx
  have HRD := Lib.hid (And.intro hrd hrd1); clear hrd hrd1
  have hd0 : Below W.heap.size W W.drew := (Below.refl _ _).drew
  have hd1 : Below W.heap.size W W := Below.refl _ _
  go_cut [3] (fun s3 wc => ∃ a, s3 = .pointer (some ⟨a, 0, none⟩) ∧ Rd wc a s2 0 0 ∧ w.heap.size < a ∧ Below W.heap.size W wc)
  case first =>
    go_region_held3 (fun X => X.cell? ⟨w.heap.size, 0, none⟩ = some (.string s) ∧ X.cell? ⟨w.heap.size, 1, none⟩ = some (.pointer (some ⟨b, 0, none⟩))) ((refine HKP.out _ ?_; (with_reducible assumption)))
      (first | (go_at_call 54; with_reducible refine (HAT.out _ (by with_reducible assumption)).mono ?_; rintro e w' ⟨rfl, rfl⟩) | (go_at_call 27; with_reducible refine (HNEW.out _ (by with_reducible assumption)).mono ?_; rintro e w' ⟨a, rfl, hra, hla, hwa⟩))
    all_goals (go_wp2_with fail; go_meet)
    all_goals exact ⟨_, rfl, by with_reducible assumption, by with_reducible assumption, by with_reducible assumption⟩
  case rest =>
    obtain ⟨a, rfl, hra, hla, hwa⟩ := hcut
    have hbxc := HB.out.next hwa
    have hrb : Rd wc b s p 0 := HRD.out.2.below hwa
    clear hd0 hd1 c0 c1 hlt
    have HBC := Lib.hid hbxc; clear hbxc
    have HRB := Lib.hid hrb; clear hrb
    have HRA := Lib.hid hra; clear hra hwa
    go_wp2_with fail
    refine (HHEAD.out _ a HRA.out).mono ?_
    rintro e w1 ⟨rfl, hra1, ho1⟩
    have hb1 := HBC.out.other hla ho1
    have hrb1 : Rd w1 b s p 0 := HRB.out.keep ho1 (by omega)
    have HB1 := Lib.hid hb1; clear hb1
    have HRB1 := Lib.hid hrb1; clear hrb1
    clear ho1
    rcases hcode with rfl | ⟨rfl, rfl⟩
    · go_wp2_with fail
      refine (bad_ok hra1).mono ?_
      rintro e w2 ⟨rfl, hbel2⟩
      have HB2 := Lib.hid (HB1.out.next hbel2)
      have HRB2 := Lib.hid (HRB1.out.below hbel2)
      clear hbel2 hra1
      have c1 := HB2.out.c1
      go_wp2_with fail
      refine (fail_any 0 HRB2.out).mono ?_
      rintro e w3 ⟨rfl, hrd3, ho3⟩
      have h00 : failC 0 0 = 0 := rfl
      rw [h00] at hrd3
      have HB3 := Lib.hid (HB2.out.step hblt ho3)
      have HRD3 := Lib.hid hrd3
      clear ho3 hrd3 h00 c1
      have c1 := HB3.out.c1
      by_cases m0 : m = 0
      · subst m0
        go_wp2
        go_ret
        exact ⟨rfl, by rw [← HK.out]; exact HRD3.out, HB3.out.only⟩
      by_cases m2 : m = 2
      · subst m2
        go_wp2
        go_ret
        exact ⟨rfl, by rw [← HK.out]; exact HRD3.out, HB3.out.only⟩
      by_cases m3 : m = 3
      · subst m3
        go_wp2
        go_ret
        exact ⟨rfl, by rw [← HK.out]; exact HRD3.out, HB3.out.only⟩
      by_cases m4 : m = 4
      · subst m4
        go_wp2
        go_ret
        exact ⟨rfl, by rw [← HK.out]; exact HRD3.out, HB3.out.only⟩
      have hko : kindOk m = false := by simp [kindOk, m0, m2, m3, m4]
      have HKO := Lib.hid hko; clear hko
      have g0 : ((m : Int) == 0) = false := by simp; omega
      have g2 : ((m : Int) == 2) = false := by simp; omega
      have g3 : ((m : Int) == 3) = false := by simp; omega
      have g4 : ((m : Int) == 4) = false := by simp; omega
      have k2 : ¬ (m : Int) = 2 := by omega
      have k3 : ¬ (m : Int) = 3 := by omega
      have k4 : ¬ (m : Int) = 4 := by omega
      go_wp2_with fail
      refine (fail_any 2 HRD3.out).mono ?_
      rintro e w4 ⟨rfl, hrd4, ho4⟩
      have h02 : failC 0 2 = 2 := rfl
      rw [h02] at hrd4
      have HB4 := Lib.hid (HB3.out.step hblt ho4)
      have HRD4 := Lib.hid hrd4
      clear ho4 hrd4 h02 c1
      go_wp2
      go_ret
      exact ⟨rfl, by rw [← HK.out, HKO.out]; exact HRD4.out, HB4.out.only⟩
    · go_wp2_with fail
      refine (bad_failed hra1 (by decide)).mono ?_
      rintro e w2 ⟨rfl, hbel2⟩
      have HB2 := Lib.hid (HB1.out.next hbel2)
      have HRB2 := Lib.hid (HRB1.out.below hbel2)
      clear hbel2 hra1
      have c1 := HB2.out.c1
      go_wp2_with fail
      refine (fail_any 2 HRB2.out).mono ?_
      rintro e w3 ⟨rfl, hrd3, ho3⟩
      have h00 : failC 0 2 = 2 := rfl
      rw [h00] at hrd3
      have HB3 := Lib.hid (HB2.out.step hblt ho3)
      have HRD3 := Lib.hid hrd3
      clear ho3 hrd3 h00 c1
      go_wp2
      go_ret
      exact ⟨rfl, by rw [← HK.out]; exact HRD3.out, HB3.out.only⟩

end Go.Proofs.Ytpmepnejjjlodaa
