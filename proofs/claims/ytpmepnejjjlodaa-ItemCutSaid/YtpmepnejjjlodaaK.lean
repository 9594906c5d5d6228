/-
  Contracts of the reader's methods str, Bytes, Text and Array. Conditions: the reader lies in one block, its text is no longer than memory allows, and its offset lies within it.
-/
import Derived.Test.YtpmepnejjjlodaaI
namespace Go.Proofs.Ytpmepnejjjlodaa
open Go.ChangeShapes Go.WideShapes Go.ChangeAt Go.RowKit
open Plain
set_option linter.unusedVariables false

/-- What str answers, the offset and the error behind it. -/
def strOf (s : ByteArray) (p : Nat) (c : Int) (major : Nat) (most : Int) : ByteArray × Nat × Int :=
  let y := peekOf s p c
  if y.1.major ≠ major ∨ y.1.op = true ∨ s.size - (p + y.1.size) < y.1.n then (⟨#[]⟩, p, failC y.2 2)
  else if most < 0 ∨ most < y.1.n then (⟨#[]⟩, p, failC y.2 4)
  else ((s.extract (p + y.1.size) s.size).extract 0 y.1.n, p + y.1.size + y.1.n, y.2)

theorem Rd.drew {w : World} {b : Nat} {s : ByteArray} {p : Nat} {c : Int} (h : Rd w b s p c) : Rd w.drew b s p c := h

set_option maxHeartbeats 2000000 in
theorem str_any {w : World} {b : Nat} {s : ByteArray} {p : Nat} {c : Int} (major : Nat) (most : Int) (h : Ok w b s p c) (hM : major ≤ 7) (hm1 : -9223372036854775808 ≤ most) (hm2 : most ≤ 9223372036854775807) :
    Calls Try.prog 57 #[.pointer (some ⟨b, 0, none⟩), .int .i64 major, .int .i64 most] w fun e w' =>
      e = .returned (.string (strOf s p c major most).1) ∧ Rd w' b s (strOf s p c major most).2.1 (strOf s p c major most).2.2 ∧ Only b w w' := by
  have hpk := peek_any h
  obtain ⟨h9, hle, h7, h64, _⟩ := peekOf_size s p c h.within
  have hfit := h.fits
  unfold maxLen at hfit
  unfold strOf
  simp only []
  generalize peekOf s p c = y at *
  obtain ⟨⟨m, n, o, z⟩, c'⟩ := y
  simp only [] at *
  have HPK := Lib.hid hpk; clear hpk h
  have H64 := Lib.hid h64; clear h64
  have hsum : IntKind.i64.wrap ((p : Int) + (z : Int)) = ((p + z : Nat) : Int) := by rw [IntKind.wrap_i64]; omega
  by_cases hm : m = major
  · subst hm
    cases o
    · by_cases hn : s.size - (p + z) < n
      · rw [if_pos (by simp [hn])]
        go_enter Try.func57, Try.ntmps57
        go_wp2_with fail
        refine HPK.out.mono ?_
        rintro e w1 ⟨rfl, hrd, ho⟩
        have c0 := hrd.cell0
        have c1 := hrd.cell1
        have f1 := hrd.frozen 1
        have hlt := hrd.lt
        simp only [hdV]
        have HR := Lib.hid hrd; clear hrd
        have HO := Lib.hid ho; clear ho
        go_wp2
        go_region
        go_wp2_with fail
        refine (fail_any 2 (HR.out.alloc _).drew).mono ?_
        rintro e w2 ⟨rfl, hrd2, ho2⟩
        go_wp2
        go_ret
        exact ⟨rfl, hrd2, (HO.out.alloc _).drew.trans ho2⟩
      · rw [if_neg (by simp; omega)]
        have hn' : n ≤ s.size - (p + z) := by omega
        clear hn
        by_cases h0 : most < 0
        · rw [if_pos (Or.inl h0)]
          go_enter Try.func57, Try.ntmps57
          go_wp2_with fail
          refine HPK.out.mono ?_
          rintro e w1 ⟨rfl, hrd, ho⟩
          have c0 := hrd.cell0
          have c1 := hrd.cell1
          have f1 := hrd.frozen 1
          have hlt := hrd.lt
          simp only [hdV]
          have HR := Lib.hid hrd; clear hrd
          have HO := Lib.hid ho; clear ho
          go_wp2
          go_region
          go_wp2_with fail
          refine (fail_any 4 (HR.out.alloc _).drew).mono ?_
          rintro e w2 ⟨rfl, hrd2, ho2⟩
          go_wp2
          go_ret
          exact ⟨rfl, hrd2, (HO.out.alloc _).drew.trans ho2⟩
        · by_cases h1 : most < n
          · rw [if_pos (Or.inr h1)]
            have h0' : 0 ≤ most := by omega
            obtain ⟨k, rfl⟩ := Int.eq_ofNat_of_zero_le h0'
            go_enter Try.func57, Try.ntmps57
            go_wp2_with fail
            refine HPK.out.mono ?_
            rintro e w1 ⟨rfl, hrd, ho⟩
            have c0 := hrd.cell0
            have c1 := hrd.cell1
            have f1 := hrd.frozen 1
            have hlt := hrd.lt
            simp only [hdV]
            have HR := Lib.hid hrd; clear hrd
            have HO := Lib.hid ho; clear ho
            go_wp2
            go_region
            go_wp2_with fail
            refine (fail_any 4 (HR.out.alloc _).drew).mono ?_
            rintro e w2 ⟨rfl, hrd2, ho2⟩
            go_wp2
            go_ret
            exact ⟨rfl, hrd2, (HO.out.alloc _).drew.trans ho2⟩
          · rw [if_neg (by omega)]
            have h0' : 0 ≤ most := by omega
            obtain ⟨k, rfl⟩ := Int.eq_ofNat_of_zero_le h0'
            have hnk : n ≤ k := by omega
            clear h1 h0 h0'
            have hsum2 : IntKind.i64.wrap ((z : Int) + (n : Int)) = ((z + n : Nat) : Int) := by rw [IntKind.wrap_i64]; omega
            have hsum3 : IntKind.i64.wrap ((p : Int) + ((z : Int) + (n : Int))) = ((p + z + n : Nat) : Int) := by rw [IntKind.wrap_i64]; omega
            go_enter Try.func57, Try.ntmps57
            go_wp2_with fail
            refine HPK.out.mono ?_
            rintro e w1 ⟨rfl, hrd, ho⟩
            have c0 := hrd.cell0
            have c1 := hrd.cell1
            have f1 := hrd.frozen 1
            have hlt := hrd.lt
            simp only [hdV]
            have HR := Lib.hid hrd; clear hrd
            have HO := Lib.hid ho; clear ho
            go_wp2
            go_region
            go_wp2_with fail
            go_region
            go_wp2
            go_ret
            refine ⟨rfl, ?_, ?_⟩
            · exact ((HR.out.set1 (p + z + n)).alloc _)
            · exact ((HO.out.set 1 _).alloc _).drew.drew
    · rw [if_pos (by simp)]
      go_enter Try.func57, Try.ntmps57
      go_wp2_with fail
      refine HPK.out.mono ?_
      rintro e w1 ⟨rfl, hrd, ho⟩
      have c0 := hrd.cell0
      have c1 := hrd.cell1
      have f1 := hrd.frozen 1
      have hlt := hrd.lt
      simp only [hdV]
      have HR := Lib.hid hrd; clear hrd
      have HO := Lib.hid ho; clear ho
      go_wp2
      go_region
      go_wp2_with fail
      refine (fail_any 2 (HR.out.alloc _).drew).mono ?_
      rintro e w2 ⟨rfl, hrd2, ho2⟩
      go_wp2
      go_ret
      exact ⟨rfl, hrd2, (HO.out.alloc _).drew.trans ho2⟩
  · rw [if_pos (Or.inl hm)]
    have g : ((m : Int) != (major : Int)) = true := by simp; omega
    have g' : (m != major) = true := by simp [hm]
    have HM := Lib.hid hm; clear hm
    go_enter Try.func57, Try.ntmps57
    go_wp2_with fail
    refine HPK.out.mono ?_
    rintro e w1 ⟨rfl, hrd, ho⟩
    have c0 := hrd.cell0
    have c1 := hrd.cell1
    have f1 := hrd.frozen 1
    have hlt := hrd.lt
    simp only [hdV]
    have HR := Lib.hid hrd; clear hrd
    have HO := Lib.hid ho; clear ho
    go_wp2
    go_region
    go_wp2_with fail
    refine (fail_any 2 (HR.out.alloc _).drew).mono ?_
    rintro e w2 ⟨rfl, hrd2, ho2⟩
    go_wp2
    go_ret
    exact ⟨rfl, hrd2, (HO.out.alloc _).drew.trans ho2⟩

/-- (*Reader).Bytes. -/
theorem readBytes_any {w : World} {b : Nat} {s : ByteArray} {p : Nat} {c : Int} (most : Int) (h : Ok w b s p c) (hm1 : -9223372036854775808 ≤ most) (hm2 : most ≤ 9223372036854775807) :
    Calls Try.prog 44 #[.pointer (some ⟨b, 0, none⟩), .int .i64 most] w fun e w' =>
      e = .returned (.string (strOf s p c 2 most).1) ∧ Rd w' b s (strOf s p c 2 most).2.1 (strOf s p c 2 most).2.2 ∧ Only b w w' := by
  have hst := str_any 2 most h (by omega) hm1 hm2
  have HST := Lib.hid hst; clear hst h
  go_enter Try.func44, Try.ntmps44
  go_wp2_with fail
  refine HST.out.mono ?_
  rintro e w1 ⟨rfl, hrd, ho⟩
  go_wp2
  go_ret
  exact ⟨rfl, hrd, ho⟩

/-- (*Reader).Text. -/
theorem readText_any {w : World} {b : Nat} {s : ByteArray} {p : Nat} {c : Int} (most : Int) (h : Ok w b s p c) (hm1 : -9223372036854775808 ≤ most) (hm2 : most ≤ 9223372036854775807) :
    Calls Try.prog 45 #[.pointer (some ⟨b, 0, none⟩), .int .i64 most] w fun e w' =>
      e = .returned (.string (strOf s p c 3 most).1) ∧ Rd w' b s (strOf s p c 3 most).2.1 (strOf s p c 3 most).2.2 ∧ Only b w w' := by
  have hst := str_any 3 most h (by omega) hm1 hm2
  have HST := Lib.hid hst; clear hst h
  go_enter Try.func45, Try.ntmps45
  go_wp2_with fail
  refine HST.out.mono ?_
  rintro e w1 ⟨rfl, hrd, ho⟩
  go_wp2
  go_ret
  exact ⟨rfl, hrd, ho⟩

/-- What Array answers, the offset and the error behind it. -/
def arrOf (s : ByteArray) (p : Nat) (c : Int) : Int × Nat × Int :=
  let y := peekOf s p c
  if y.1.major ≠ 4 then (0, p, failC y.2 2)
  else if 1000 < y.1.n then (0, p, failC y.2 4)
  else if y.1.op = true then (-1, p + y.1.size, y.2)
  else (y.1.n, p + y.1.size, y.2)

set_option maxHeartbeats 1000000 in
theorem readArray_any {w : World} {b : Nat} {s : ByteArray} {p : Nat} {c : Int} (h : Ok w b s p c) :
    Calls Try.prog 58 #[.pointer (some ⟨b, 0, none⟩)] w fun e w' =>
      e = .returned (.int .i64 (arrOf s p c).1) ∧ Rd w' b s (arrOf s p c).2.1 (arrOf s p c).2.2 ∧ Only b w w' := by
  have hpk := peek_any h
  obtain ⟨h9, hle, h7, h64, _⟩ := peekOf_size s p c h.within
  have hfit := h.fits
  unfold maxLen at hfit
  unfold arrOf
  simp only []
  generalize peekOf s p c = y at *
  obtain ⟨⟨m, n, o, z⟩, c'⟩ := y
  simp only [] at *
  have HPK := Lib.hid hpk; clear hpk h
  have H64 := Lib.hid h64; clear h64
  have hsum : IntKind.i64.wrap ((p : Int) + (z : Int)) = ((p + z : Nat) : Int) := by rw [IntKind.wrap_i64]; omega
  by_cases hm : m ≠ 4
  · rw [if_pos hm]
    have g : ((m : Int) != 4) = true := by simp; omega
    have HM := Lib.hid hm; clear hm
    go_enter Try.func58, Try.ntmps58
    go_wp2_with fail
    refine HPK.out.mono ?_
    rintro e w1 ⟨rfl, hrd, ho⟩
    have c1 := hrd.cell1
    have f1 := hrd.frozen 1
    have hlt := hrd.lt
    simp only [hdV]
    have HR := Lib.hid hrd; clear hrd
    have HO := Lib.hid ho; clear ho
    go_wp2_with fail
    refine (fail_any 2 (HR.out.alloc _)).mono ?_
    rintro e w2 ⟨rfl, hrd2, ho2⟩
    go_wp2
    go_ret
    exact ⟨rfl, hrd2, (HO.out.alloc _).trans ho2⟩
  · rw [if_neg hm]
    obtain rfl : m = 4 := by omega
    clear hm
    by_cases hn : 1000 < n
    · rw [if_pos hn]
      have g : decide ((1000 : Int) < (n : Int)) = true := by simp; omega
      have HN := Lib.hid hn; clear hn
      go_enter Try.func58, Try.ntmps58
      go_wp2_with fail
      refine HPK.out.mono ?_
      rintro e w1 ⟨rfl, hrd, ho⟩
      have c1 := hrd.cell1
      have f1 := hrd.frozen 1
      have hlt := hrd.lt
      simp only [hdV]
      have HR := Lib.hid hrd; clear hrd
      have HO := Lib.hid ho; clear ho
      go_wp2_with fail
      refine (fail_any 4 (HR.out.alloc _)).mono ?_
      rintro e w2 ⟨rfl, hrd2, ho2⟩
      go_wp2
      go_ret
      exact ⟨rfl, hrd2, (HO.out.alloc _).trans ho2⟩
    · rw [if_neg hn]
      have g : decide ((1000 : Int) < (n : Int)) = false := by simp; omega
      have hn' : (n : Int) ≤ 1000 := by omega
      have HN := Lib.hid hn; clear hn
      cases o
      · rw [if_neg (by simp)]
        go_enter Try.func58, Try.ntmps58
        go_wp2_with fail
        refine HPK.out.mono ?_
        rintro e w1 ⟨rfl, hrd, ho⟩
        have c1 := hrd.cell1
        have f1 := hrd.frozen 1
        have hlt := hrd.lt
        simp only [hdV]
        have HR := Lib.hid hrd; clear hrd
        have HO := Lib.hid ho; clear ho
        go_wp2_with fail
        go_region
        go_wp2
        go_ret
        refine ⟨rfl, ?_, ?_⟩
        · exact (HR.out.set1 (p + z)).alloc _
        · exact ((HO.out.set 1 _).alloc _).drew
      · rw [if_pos rfl]
        go_enter Try.func58, Try.ntmps58
        go_wp2_with fail
        refine HPK.out.mono ?_
        rintro e w1 ⟨rfl, hrd, ho⟩
        have c1 := hrd.cell1
        have f1 := hrd.frozen 1
        have hlt := hrd.lt
        simp only [hdV]
        have HR := Lib.hid hrd; clear hrd
        have HO := Lib.hid ho; clear ho
        go_wp2_with fail
        go_region
        go_wp2
        go_ret
        refine ⟨rfl, ?_, ?_⟩
        · exact (HR.out.set1 (p + z)).alloc _
        · exact ((HO.out.set 1 _).alloc _).drew

end Go.Proofs.Ytpmepnejjjlodaa
