/-
  Contract of item's parser: item. Conditions: its reader is in order.
-/
import Derived.Test.YtpmepnejjjlodaaArr
namespace Go.Proofs.Ytpmepnejjjlodaa
open Go.ChangeShapes Go.WideShapes Go.ChangeAt Go.RowKit
open Plain
set_option linter.unusedVariables false

set_option maxHeartbeats 4000000 in
set_option maxRecDepth 100000 in
/-- item on the ninth level: it is too deep, or it is no item. -/
theorem item_zero (s : ByteArray) (b : Nat) (w : World) (p : Nat) (h : Ok w b s p 0) : Calls Try.prog 28 #[pV s b, .int .i64 9] w (ItemPost 0 s b p w) := by
  have hblt := h.rd.lt
  have hspec := read_zero (s.data.toList.drop p)
  have hcode := kind_code (s.data.toList.drop p)
  have hkind := fun (W : World) (r : Rd W b s p 0) => kind_any (w := W) (b := b) (s := s) (p := p) ⟨r, h.fits, h.within⟩
  generalize hy : kindOf (s.data.toList.drop p) = y at *
  obtain ⟨m, c1'⟩ := y
  simp only [] at *
  have hc : failC c1' 3 ≠ 0 := by rcases hcode with rfl | rfl <;> decide
  obtain ⟨L, hL⟩ : ∃ L : Nat, L = 9 := ⟨9, rfl⟩
  have hLI : (9 : Int) = (L : Int) := by omega
  rw [hLI]
  have g8 : decide ((8 : Int) < (L : Int)) = true := by simp; omega
  have HFW := h.fits
  have HSPEC := Lib.hid hspec; clear hspec
  have HKIND := Lib.hid hkind; clear hkind
  have HF := Lib.hid (And.intro h.fits h.within)
  have hrd := h.rd
  have HRD := Lib.hid hrd; clear hrd h hLI HFW
  have hL9 : (L : Int) ≤ 9 := by omega
  have hL9n : L ≤ 9 := by omega
  have HL := Lib.hid hL; clear hL
  simp only [pV] at *
  unfold ItemPost
  go_enter Try.func28, Try.ntmps28
  go_wp2_with fail
  refine (HKIND.out _ ((HRD.out.alloc _).alloc _)).mono ?_
  rintro e w1 ⟨rfl, hrd1, ho1⟩
  have HPR := Lib.hid ((PRes.new w s b).step hblt ho1); clear ho1
  have c1 := HPR.out.c1
  have HRD1 := Lib.hid hrd1; clear hrd1
  go_wp2_with fail
  refine (fail_any 3 HRD1.out).mono ?_
  rintro e WZ ⟨rfl, hrd2, ho2⟩
  have HPR2 := Lib.hid (HPR.out.step hblt ho2); clear ho2 c1
  have HRD2 := Lib.hid hrd2; clear hrd2
  have HC := Lib.hid hc; clear hc
  generalize failC c1' 3 = c at *
  have c0 := HPR2.out.c0
  have c1 := HPR2.out.c1
  by_cases m0 : m = 0
  · subst m0
    have hu := uint_any ⟨HRD2.out, HF.out.1, HF.out.2⟩
    rw [uint_failed s p HC.out] at hu
    simp only [] at hu
    have HU := Lib.hid hu; clear hu
    go_wp2_with fail
    refine HU.out.mono ?_
    rintro e wz ⟨rfl, hrdz, hoz⟩
    have HPZ := Lib.hid (HPR2.out.step hblt hoz); clear hoz c0 c1
    have r0 := HPZ.out.r0
    have r1 := HPZ.out.r1
    have r2 := HPZ.out.r2
    have r3 := HPZ.out.r3
    have r4 := HPZ.out.r4
    have rf := HPZ.out.rf
    go_wp2
    generalize hF : ((((wz.setCell ⟨w.heap.size + 1, 0, none⟩ (.int .i64 0)).setCell ⟨w.heap.size + 1, 1, none⟩ (.int .u64 0)).setCell ⟨w.heap.size + 1, 2, none⟩ (.string ⟨#[]⟩)).setCell ⟨w.heap.size + 1, 3, none⟩ (.slice none 0 0)).setCell ⟨w.heap.size + 1, 4, none⟩ (.bool false) = F
    obtain ⟨⟨f0, f1, f2, f3, f4⟩, hoF, hrdF, _, _⟩ := HPZ.out.end_ hblt _ _ _ _ _ F hF.symm
    clear hF
    refine bodyPost_ret (v := .agg #[.int .i64 0, .int .u64 0, .string ⟨#[]⟩, .slice none 0 0, .bool false]) (by simp [results, Try.results28, go_sem, f0, f1, f2, f3, f4]) rfl ⟨.mk 0 0 ⟨#[]⟩ [] false, _, rfl, liesIn_leaf F _ 0 0 ⟨#[]⟩ false (by decide) (by decide) (by decide), hoF, ?_⟩
    rw [HSPEC.out]
    exact ⟨hrdF _ _ hrdz, HC.out, HF.out.2⟩
  by_cases m2 : m = 2
  · subst m2
    have hu := readBytes_any 9223372036854775807 ⟨HRD2.out, HF.out.1, HF.out.2⟩ (by decide) (by decide)
    rw [str_failed s p 2 _ HC.out (by decide)] at hu
    simp only [] at hu
    have HU := Lib.hid hu; clear hu
    go_wp2_with fail
    refine HU.out.mono ?_
    rintro e wz ⟨rfl, hrdz, hoz⟩
    have HPZ := Lib.hid (HPR2.out.step hblt hoz); clear hoz c0 c1
    have r0 := HPZ.out.r0
    have r1 := HPZ.out.r1
    have r2 := HPZ.out.r2
    have r3 := HPZ.out.r3
    have r4 := HPZ.out.r4
    have rf := HPZ.out.rf
    go_wp2
    generalize hF : ((((wz.setCell ⟨w.heap.size + 1, 0, none⟩ (.int .i64 2)).setCell ⟨w.heap.size + 1, 1, none⟩ (.int .u64 0)).setCell ⟨w.heap.size + 1, 2, none⟩ (.string ⟨#[]⟩)).setCell ⟨w.heap.size + 1, 3, none⟩ (.slice none 0 0)).setCell ⟨w.heap.size + 1, 4, none⟩ (.bool false) = F
    obtain ⟨⟨f0, f1, f2, f3, f4⟩, hoF, hrdF, _, _⟩ := HPZ.out.end_ hblt _ _ _ _ _ F hF.symm
    clear hF
    refine bodyPost_ret (v := .agg #[.int .i64 2, .int .u64 0, .string ⟨#[]⟩, .slice none 0 0, .bool false]) (by simp [results, Try.results28, go_sem, f0, f1, f2, f3, f4]) rfl ⟨.mk 2 0 ⟨#[]⟩ [] false, _, rfl, liesIn_leaf F _ 2 0 ⟨#[]⟩ false (by decide) (by decide) (by decide), hoF, ?_⟩
    rw [HSPEC.out]
    exact ⟨hrdF _ _ hrdz, HC.out, HF.out.2⟩
  by_cases m3 : m = 3
  · subst m3
    have hu := readText_any 9223372036854775807 ⟨HRD2.out, HF.out.1, HF.out.2⟩ (by decide) (by decide)
    rw [str_failed s p 3 _ HC.out (by decide)] at hu
    simp only [] at hu
    have HU := Lib.hid hu; clear hu
    go_wp2_with fail
    refine HU.out.mono ?_
    rintro e wz ⟨rfl, hrdz, hoz⟩
    have HPZ := Lib.hid (HPR2.out.step hblt hoz); clear hoz c0 c1
    have r0 := HPZ.out.r0
    have r1 := HPZ.out.r1
    have r2 := HPZ.out.r2
    have r3 := HPZ.out.r3
    have r4 := HPZ.out.r4
    have rf := HPZ.out.rf
    go_wp2
    generalize hF : ((((wz.setCell ⟨w.heap.size + 1, 0, none⟩ (.int .i64 3)).setCell ⟨w.heap.size + 1, 1, none⟩ (.int .u64 0)).setCell ⟨w.heap.size + 1, 2, none⟩ (.string ⟨#[]⟩)).setCell ⟨w.heap.size + 1, 3, none⟩ (.slice none 0 0)).setCell ⟨w.heap.size + 1, 4, none⟩ (.bool false) = F
    obtain ⟨⟨f0, f1, f2, f3, f4⟩, hoF, hrdF, _, _⟩ := HPZ.out.end_ hblt _ _ _ _ _ F hF.symm
    clear hF
    refine bodyPost_ret (v := .agg #[.int .i64 3, .int .u64 0, .string ⟨#[]⟩, .slice none 0 0, .bool false]) (by simp [results, Try.results28, go_sem, f0, f1, f2, f3, f4]) rfl ⟨.mk 3 0 ⟨#[]⟩ [] false, _, rfl, liesIn_leaf F _ 3 0 ⟨#[]⟩ false (by decide) (by decide) (by decide), hoF, ?_⟩
    rw [HSPEC.out]
    exact ⟨hrdF _ _ hrdz, HC.out, HF.out.2⟩
  by_cases m4 : m = 4
  · subst m4
    have hu := array_none L s b (by omega) _ p p _ _ ⟨HRD2.out, HF.out.1, HF.out.2⟩ (arr_failed s p HC.out)
    simp only [pV] at hu
    have HU := Lib.hid hu; clear hu
    go_wp2_with fail
    refine HU.out.mono ?_
    rintro e wz ⟨y, v, rfl, hly, hoz, hrdz⟩
    obtain ⟨A, cap, rfl⟩ := hly.slice
    have HPZ := Lib.hid (HPR2.out.step hblt hoz); clear hoz c0 c1
    have HLY := Lib.hid hly; clear hly
    simp only [itV]
    have r0 := HPZ.out.r0
    have r1 := HPZ.out.r1
    have r2 := HPZ.out.r2
    have r3 := HPZ.out.r3
    have r4 := HPZ.out.r4
    have rf := HPZ.out.rf
    go_wp2
    generalize hF : ((((wz.setCell ⟨w.heap.size + 1, 0, none⟩ (.int .i64 y.kind)).setCell ⟨w.heap.size + 1, 1, none⟩ (.int .u64 y.n)).setCell ⟨w.heap.size + 1, 2, none⟩ (.string y.s)).setCell ⟨w.heap.size + 1, 3, none⟩ (.slice A y.l.length cap)).setCell ⟨w.heap.size + 1, 4, none⟩ (.bool y.opn) = F
    obtain ⟨⟨f0, f1, f2, f3, f4⟩, hoF, hrdF, hothF, hszF⟩ := HPZ.out.end_ hblt _ _ _ _ _ F hF.symm
    clear hF
    have hlies := HLY.out.keep (w' := F) (Q' := News w F) (fun k hk => by
      have h1 := HPR2.out.lt
      obtain ⟨k1, k2⟩ := hk
      exact ⟨hothF k (by omega), by omega, by omega⟩)
    refine bodyPost_ret (v := .agg #[.int .i64 y.kind, .int .u64 y.n, .string y.s, .slice A y.l.length cap, .bool y.opn]) (by simp [results, Try.results28, go_sem, f0, f1, f2, f3, f4]) rfl ⟨y, _, rfl, hlies, hoF, ?_⟩
    rw [HSPEC.out]
    exact ⟨hrdF _ _ hrdz, HC.out, HF.out.2⟩
  have g0 : ((m : Int) == 0) = false := by simp; omega
  have g2 : ((m : Int) == 2) = false := by simp; omega
  have g3 : ((m : Int) == 3) = false := by simp; omega
  have g4 : ((m : Int) == 4) = false := by simp; omega
  have k2 : ¬ (m : Int) = 2 := by omega
  have k3 : ¬ (m : Int) = 3 := by omega
  have k4 : ¬ (m : Int) = 4 := by omega
  have hrdz := HRD2.out
  have HRZ := Lib.hid hrdz; clear hrdz c0 c1
  have r0 := HPR2.out.r0
  have r1 := HPR2.out.r1
  have r2 := HPR2.out.r2
  have r3 := HPR2.out.r3
  have r4 := HPR2.out.r4
  have rf := HPR2.out.rf
  go_wp2
  generalize hF : ((((WZ.setCell ⟨w.heap.size + 1, 0, none⟩ (.int .i64 0)).setCell ⟨w.heap.size + 1, 1, none⟩ (.int .u64 0)).setCell ⟨w.heap.size + 1, 2, none⟩ (.string ⟨#[]⟩)).setCell ⟨w.heap.size + 1, 3, none⟩ (.slice none 0 0)).setCell ⟨w.heap.size + 1, 4, none⟩ (.bool false) = F
  obtain ⟨⟨f0, f1, f2, f3, f4⟩, hoF, hrdF, _, _⟩ := HPR2.out.end_ hblt _ _ _ _ _ F hF.symm
  clear hF
  refine bodyPost_ret (v := .agg #[.int .i64 0, .int .u64 0, .string ⟨#[]⟩, .slice none 0 0, .bool false]) (by simp [results, Try.results28, go_sem, f0, f1, f2, f3, f4]) rfl ⟨.mk 0 0 ⟨#[]⟩ [] false, _, rfl, liesIn_leaf F _ 0 0 ⟨#[]⟩ false (by decide) (by decide) (by decide), hoF, ?_⟩
  rw [HSPEC.out]
  exact ⟨hrdF _ _ HRZ.out, HC.out, HF.out.2⟩

/-- A piece of a string. -/
def cutOf (s : ByteArray) (q n : Nat) : ByteArray := (s.extract q s.size).extract 0 n

theorem cut_list (s : ByteArray) (q n : Nat) : (⟨((s.data.toList.drop q).take n).toArray⟩ : ByteArray) = cutOf s q n := by
  apply ByteArray.ext
  apply Array.toList_inj.1
  unfold cutOf
  rw [ByteArray.data_extract]
  simp only [Array.toList_extract, List.extract_eq_take_drop, List.drop_zero, Nat.sub_zero, drop_extract]

theorem cut_size (s : ByteArray) (q n : Nat) : (cutOf s q n).size ≤ s.size := by
  rw [← cut_list, ← size_data]
  simp only [List.length_take, List.length_drop, size_data]
  omega

theorem str_bad {s : ByteArray} {p m : Nat} (d : Nat) {x : Hd} (hx : headL (s.data.toList.drop p) = some x) (hmaj : x.major = m) (hm : m = 2 ∨ m = 3) (hbad : x.op = true ∨ s.size - (p + x.size) < x.n) :
    strOf s p 0 m 9223372036854775807 = (⟨#[]⟩, p, 2) ∧ readItem (d + 1) (s.data.toList.drop p) = .err 0 2 := by
  have hlen : (s.data.toList.drop p).length = s.size - p := by rw [List.length_drop, size_data]
  have hpk : peekOf s p 0 = (x, 0) := by unfold peekOf; rw [if_neg (by simp), hx]
  constructor
  · unfold strOf
    rw [hpk]
    have : x.major ≠ m ∨ x.op = true ∨ s.size - (p + x.size) < x.n := .inr hbad
    simp [this, failC]
  · have h2 : x.op = true ∨ (s.data.toList.drop p).length - x.size < x.n := by
      rw [hlen]
      rcases hbad with h | h
      · exact .inl h
      · exact .inr (by omega)
    have h0 : ¬ x.major = 0 := by omega
    have h23 : x.major = 2 ∨ x.major = 3 := by omega
    simp only [readItem, hx]
    rw [if_neg h0, if_pos h23, if_pos h2]

theorem str_good {s : ByteArray} {p m : Nat} (d : Nat) {x : Hd} (hx : headL (s.data.toList.drop p) = some x) (hmaj : x.major = m) (hm : m = 2 ∨ m = 3) (hz : p + x.size ≤ s.size) (hs : s.size ≤ 140737488355328) (hbad : ¬ (x.op = true ∨ s.size - (p + x.size) < x.n)) :
    strOf s p 0 m 9223372036854775807 = (cutOf s (p + x.size) x.n, p + x.size + x.n, 0) ∧ readItem (d + 1) (s.data.toList.drop p) = .ok (.mk (m : Int) 0 (cutOf s (p + x.size) x.n) [] false) (x.size + x.n) ∧
      (cutOf s (p + x.size) x.n).size ≤ 140737488355328 ∧ p + (x.size + x.n) ≤ s.size := by
  have hlen : (s.data.toList.drop p).length = s.size - p := by rw [List.length_drop, size_data]
  have hpk : peekOf s p 0 = (x, 0) := by unfold peekOf; rw [if_neg (by simp), hx]
  simp only [not_or] at hbad
  refine ⟨?_, ?_, ?_, by omega⟩
  · unfold strOf
    rw [hpk]
    have h1 : ¬ (x.major ≠ m ∨ x.op = true ∨ s.size - (p + x.size) < x.n) := by simp only [not_or]; exact ⟨by simp [hmaj], hbad.1, hbad.2⟩
    have h2 : ¬ ((9223372036854775807 : Int) < 0 ∨ (9223372036854775807 : Int) < (x.n : Int)) := by omega
    simp only [h1, h2, if_false]
    rfl
  · have h2 : ¬ (x.op = true ∨ (s.data.toList.drop p).length - x.size < x.n) := by
      rw [hlen]
      simp only [not_or]
      exact ⟨hbad.1, by omega⟩
    have h0 : ¬ x.major = 0 := by omega
    have h23 : x.major = 2 ∨ x.major = 3 := by omega
    simp only [readItem, hx]
    rw [if_neg h0, if_pos h23, if_neg h2, List.drop_drop, cut_list, hmaj]
  · have := cut_size s (p + x.size) x.n
    omega

set_option maxHeartbeats 4000000 in
set_option maxRecDepth 100000 in
/-- item on a level that may be. -/
theorem item_succ (d L : Nat) (s : ByteArray) (b : Nat) (hL : L ≤ 8) (hs47 : s.size ≤ 140737488355328)
    (ih : ∀ (w : World) (p : Nat), Ok w b s p 0 → Calls Try.prog 28 #[pV s b, .int .i64 ((L + 1 : Nat) : Int)] w (ItemPost d s b p w))
    (w : World) (p : Nat) (h : Ok w b s p 0) : Calls Try.prog 28 #[pV s b, .int .i64 L] w (ItemPost (d + 1) s b p w) := by
  have hblt := h.rd.lt
  have hcode := kind_code (s.data.toList.drop p)
  have hbadspec := read_bad (t := s.data.toList.drop p) d
  have hgood := kind_good (t := s.data.toList.drop p)
  have hkind := fun (W : World) (r : Rd W b s p 0) => kind_any (w := W) (b := b) (s := s) (p := p) ⟨r, h.fits, h.within⟩
  have harray := fun (W : World) (r : Rd W b s p 0) (x : Hd) (hx : headL (s.data.toList.drop p) = some x) (hm : x.major = 4) => array_any d L s b hL ih W p ⟨r, h.fits, h.within⟩ x hx hm
  generalize hy : kindOf (s.data.toList.drop p) = y at *
  obtain ⟨m, c1'⟩ := y
  simp only [] at *
  have g8 : decide ((8 : Int) < (L : Int)) = false := by simp; omega
  have HKIND := Lib.hid hkind; clear hkind
  have HARRAY := Lib.hid harray; clear harray
  have HF := Lib.hid (And.intro h.fits h.within)
  have hrd := h.rd
  have HRD := Lib.hid hrd; clear hrd h
  have hL9 : (L : Int) ≤ 8 := by omega
  have HS47 := Lib.hid hs47; clear hs47 ih
  have HY := Lib.hid hy; clear hy
  have HBS := Lib.hid hbadspec; clear hbadspec
  have HGOOD := Lib.hid hgood; clear hgood
  simp only [pV] at *
  unfold ItemPost
  rcases hcode with rfl | rfl
  · obtain ⟨x, hx, hmx, hkd⟩ := HGOOD.out rfl
    have hpk : peekOf s p 0 = (x, 0) := by unfold peekOf; rw [if_neg (by simp), hx]
    obtain ⟨hz1, hz9, hzl, hz7, hz64, hzop⟩ := headL_size hx
    have hlen : (s.data.toList.drop p).length = s.size - p := by rw [List.length_drop, size_data]
    have hz : p + x.size ≤ s.size := by have := HF.out.2; omega
    have HZ := Lib.hid hz; clear hz
    have HZ64 := Lib.hid hz64; clear hz64 hz1 hz9 hzl hz7 hzop
    go_enter Try.func28, Try.ntmps28
    go_wp2_with fail
    refine (HKIND.out _ ((HRD.out.alloc _).alloc _)).mono ?_
    rintro e w1 ⟨rfl, hrd1, ho1⟩
    have HPR := Lib.hid ((PRes.new w s b).step hblt ho1); clear ho1
    have c0 := HPR.out.c0
    have c1 := HPR.out.c1
    have HRD1 := Lib.hid hrd1; clear hrd1
    by_cases m0 : m = 0
    · subst m0
      have hmaj : x.major = 0 := hmx.symm
      have hspec : readItem (d + 1) (s.data.toList.drop p) = .ok (.mk 0 x.n ⟨#[]⟩ [] false) x.size := by
        simp only [readItem, hx, hmaj]
        rfl
      have huo : uintOf s p 0 = (x.n, p + x.size, 0) := by
        unfold uintOf
        rw [hpk]
        simp [hmaj]
      have hu := uint_any ⟨HRD1.out, HF.out.1, HF.out.2⟩
      rw [huo] at hu
      simp only [] at hu
      have HU := Lib.hid hu; clear hu huo
      have HSPEC := Lib.hid hspec; clear hspec
      have HX := Lib.hid (And.intro hx (And.intro hpk hmaj)); clear hx hpk hmaj hlen hmx hkd
      go_wp2_with fail
      refine HU.out.mono ?_
      rintro e wz ⟨rfl, hrdz, hoz⟩
      have HPZ := Lib.hid (HPR.out.step hblt hoz); clear hoz c0 c1
      have r0 := HPZ.out.r0
      have r1 := HPZ.out.r1
      have r2 := HPZ.out.r2
      have r3 := HPZ.out.r3
      have r4 := HPZ.out.r4
      have rf := HPZ.out.rf
      go_wp2
      generalize hF : ((((wz.setCell ⟨w.heap.size + 1, 0, none⟩ (.int .i64 0)).setCell ⟨w.heap.size + 1, 1, none⟩ (.int .u64 x.n)).setCell ⟨w.heap.size + 1, 2, none⟩ (.string ⟨#[]⟩)).setCell ⟨w.heap.size + 1, 3, none⟩ (.slice none 0 0)).setCell ⟨w.heap.size + 1, 4, none⟩ (.bool false) = F
      obtain ⟨⟨f0, f1, f2, f3, f4⟩, hoF, hrdF, _, _⟩ := HPZ.out.end_ hblt _ _ _ _ _ F hF.symm
      clear hF
      refine bodyPost_ret (v := .agg #[.int .i64 0, .int .u64 x.n, .string ⟨#[]⟩, .slice none 0 0, .bool false]) (by simp [results, Try.results28, go_sem, f0, f1, f2, f3, f4]) rfl ⟨.mk 0 x.n ⟨#[]⟩ [] false, _, rfl, liesIn_leaf F _ 0 x.n ⟨#[]⟩ false (by decide) (by have := HZ64.out; omega) (by decide), hoF, ?_⟩
      rw [HSPEC.out]
      exact ⟨rfl, hrdF _ _ hrdz, HZ.out⟩
    by_cases m2 : m = 2
    · subst m2
      have hmaj : x.major = 2 := hmx.symm
      clear hmx hkd
      by_cases hbad : x.op = true ∨ s.size - (p + x.size) < x.n
      · obtain ⟨hst, hspec⟩ := str_bad d hx hmaj (by omega) hbad
        have hu := readBytes_any 9223372036854775807 ⟨HRD1.out, HF.out.1, HF.out.2⟩ (by decide) (by decide)
        rw [hst] at hu
        simp only [] at hu
        have HU := Lib.hid hu; clear hu hst
        have HSPEC := Lib.hid hspec; clear hspec
        have HBAD := Lib.hid hbad; clear hbad
        have HX := Lib.hid (And.intro hx (And.intro hpk hmaj)); clear hx hpk hmaj hlen
        go_wp2_with fail
        refine HU.out.mono ?_
        rintro e wz ⟨rfl, hrdz, hoz⟩
        have HPZ := Lib.hid (HPR.out.step hblt hoz); clear hoz c0 c1
        have r0 := HPZ.out.r0
        have r1 := HPZ.out.r1
        have r2 := HPZ.out.r2
        have r3 := HPZ.out.r3
        have r4 := HPZ.out.r4
        have rf := HPZ.out.rf
        go_wp2
        generalize hF : ((((wz.setCell ⟨w.heap.size + 1, 0, none⟩ (.int .i64 2)).setCell ⟨w.heap.size + 1, 1, none⟩ (.int .u64 0)).setCell ⟨w.heap.size + 1, 2, none⟩ (.string ⟨#[]⟩)).setCell ⟨w.heap.size + 1, 3, none⟩ (.slice none 0 0)).setCell ⟨w.heap.size + 1, 4, none⟩ (.bool false) = F
        obtain ⟨⟨f0, f1, f2, f3, f4⟩, hoF, hrdF, _, _⟩ := HPZ.out.end_ hblt _ _ _ _ _ F hF.symm
        clear hF
        refine bodyPost_ret (v := .agg #[.int .i64 2, .int .u64 0, .string ⟨#[]⟩, .slice none 0 0, .bool false]) (by simp [results, Try.results28, go_sem, f0, f1, f2, f3, f4]) rfl ⟨.mk 2 0 ⟨#[]⟩ [] false, _, rfl, liesIn_leaf F _ 2 0 ⟨#[]⟩ false (by decide) (by decide) (by decide), hoF, ?_⟩
        rw [HSPEC.out]
        exact ⟨hrdF _ _ hrdz, by decide, HF.out.2⟩
      · obtain ⟨hst, hspec, hcsz, hend⟩ := str_good d hx hmaj (by omega) HZ.out HS47.out hbad
        have hu := readBytes_any 9223372036854775807 ⟨HRD1.out, HF.out.1, HF.out.2⟩ (by decide) (by decide)
        rw [hst] at hu
        simp only [] at hu
        generalize cutOf s (p + x.size) x.n = S at *
        have HU := Lib.hid hu; clear hu hst
        have HSPEC := Lib.hid hspec; clear hspec
        have HBAD := Lib.hid (And.intro hbad (And.intro hend hcsz)); clear hbad hend hcsz
        have HX := Lib.hid (And.intro hx (And.intro hpk hmaj)); clear hx hpk hmaj hlen
        go_wp2_with fail
        refine HU.out.mono ?_
        rintro e wz ⟨rfl, hrdz, hoz⟩
        have HPZ := Lib.hid (HPR.out.step hblt hoz); clear hoz c0 c1
        have r0 := HPZ.out.r0
        have r1 := HPZ.out.r1
        have r2 := HPZ.out.r2
        have r3 := HPZ.out.r3
        have r4 := HPZ.out.r4
        have rf := HPZ.out.rf
        go_wp2
        generalize hF : ((((wz.setCell ⟨w.heap.size + 1, 0, none⟩ (.int .i64 2)).setCell ⟨w.heap.size + 1, 1, none⟩ (.int .u64 0)).setCell ⟨w.heap.size + 1, 2, none⟩ (.string S)).setCell ⟨w.heap.size + 1, 3, none⟩ (.slice none 0 0)).setCell ⟨w.heap.size + 1, 4, none⟩ (.bool false) = F
        obtain ⟨⟨f0, f1, f2, f3, f4⟩, hoF, hrdF, _, _⟩ := HPZ.out.end_ hblt _ _ _ _ _ F hF.symm
        clear hF
        refine bodyPost_ret (v := .agg #[.int .i64 2, .int .u64 0, .string S, .slice none 0 0, .bool false]) (by simp [results, Try.results28, go_sem, f0, f1, f2, f3, f4]) rfl ⟨.mk 2 0 S [] false, _, rfl, liesIn_leaf F _ 2 0 S false (by decide) (by decide) (HBAD.out.2.2), hoF, ?_⟩
        rw [HSPEC.out]
        exact ⟨rfl, by rw [← Nat.add_assoc]; exact hrdF _ _ hrdz, HBAD.out.2.1⟩
    by_cases m3 : m = 3
    · subst m3
      have hmaj : x.major = 3 := hmx.symm
      clear hmx hkd
      by_cases hbad : x.op = true ∨ s.size - (p + x.size) < x.n
      · obtain ⟨hst, hspec⟩ := str_bad d hx hmaj (by omega) hbad
        have hu := readText_any 9223372036854775807 ⟨HRD1.out, HF.out.1, HF.out.2⟩ (by decide) (by decide)
        rw [hst] at hu
        simp only [] at hu
        have HU := Lib.hid hu; clear hu hst
        have HSPEC := Lib.hid hspec; clear hspec
        have HBAD := Lib.hid hbad; clear hbad
        have HX := Lib.hid (And.intro hx (And.intro hpk hmaj)); clear hx hpk hmaj hlen
        go_wp2_with fail
        refine HU.out.mono ?_
        rintro e wz ⟨rfl, hrdz, hoz⟩
        have HPZ := Lib.hid (HPR.out.step hblt hoz); clear hoz c0 c1
        have r0 := HPZ.out.r0
        have r1 := HPZ.out.r1
        have r2 := HPZ.out.r2
        have r3 := HPZ.out.r3
        have r4 := HPZ.out.r4
        have rf := HPZ.out.rf
        go_wp2
        generalize hF : ((((wz.setCell ⟨w.heap.size + 1, 0, none⟩ (.int .i64 3)).setCell ⟨w.heap.size + 1, 1, none⟩ (.int .u64 0)).setCell ⟨w.heap.size + 1, 2, none⟩ (.string ⟨#[]⟩)).setCell ⟨w.heap.size + 1, 3, none⟩ (.slice none 0 0)).setCell ⟨w.heap.size + 1, 4, none⟩ (.bool false) = F
        obtain ⟨⟨f0, f1, f2, f3, f4⟩, hoF, hrdF, _, _⟩ := HPZ.out.end_ hblt _ _ _ _ _ F hF.symm
        clear hF
        refine bodyPost_ret (v := .agg #[.int .i64 3, .int .u64 0, .string ⟨#[]⟩, .slice none 0 0, .bool false]) (by simp [results, Try.results28, go_sem, f0, f1, f2, f3, f4]) rfl ⟨.mk 3 0 ⟨#[]⟩ [] false, _, rfl, liesIn_leaf F _ 3 0 ⟨#[]⟩ false (by decide) (by decide) (by decide), hoF, ?_⟩
        rw [HSPEC.out]
        exact ⟨hrdF _ _ hrdz, by decide, HF.out.2⟩
      · obtain ⟨hst, hspec, hcsz, hend⟩ := str_good d hx hmaj (by omega) HZ.out HS47.out hbad
        have hu := readText_any 9223372036854775807 ⟨HRD1.out, HF.out.1, HF.out.2⟩ (by decide) (by decide)
        rw [hst] at hu
        simp only [] at hu
        generalize cutOf s (p + x.size) x.n = S at *
        have HU := Lib.hid hu; clear hu hst
        have HSPEC := Lib.hid hspec; clear hspec
        have HBAD := Lib.hid (And.intro hbad (And.intro hend hcsz)); clear hbad hend hcsz
        have HX := Lib.hid (And.intro hx (And.intro hpk hmaj)); clear hx hpk hmaj hlen
        go_wp2_with fail
        refine HU.out.mono ?_
        rintro e wz ⟨rfl, hrdz, hoz⟩
        have HPZ := Lib.hid (HPR.out.step hblt hoz); clear hoz c0 c1
        have r0 := HPZ.out.r0
        have r1 := HPZ.out.r1
        have r2 := HPZ.out.r2
        have r3 := HPZ.out.r3
        have r4 := HPZ.out.r4
        have rf := HPZ.out.rf
        go_wp2
        generalize hF : ((((wz.setCell ⟨w.heap.size + 1, 0, none⟩ (.int .i64 3)).setCell ⟨w.heap.size + 1, 1, none⟩ (.int .u64 0)).setCell ⟨w.heap.size + 1, 2, none⟩ (.string S)).setCell ⟨w.heap.size + 1, 3, none⟩ (.slice none 0 0)).setCell ⟨w.heap.size + 1, 4, none⟩ (.bool false) = F
        obtain ⟨⟨f0, f1, f2, f3, f4⟩, hoF, hrdF, _, _⟩ := HPZ.out.end_ hblt _ _ _ _ _ F hF.symm
        clear hF
        refine bodyPost_ret (v := .agg #[.int .i64 3, .int .u64 0, .string S, .slice none 0 0, .bool false]) (by simp [results, Try.results28, go_sem, f0, f1, f2, f3, f4]) rfl ⟨.mk 3 0 S [] false, _, rfl, liesIn_leaf F _ 3 0 S false (by decide) (by decide) (HBAD.out.2.2), hoF, ?_⟩
        rw [HSPEC.out]
        exact ⟨rfl, by rw [← Nat.add_assoc]; exact hrdF _ _ hrdz, HBAD.out.2.1⟩
    have m4 : m = 4 := by omega
    subst m4
    have hu := HARRAY.out w1 HRD1.out x hx hmx.symm
    have HU := Lib.hid hu; clear hu
    have HX := Lib.hid (And.intro hx (And.intro hpk (And.intro hmx hkd))); clear hx hpk hlen hmx hkd
    go_wp2_with fail
    refine HU.out.mono ?_
    rintro e wz ⟨y, v, rfl, hly, hoz, haft⟩
    obtain ⟨A, cap, rfl⟩ := hly.slice
    have HPZ := Lib.hid (HPR.out.step hblt hoz); clear hoz c0 c1
    have HLY := Lib.hid hly; clear hly
    have HAFT := Lib.hid haft; clear haft
    simp only [itV]
    have r0 := HPZ.out.r0
    have r1 := HPZ.out.r1
    have r2 := HPZ.out.r2
    have r3 := HPZ.out.r3
    have r4 := HPZ.out.r4
    have rf := HPZ.out.rf
    go_wp2
    generalize hF : ((((wz.setCell ⟨w.heap.size + 1, 0, none⟩ (.int .i64 y.kind)).setCell ⟨w.heap.size + 1, 1, none⟩ (.int .u64 y.n)).setCell ⟨w.heap.size + 1, 2, none⟩ (.string y.s)).setCell ⟨w.heap.size + 1, 3, none⟩ (.slice A y.l.length cap)).setCell ⟨w.heap.size + 1, 4, none⟩ (.bool y.opn) = F
    obtain ⟨⟨f0, f1, f2, f3, f4⟩, hoF, hrdF, hothF, hszF⟩ := HPZ.out.end_ hblt _ _ _ _ _ F hF.symm
    clear hF
    have hlies := HLY.out.keep (w' := F) (Q' := News w F) (fun k hk => by
      have h1 := HPR.out.lt
      obtain ⟨k1, k2⟩ := hk
      exact ⟨hothF k (by omega), by omega, by omega⟩)
    refine bodyPost_ret (v := .agg #[.int .i64 y.kind, .int .u64 y.n, .string y.s, .slice A y.l.length cap, .bool y.opn]) (by simp [results, Try.results28, go_sem, f0, f1, f2, f3, f4]) rfl ⟨y, _, rfl, hlies, hoF, ?_⟩
    have ha := HAFT.out
    generalize readItem (d + 1) (s.data.toList.drop p) = R at *
    cases R with
    | ok z u => exact ⟨ha.1, hrdF _ _ ha.2.1, ha.2.2⟩
    | err a c => exact ⟨hrdF _ _ ha.1, ha.2.1, ha.2.2⟩
  · have hspec := HBS.out (by decide)
    have HSPEC := Lib.hid hspec; clear hspec
    have hc : (2 : Int) ≠ 0 := by decide
    have HC := Lib.hid hc; clear hc
    go_enter Try.func28, Try.ntmps28
    go_wp2_with fail
    refine (HKIND.out _ ((HRD.out.alloc _).alloc _)).mono ?_
    rintro e w1 ⟨rfl, hrd1, ho1⟩
    have HPR := Lib.hid ((PRes.new w s b).step hblt ho1); clear ho1
    have HRD1 := Lib.hid hrd1; clear hrd1
    have c0 := HPR.out.c0
    have c1 := HPR.out.c1
    by_cases m0 : m = 0
    · subst m0
      have hu := uint_any ⟨HRD1.out, HF.out.1, HF.out.2⟩
      rw [uint_failed s p HC.out] at hu
      simp only [] at hu
      have HU := Lib.hid hu; clear hu
      go_wp2_with fail
      refine HU.out.mono ?_
      rintro e wz ⟨rfl, hrdz, hoz⟩
      have HPZ := Lib.hid (HPR.out.step hblt hoz); clear hoz c0 c1
      have r0 := HPZ.out.r0
      have r1 := HPZ.out.r1
      have r2 := HPZ.out.r2
      have r3 := HPZ.out.r3
      have r4 := HPZ.out.r4
      have rf := HPZ.out.rf
      go_wp2
      generalize hF : ((((wz.setCell ⟨w.heap.size + 1, 0, none⟩ (.int .i64 0)).setCell ⟨w.heap.size + 1, 1, none⟩ (.int .u64 0)).setCell ⟨w.heap.size + 1, 2, none⟩ (.string ⟨#[]⟩)).setCell ⟨w.heap.size + 1, 3, none⟩ (.slice none 0 0)).setCell ⟨w.heap.size + 1, 4, none⟩ (.bool false) = F
      obtain ⟨⟨f0, f1, f2, f3, f4⟩, hoF, hrdF, _, _⟩ := HPZ.out.end_ hblt _ _ _ _ _ F hF.symm
      clear hF
      refine bodyPost_ret (v := .agg #[.int .i64 0, .int .u64 0, .string ⟨#[]⟩, .slice none 0 0, .bool false]) (by simp [results, Try.results28, go_sem, f0, f1, f2, f3, f4]) rfl ⟨.mk 0 0 ⟨#[]⟩ [] false, _, rfl, liesIn_leaf F _ 0 0 ⟨#[]⟩ false (by decide) (by decide) (by decide), hoF, ?_⟩
      rw [HSPEC.out]
      exact ⟨hrdF _ _ hrdz, HC.out, HF.out.2⟩
    by_cases m2 : m = 2
    · subst m2
      have hu := readBytes_any 9223372036854775807 ⟨HRD1.out, HF.out.1, HF.out.2⟩ (by decide) (by decide)
      rw [str_failed s p 2 _ HC.out (by decide)] at hu
      simp only [] at hu
      have HU := Lib.hid hu; clear hu
      go_wp2_with fail
      refine HU.out.mono ?_
      rintro e wz ⟨rfl, hrdz, hoz⟩
      have HPZ := Lib.hid (HPR.out.step hblt hoz); clear hoz c0 c1
      have r0 := HPZ.out.r0
      have r1 := HPZ.out.r1
      have r2 := HPZ.out.r2
      have r3 := HPZ.out.r3
      have r4 := HPZ.out.r4
      have rf := HPZ.out.rf
      go_wp2
      generalize hF : ((((wz.setCell ⟨w.heap.size + 1, 0, none⟩ (.int .i64 2)).setCell ⟨w.heap.size + 1, 1, none⟩ (.int .u64 0)).setCell ⟨w.heap.size + 1, 2, none⟩ (.string ⟨#[]⟩)).setCell ⟨w.heap.size + 1, 3, none⟩ (.slice none 0 0)).setCell ⟨w.heap.size + 1, 4, none⟩ (.bool false) = F
      obtain ⟨⟨f0, f1, f2, f3, f4⟩, hoF, hrdF, _, _⟩ := HPZ.out.end_ hblt _ _ _ _ _ F hF.symm
      clear hF
      refine bodyPost_ret (v := .agg #[.int .i64 2, .int .u64 0, .string ⟨#[]⟩, .slice none 0 0, .bool false]) (by simp [results, Try.results28, go_sem, f0, f1, f2, f3, f4]) rfl ⟨.mk 2 0 ⟨#[]⟩ [] false, _, rfl, liesIn_leaf F _ 2 0 ⟨#[]⟩ false (by decide) (by decide) (by decide), hoF, ?_⟩
      rw [HSPEC.out]
      exact ⟨hrdF _ _ hrdz, HC.out, HF.out.2⟩
    by_cases m3 : m = 3
    · subst m3
      have hu := readText_any 9223372036854775807 ⟨HRD1.out, HF.out.1, HF.out.2⟩ (by decide) (by decide)
      rw [str_failed s p 3 _ HC.out (by decide)] at hu
      simp only [] at hu
      have HU := Lib.hid hu; clear hu
      go_wp2_with fail
      refine HU.out.mono ?_
      rintro e wz ⟨rfl, hrdz, hoz⟩
      have HPZ := Lib.hid (HPR.out.step hblt hoz); clear hoz c0 c1
      have r0 := HPZ.out.r0
      have r1 := HPZ.out.r1
      have r2 := HPZ.out.r2
      have r3 := HPZ.out.r3
      have r4 := HPZ.out.r4
      have rf := HPZ.out.rf
      go_wp2
      generalize hF : ((((wz.setCell ⟨w.heap.size + 1, 0, none⟩ (.int .i64 3)).setCell ⟨w.heap.size + 1, 1, none⟩ (.int .u64 0)).setCell ⟨w.heap.size + 1, 2, none⟩ (.string ⟨#[]⟩)).setCell ⟨w.heap.size + 1, 3, none⟩ (.slice none 0 0)).setCell ⟨w.heap.size + 1, 4, none⟩ (.bool false) = F
      obtain ⟨⟨f0, f1, f2, f3, f4⟩, hoF, hrdF, _, _⟩ := HPZ.out.end_ hblt _ _ _ _ _ F hF.symm
      clear hF
      refine bodyPost_ret (v := .agg #[.int .i64 3, .int .u64 0, .string ⟨#[]⟩, .slice none 0 0, .bool false]) (by simp [results, Try.results28, go_sem, f0, f1, f2, f3, f4]) rfl ⟨.mk 3 0 ⟨#[]⟩ [] false, _, rfl, liesIn_leaf F _ 3 0 ⟨#[]⟩ false (by decide) (by decide) (by decide), hoF, ?_⟩
      rw [HSPEC.out]
      exact ⟨hrdF _ _ hrdz, HC.out, HF.out.2⟩
    by_cases m4 : m = 4
    · subst m4
      have hu := array_none L s b (by omega) _ p p _ _ ⟨HRD1.out, HF.out.1, HF.out.2⟩ (arr_failed s p HC.out)
      simp only [pV] at hu
      have HU := Lib.hid hu; clear hu
      go_wp2_with fail
      refine HU.out.mono ?_
      rintro e wz ⟨y, v, rfl, hly, hoz, hrdz⟩
      obtain ⟨A, cap, rfl⟩ := hly.slice
      have HPZ := Lib.hid (HPR.out.step hblt hoz); clear hoz c0 c1
      have HLY := Lib.hid hly; clear hly
      simp only [itV]
      have r0 := HPZ.out.r0
      have r1 := HPZ.out.r1
      have r2 := HPZ.out.r2
      have r3 := HPZ.out.r3
      have r4 := HPZ.out.r4
      have rf := HPZ.out.rf
      go_wp2
      generalize hF : ((((wz.setCell ⟨w.heap.size + 1, 0, none⟩ (.int .i64 y.kind)).setCell ⟨w.heap.size + 1, 1, none⟩ (.int .u64 y.n)).setCell ⟨w.heap.size + 1, 2, none⟩ (.string y.s)).setCell ⟨w.heap.size + 1, 3, none⟩ (.slice A y.l.length cap)).setCell ⟨w.heap.size + 1, 4, none⟩ (.bool y.opn) = F
      obtain ⟨⟨f0, f1, f2, f3, f4⟩, hoF, hrdF, hothF, hszF⟩ := HPZ.out.end_ hblt _ _ _ _ _ F hF.symm
      clear hF
      have hlies := HLY.out.keep (w' := F) (Q' := News w F) (fun k hk => by
        have h1 := HPR.out.lt
        obtain ⟨k1, k2⟩ := hk
        exact ⟨hothF k (by omega), by omega, by omega⟩)
      refine bodyPost_ret (v := .agg #[.int .i64 y.kind, .int .u64 y.n, .string y.s, .slice A y.l.length cap, .bool y.opn]) (by simp [results, Try.results28, go_sem, f0, f1, f2, f3, f4]) rfl ⟨y, _, rfl, hlies, hoF, ?_⟩
      rw [HSPEC.out]
      exact ⟨hrdF _ _ hrdz, HC.out, HF.out.2⟩
    have g0 : ((m : Int) == 0) = false := by simp; omega
    have g2 : ((m : Int) == 2) = false := by simp; omega
    have g3 : ((m : Int) == 3) = false := by simp; omega
    have g4 : ((m : Int) == 4) = false := by simp; omega
    have k2 : ¬ (m : Int) = 2 := by omega
    have k3 : ¬ (m : Int) = 3 := by omega
    have k4 : ¬ (m : Int) = 4 := by omega
    have hrdz := HRD1.out
    have HRZ := Lib.hid hrdz; clear hrdz c0 c1
    have r0 := HPR.out.r0
    have r1 := HPR.out.r1
    have r2 := HPR.out.r2
    have r3 := HPR.out.r3
    have r4 := HPR.out.r4
    have rf := HPR.out.rf
    go_wp2
    generalize hF : ((((w1.setCell ⟨w.heap.size + 1, 0, none⟩ (.int .i64 0)).setCell ⟨w.heap.size + 1, 1, none⟩ (.int .u64 0)).setCell ⟨w.heap.size + 1, 2, none⟩ (.string ⟨#[]⟩)).setCell ⟨w.heap.size + 1, 3, none⟩ (.slice none 0 0)).setCell ⟨w.heap.size + 1, 4, none⟩ (.bool false) = F
    obtain ⟨⟨f0, f1, f2, f3, f4⟩, hoF, hrdF, _, _⟩ := HPR.out.end_ hblt _ _ _ _ _ F hF.symm
    clear hF
    refine bodyPost_ret (v := .agg #[.int .i64 0, .int .u64 0, .string ⟨#[]⟩, .slice none 0 0, .bool false]) (by simp [results, Try.results28, go_sem, f0, f1, f2, f3, f4]) rfl ⟨.mk 0 0 ⟨#[]⟩ [] false, _, rfl, liesIn_leaf F _ 0 0 ⟨#[]⟩ false (by decide) (by decide) (by decide), hoF, ?_⟩
    rw [HSPEC.out]
    exact ⟨hrdF _ _ HRZ.out, HC.out, HF.out.2⟩

/-- item reads as readItem says. -/
theorem item_any (s : ByteArray) (b : Nat) (hs47 : s.size ≤ 140737488355328) : ∀ (d L : Nat), L + d = 9 → ∀ (w : World) (p : Nat), Ok w b s p 0 → Calls Try.prog 28 #[pV s b, .int .i64 L] w (ItemPost d s b p w)
  | 0, L, hL, w, p, h => by
    obtain rfl : L = 9 := by omega
    exact item_zero s b w p h
  | d + 1, L, hL, w, p, h => item_succ d L s b (by omega) hs47 (fun w p h => item_any s b hs47 d (L + 1) (by omega) w p h) w p h

end Go.Proofs.Ytpmepnejjjlodaa
