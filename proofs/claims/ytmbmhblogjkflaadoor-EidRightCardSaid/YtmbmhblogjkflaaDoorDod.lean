/-
  Contracts of eid.number, guess and Parse. Conditions: the text has at most a thousand bytes; the library's variables lie as the program's text lays them.
-/
import Derived.Test.YtmbmhblogjkflaaDoorDob
namespace Go.Proofs.YtmbmhblogjkflaaDoor
namespace Eid
open Go.ChangeShapes Go.WideShapes Go.ChangeAt Go.RowKit
set_option linter.unusedVariables false
set_option linter.unusedSimpArgs false
set_option maxRecDepth 100000

/-! ### Plain -/
theorem valOn_le (l : List Nat) : ∀ a, a ≤ valOn a l := by
  induction l with
  | nil => intro a; exact Nat.le_refl _
  | cons c l ih =>
    intro a
    have := ih (a * 10 + (c - 48))
    show a ≤ valOn (a * 10 + (c - 48)) l
    omega
theorem parse_val (l : List UInt8) : ∀ a, (∀ c ∈ l.map UInt8.toNat, isDig c) → valOn a (l.map UInt8.toNat) ≤ 18446744073709551615 → Lib.parseUintM 18446744073709551615 a l = .ok (valOn a (l.map UInt8.toNat)) := by
  induction l with
  | nil => intro a _ _; rfl
  | cons c l ih =>
    intro a hd hv
    have hc : 48 ≤ c.toNat ∧ c.toNat ≤ 57 := hd c.toNat (by simp)
    have hv' : valOn (a * 10 + (c.toNat - 48)) (l.map UInt8.toNat) ≤ 18446744073709551615 := hv
    have h1 := valOn_le (l.map UInt8.toNat) (a * 10 + (c.toNat - 48))
    unfold Lib.parseUintM
    rw [if_pos hc, if_neg (by omega), if_neg (by omega), ih _ (fun d hd' => hd d (by simp at hd' ⊢; exact .inr hd')) hv']
    rfl
theorem parse_dig {n : Nat} (h : n < 18446744073709551616) : Lib.parseUintB 64 (digB n).data.toList = .ok n := by
  have e : (digB n).data.toList = Lib.decDigits n := by unfold digB; simp
  have hm : (Lib.decDigits n).map UInt8.toNat = dig n := dec_dig 19 n (by omega)
  have hne : Lib.decDigits n ≠ [] := fun h => by
    rw [h] at hm
    exact dig_ne n hm.symm
  unfold Lib.parseUintB
  rw [e, if_neg hne]
  have hv : valOn 0 ((Lib.decDigits n).map UInt8.toNat) = n := by rw [hm]; exact val_dig (by omega)
  have := parse_val (Lib.decDigits n) 0 (by rw [hm]; exact dig_digits n) (by rw [hv]; omega)
  rw [hv] at this
  exact this
theorem index_dot (a b : List UInt8) (h : (46 : UInt8) ∉ a) : Lib.index (a ++ 46 :: b) [46] = (a.length : Int) := by
  induction a with
  | nil => simp [Lib.index, List.isPrefixOf]
  | cons c a ih =>
    have hc : ¬ (46 : UInt8) = c := fun e => h (by simp [e])
    have ih' := ih fun m => h (List.mem_cons_of_mem _ m)
    have hp : ([46] : List UInt8).isPrefixOf (c :: (a ++ 46 :: b)) = false := by simp [List.isPrefixOf, hc]
    show Lib.index (c :: (a ++ 46 :: b)) [46] = _
    unfold Lib.index
    rw [hp, ih']
    have h1 : ((a.length : Int) == -1) = false := by rw [beq_eq_false_iff_ne]; omega
    simp only [Bool.false_eq_true, if_false, h1, List.length_cons]
    omega
theorem cut_dot (a b : List UInt8) (h : (46 : UInt8) ∉ a) : Lib.cut (a ++ 46 :: b) [46] = (a, b, true) := by
  unfold Lib.cut
  rw [index_dot a b h, if_pos (by omega)]
  have e : ((a.length : Int)).toNat = a.length := by omega
  rw [e, List.take_left]
  have : (a ++ 46 :: b).drop (a.length + ([46] : List UInt8).length) = b := by
    rw [show a ++ 46 :: b = (a ++ [46]) ++ b by simp, show a.length + ([46] : List UInt8).length = (a ++ [46]).length by simp, List.drop_left]
  rw [this]
theorem dig_nodot (n : Nat) (h : n < 18446744073709551616) : (46 : UInt8) ∉ (digB n).data.toList := fun hm => by
  have e : (digB n).data.toList = Lib.decDigits n := by unfold digB; simp
  rw [e] at hm
  have h1 : (46 : UInt8).toNat ∈ (Lib.decDigits n).map UInt8.toNat := List.mem_map_of_mem hm
  rw [dec_dig 19 n (by omega)] at h1
  exact dot_not (dig_digits n) h1
theorem ba_of (l : List UInt8) (b : ByteArray) (h : b.data.toList = l) : (⟨l.toArray⟩ : ByteArray) = b := by
  subst h
  cases b
  simp
theorem ba_list (b : ByteArray) : (⟨b.data.toList.toArray⟩ : ByteArray) = b := ba_of _ b rfl
theorem data_app (a b : ByteArray) : (a ++ b).data.toList = a.data.toList ++ b.data.toList := by simp
/-- What guess makes of a text. -/
def GuessR (s : ByteArray) (e : Nm) : Prop := e.name.size ≤ 1099511627776 ∧ ∀ f, Right f → txtB f = s → e = f
theorem prefix_dtn (s : ByteArray) (h : Lib.hasPrefix s.data.toList dtnB.data.toList = true) : ∀ f, Right f → txtB f = s → (⟨1, ⟨(Lib.trimPrefix s.data.toList dtnB.data.toList).toArray⟩, 0, 0⟩ : Nm) = f := by
  intro f hf ht
  unfold Lib.trimPrefix
  rw [if_pos h]
  obtain ⟨sc, nm, nd, sv⟩ := f
  rcases hf with ⟨h1, h2, h3, h4⟩ | ⟨h1, h2, h3, h4, h5⟩
  · exfalso
    unfold txtB at ht
    rw [if_neg (show ¬ sc = 1 by have : sc = 2 := h1; omega)] at ht
    rw [← ht, data_app, data_app, data_app] at h
    unfold Lib.hasPrefix at h
    revert h
    show (([100, 116, 110, 58] : List UInt8).isPrefixOf (([105, 112, 110, 58] : List UInt8) ++ _ ++ _ ++ _)) = true → False
    simp [List.isPrefixOf]
  · have h1' : sc = 1 := h1
    have h2' : nd = 0 := h2
    have h3' : sv = 0 := h3
    subst h1' h2' h3'
    have ht' : dtnB ++ nm = s := ht
    rw [← ht', data_app, List.drop_left, ba_list]
theorem guess_ipn (s : ByteArray) (h : Lib.hasPrefix s.data.toList dtnB.data.toList = false) (f : Nm) (hf : Right f) (ht : txtB f = s) : f.scheme = 2 ∧ f.name = ⟨#[]⟩ ∧ f.node ≤ 4294967295 ∧ f.service ≤ 4294967295 ∧ Lib.cut (Lib.trimPrefix s.data.toList ipnB.data.toList) dotB.data.toList = ((digB f.node).data.toList, (digB f.service).data.toList, true) := by
  rcases hf with ⟨h1, h2, h3, h4⟩ | ⟨h1, h2, h3, h4, h5⟩
  · refine ⟨h1, h2, h3, h4, ?_⟩
    unfold txtB at ht
    rw [if_neg (by omega)] at ht
    have hd : s.data.toList = ipnB.data.toList ++ ((digB f.node).data.toList ++ 46 :: (digB f.service).data.toList) := by
      rw [← ht, data_app, data_app, data_app]
      show _ ++ _ ++ [46] ++ _ = _
      simp
    have hp : Lib.hasPrefix s.data.toList ipnB.data.toList = true := by
      unfold Lib.hasPrefix
      rw [hd]
      exact List.isPrefixOf_iff_prefix.2 (List.prefix_append _ _)
    unfold Lib.trimPrefix
    rw [if_pos hp, hd, List.drop_left]
    exact cut_dot _ _ (dig_nodot _ (by omega))
  · exfalso
    unfold txtB at ht
    rw [if_pos h1] at ht
    rw [← ht, data_app] at h
    unfold Lib.hasPrefix at h
    have := List.isPrefixOf_iff_prefix.2 (List.prefix_append dtnB.data.toList f.name.data.toList)
    rw [this] at h
    cases h

/-! ### number -/
set_option maxHeartbeats 4000000 in
theorem number_any (s : ByteArray) (hs : s.size ≤ 281474976710656) (w : World) (hk : Kon w) : Calls Tryd.prog 47 #[.string s] w fun e w' => ∃ u : Nat, e = .returned (.int .u64 (u : Nat)) ∧ (∀ n, n < 18446744073709551616 → s = digB n → u = n) ∧ Below w.heap.size w w' := by
  have key : Hid (∃ u : Nat, (∀ n, n < 18446744073709551616 → s = digB n → u = n) ∧ Calls Tryd.prog 58 #[.string s, .int .i64 10, .int .i64 64] w fun e w' => ∃ v, e = .returned (.tuple #[.int .u64 (u : Nat), v]) ∧ Below w.heap.size w w') := by
    refine Lib.hid ?_
    cases hp : Lib.parseUintB 64 s.data.toList with
    | ok u =>
      refine ⟨u, fun n hn hse => ?_, ?_⟩
      · rw [hse, parse_dig hn] at hp
        injection hp with hp
        exact hp.symm
      · refine (Tryd.strconv_ParseUint_10_at64_ok s (by omega) u hp w).mono ?_
        rintro e w' ⟨rfl, h⟩
        refine ⟨_, rfl, ?_⟩
        rcases h with rfl | rfl
        · exact Below.refl _ _
        · exact Lib.bytesWorld_below _ _ _
    | «syntax» =>
      obtain ⟨ev, h1, h2⟩ := hk.syn
      refine ⟨0, fun n hn hse => ?_, ?_⟩
      · rw [hse, parse_dig hn] at hp; cases hp
      · refine (Tryd.strconv_ParseUint_10_at64_syntax s hs hp ev w h1 h2).mono ?_
        rintro e w' ⟨N, rfl, -, -, h⟩
        exact ⟨_, rfl, h⟩
    | range =>
      obtain ⟨ev, h1, h2⟩ := hk.rng
      refine ⟨18446744073709551615, fun n hn hse => ?_, ?_⟩
      · rw [hse, parse_dig hn] at hp; cases hp
      · refine (Tryd.strconv_ParseUint_10_at64_range s hs hp ev w h1 h2).mono ?_
        rintro e w' ⟨N, rfl, -, -, h⟩
        exact ⟨_, rfl, h⟩
  obtain ⟨u, hu, hc⟩ := key.out
  have HC := Lib.hid hc
  have HU := Lib.hid hu
  clear key hu hc hk hs
  go_enter Tryd.func47, Tryd.ntmps47
  go_wp2_with fail
  refine HC.out.mono ?_
  rintro e w' ⟨v, rfl, hb⟩
  have HB := Lib.hid hb; clear hb
  go_wp2
  go_ret
  exact ⟨u, rfl, HU.out, HB.out⟩

set_option maxHeartbeats 8000000 in
theorem guess_any (s : ByteArray) (hs : s.size ≤ 1000) (w : World) (hk : Kon w) : ∃ P : Nm → Prop, (∀ e, P e → GuessR s e) ∧ Calls Tryd.prog 36 #[.string s] w fun r w' => ∃ e, r = .returned (eV e) ∧ P e ∧ Below w.heap.size w w' := by
  refine ⟨GuessR s, fun _ h => h, ?_⟩
  have HP := Lib.hid (fun w => Tryd.strings_CutPrefix s dtnB w)
  have hz := EB.box1 w zeroE (Below.refl _ _)
  generalize hW : w.alloc (.cells (eCells zeroE) 24 (0, 0)) = w1 at hz
  have HZ := Lib.hid hz; clear hz
  have htl : (⟨(Lib.trimPrefix s.data.toList dtnB.data.toList).toArray⟩ : ByteArray).size ≤ 1000 := by
    show (Lib.trimPrefix s.data.toList dtnB.data.toList).toArray.size ≤ 1000
    unfold Lib.trimPrefix
    split <;> simp <;> omega
  cases hp : Lib.hasPrefix s.data.toList dtnB.data.toList with
  | true =>
    have hgood := prefix_dtn s hp
    rw [hp] at HP
    generalize (⟨(Lib.trimPrefix s.data.toList dtnB.data.toList).toArray⟩ : ByteArray) = nm at *
    have HG := Lib.hid (And.intro htl hgood)
    clear hgood htl hp hk hs
    obtain ⟨r0, r1, r2, r3⟩ := HZ.out.1.cells
    have rf := HZ.out.1.free
    simp only [eCells, zeroE, dtnB, Int.cast_ofNat_Int] at hW HP r0 r1 r2 r3
    go_enter Tryd.func36, Tryd.ntmps36
    go_wp2_with fail
    refine (HP.out _).mono ?_
    rintro r w' ⟨rfl, he⟩
    rw [he]; clear he
    go_wp2
    generalize hF : ((((w1.setCell ⟨w.heap.size, 0, none⟩ (.int .i64 1)).setCell ⟨w.heap.size, 1, none⟩ (.string nm)).setCell ⟨w.heap.size, 2, none⟩ (.int .u64 0)).setCell ⟨w.heap.size, 3, none⟩ (.int .u64 0)) = F
    obtain ⟨h1, h2, -⟩ := HZ.out.1.set_end (f := ⟨1, nm, 0, 0⟩) (B := w.heap.size) (Nat.le_refl _) F hF
    obtain ⟨f0, f1, f2, f3⟩ := h1.cells
    clear hF
    exact bodyPost_ret (v := eV ⟨1, nm, 0, 0⟩) (by simp [results, Tryd.results36, go_sem, f0, f1, f2, f3, eV]) rfl ⟨⟨1, nm, 0, 0⟩, rfl, ⟨Nat.le_trans HG.out.1 (by decide), HG.out.2⟩, HZ.out.2.trans h2⟩
  | false =>
    have hgood := fun f hf ht => guess_ipn s hp f hf ht
    rw [hp] at HP
    have HTP := Lib.hid (fun w => Tryd.strings_TrimPrefix s ipnB w)
    have hil : (⟨(Lib.trimPrefix s.data.toList ipnB.data.toList).toArray⟩ : ByteArray).size ≤ 1000 := by
      show (Lib.trimPrefix s.data.toList ipnB.data.toList).toArray.size ≤ 1000
      unfold Lib.trimPrefix
      split <;> simp <;> omega
    have hil2 : (Lib.trimPrefix s.data.toList ipnB.data.toList).length ≤ 1000 := by
      have h : (Lib.trimPrefix s.data.toList ipnB.data.toList).toArray.size ≤ 1000 := hil
      simpa using h
    obtain ⟨m, hm⟩ := (hk.below HZ.out.2).len
    have hcut := fun (W : World) (hW : Below w1.heap.size w1 W) => Tryd.strings_Cut (⟨(Lib.trimPrefix s.data.toList ipnB.data.toList).toArray⟩ : ByteArray) dotB m W (by omega) ((hW.cell (p := ⟨1, 0, none⟩) (cell_lt hm)).trans hm)
    have e1 : (⟨(Lib.trimPrefix s.data.toList ipnB.data.toList).toArray⟩ : ByteArray).data.toList = Lib.trimPrefix s.data.toList ipnB.data.toList := by simp
    rw [e1] at hcut
    obtain ⟨cp, hcp⟩ : ∃ c, c = Lib.cut (Lib.trimPrefix s.data.toList ipnB.data.toList) dotB.data.toList := ⟨_, rfl⟩
    have hcl : cp.1.length ≤ 1000 ∧ cp.2.1.length ≤ 1000 := by
      rw [hcp]
      unfold Lib.cut
      split
      · exact ⟨by simp; omega, by simp; omega⟩
      · exact ⟨hil2, by simp⟩
    rw [← hcp] at hcut hgood
    clear hcp
    obtain ⟨ca, cb, cc⟩ := cp
    have HN1 := Lib.hid (fun W (hW : Below w1.heap.size w1 W) => number_any ⟨ca.toArray⟩ (by show ca.toArray.size ≤ _; have := hcl.1; simp at this ⊢; omega) W ((hk.below HZ.out.2).below hW))
    have HN2 := Lib.hid (fun W (hW : Below w1.heap.size w1 W) => number_any ⟨cb.toArray⟩ (by show cb.toArray.size ≤ _; have := hcl.2; simp at this ⊢; omega) W ((hk.below HZ.out.2).below hW))
    have HCUT := Lib.hid hcut
    have HG := Lib.hid hgood
    clear hgood htl hk hs hp hcut hm e1 hil hil2 hcl
    generalize (⟨(Lib.trimPrefix s.data.toList ipnB.data.toList).toArray⟩ : ByteArray) = tp at *
    generalize (⟨(Lib.trimPrefix s.data.toList dtnB.data.toList).toArray⟩ : ByteArray) = td at *
    simp only [eCells, zeroE, dtnB, ipnB, dotB, Int.cast_ofNat_Int] at hW HP HTP HCUT
    go_enter Tryd.func36, Tryd.ntmps36
    go_wp2_with fail
    refine (HP.out _).mono ?_
    rintro r w' ⟨rfl, he⟩
    rw [he]; clear he
    go_wp2_with fail
    refine (HTP.out _).mono ?_
    rintro r w' ⟨rfl, he⟩
    rw [he]; clear he
    go_wp2_with fail
    refine (HCUT.out _ (Below.refl _ _)).mono ?_
    rintro r w' ⟨rfl, n, rfl⟩
    have hbd : Below w1.heap.size w1 (w1.drewN n) := ⟨rfl, rfl, rfl, Nat.le_refl _, fun _ _ => rfl⟩
    clear hW
    go_wp2_with fail
    refine (HN1.out _ hbd).mono ?_
    rintro r w2 ⟨u, rfl, hu, hb2⟩
    have hb2' := hbd.trans (hb2.mono hbd.size)
    clear hbd hb2
    have HU := Lib.hid hu; clear hu
    go_wp2_with fail
    refine (HN2.out _ hb2').mono ?_
    rintro r w3 ⟨v, rfl, hv, hb3⟩
    have hb3' := hb2'.trans (hb3.mono hb2'.size)
    clear hb2' hb3
    have HV := Lib.hid hv; clear hv
    have hz3 := HZ.out.1.below hb3' HZ.out.1.lt
    have HB3 := Lib.hid (And.intro hz3 (HZ.out.2.trans (hb3'.mono HZ.out.2.size))); clear hb3' hz3
    obtain ⟨r0, r1, r2, r3⟩ := HB3.out.1.cells
    have rf := HB3.out.1.free
    simp only [zeroE, Int.cast_ofNat_Int] at r0 r1 r2 r3
    go_wp2
    generalize hF : ((((w3.setCell ⟨w.heap.size, 0, none⟩ (.int .i64 2)).setCell ⟨w.heap.size, 1, none⟩ (.string ⟨#[]⟩)).setCell ⟨w.heap.size, 2, none⟩ (.int .u64 (u : Nat))).setCell ⟨w.heap.size, 3, none⟩ (.int .u64 (v : Nat))) = F
    obtain ⟨h1, h2, -⟩ := HB3.out.1.set_end (f := ⟨2, ⟨#[]⟩, u, v⟩) (B := w.heap.size) (Nat.le_refl _) F hF
    obtain ⟨f0, f1, f2, f3⟩ := h1.cells
    clear hF
    refine bodyPost_ret (v := eV ⟨2, ⟨#[]⟩, u, v⟩) (by simp [results, Tryd.results36, go_sem, f0, f1, f2, f3, eV]) rfl ⟨⟨2, ⟨#[]⟩, u, v⟩, rfl, ⟨by show (⟨#[]⟩ : ByteArray).size ≤ _; decide, fun f hf ht => ?_⟩, HB3.out.2.trans h2⟩
    obtain ⟨k1, k2, k3, k4, k5⟩ := HG.out f hf ht
    simp only [Prod.mk.injEq] at k5
    have hu := HU.out f.node (by omega) (ba_of _ _ k5.1.symm)
    have hv := HV.out f.service (by omega) (ba_of _ _ k5.2.1.symm)
    obtain ⟨sc, nm, nd, sv⟩ := f
    simp only at k1 k2 hu hv
    rw [k1, k2, hu, hv]
end Eid
end Go.Proofs.YtmbmhblogjkflaaDoor
