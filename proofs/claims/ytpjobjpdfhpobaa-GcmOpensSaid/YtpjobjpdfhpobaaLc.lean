/-
  The walk of GcmOpens. Conditions: the bit's number is a byte.
-/
import Derived.Test.YtpjobjpdfhpobaaLb
namespace Go.Proofs.Ytpjobjpdfhpobaa
namespace Gcm
open Go.ChangeShapes Go.WideShapes Go.ChangeAt Go.RowKit Go.Great Go.ChangeMaps
open Gf Aes
set_option linter.unusedVariables false
set_option maxRecDepth 100000

/-- A text with one bit otherwise is another. -/
theorem bent_ne (T : ByteArray) (q x z : Nat) (hq : q < T.size) (hx : (nums T)[q]? = some x) (hz : z < 256) (hxz : x ≠ z) : toB ((nums T).set q z) ≠ T := by
  intro h
  have e := congrArg nums h
  have hs : ∀ c ∈ (nums T).set q z, c < 256 := fun c hc => by
    rcases List.mem_or_eq_of_mem_set hc with h | h
    · exact nums_lt T c h
    · rw [h]; exact hz
  rw [nums_toB _ hs] at e
  have e2 : ((nums T).set q z)[q]? = (nums T)[q]? := by rw [e]
  rw [List.getElem?_set_self (by rw [nums_length]; exact hq), hx] at e2
  exact hxz (Option.some.inj e2).symm
theorem xor_pow_ne (x r : Nat) : x ≠ x ^^^ 2 ^ r := by
  intro h
  have e := congrArg (fun y => x ^^^ y) h
  simp only [Nat.xor_self, ← Nat.xor_assoc, Nat.zero_xor] at e
  exact absurd e.symm (Nat.ne_of_gt (Nat.two_pow_pos r))

set_option maxHeartbeats 8000000 in
theorem walk_opens (a b c d g : ByteArray) (bit : Nat) (w : World) (hbit : bit < 256) :
    Calls Try.prog 7 #[.agg #[.string a, .string b, .string c, .string d], .string g, .int .u8 (bit : Nat)] w fun e w' => e = .returned (.bool true) ∧ Below w.heap.size w w' := by
  have HS := Lib.hid (Ib.start w a b c d)
  have HBIT := Lib.hid hbit
  clear hbit
  go_enter Try.func7, Try.ntmps7
  go_wp2_with fail
  refine (awake_any _).mono ?_
  rintro e w1 ⟨rfl, hb1⟩
  have H1 := Lib.hid (HS.out.next hb1)
  clear hb1 HS
  obtain ⟨c0, c1, c2, c3⟩ := H1.out.hI.cells
  by_cases hf : Few a b c d
  · have HF := Lib.hid hf
    clear hf
    go_wp2_with fail
    refine (few_yes HF.out _).mono ?_
    rintro e w2 ⟨rfl, hb2⟩
    have H2 := Lib.hid (H1.out.next hb2)
    clear hb2 c0 c1 c2 c3 H1
    obtain ⟨c0, c1, c2, c3⟩ := H2.out.hI.cells
    by_cases hg : g.size ≤ 40
    · have g1 : ¬ (40 : Int) < (g.size : Int) := by omega
      have HG := Lib.hid hg
      clear hg
      have sc : c.size ≤ 1048576 := by have := HF.out.2.2.1; omega
      have sd : d.size ≤ 1048576 := by have := HF.out.2.2.2; omega
      have HSZ := Lib.hid (And.intro sc sd)
      clear sc sd
      go_wp2_with fail
      refine (seal_all a b c d _ HSZ.out.1 HSZ.out.2).mono ?_
      rintro e w3 ⟨rfl, hb3⟩
      have H3 := Lib.hid (H2.out.next hb3)
      clear hb3 c0 c1 c2 c3 H2
      obtain ⟨c0, c1, c2, c3⟩ := H3.out.hI.cells
      obtain ⟨S, hS⟩ : ∃ S, S = sealS a b c d := ⟨_, rfl⟩
      obtain ⟨T, hT⟩ : ∃ T, T = sealT a b c d := ⟨_, rfl⟩
      obtain ⟨E, hE⟩ : ∃ E, E = sealE a b := ⟨_, rfl⟩
      rw [← hS, ← hT, ← hE]
      have HST := Lib.hid (And.intro hS (And.intro hT hE))
      clear hS hT hE
      go_upto_if 46 with fail
      go_cut [10, 11, 12, 13, 14] (fun s10 s11 s12 s13 s14 wc => Ib w a b c d wc)
      case first =>
        by_cases hfit : Fit a b
        · have hE0 : ((E : Int) == 0) = true := by rw [HST.out.2.2, sealE_fit hfit]; rfl
          rw [hE0]
          have hSs : S.size = d.size := by rw [HST.out.1, sealS_size hfit]
          have hTs : T.size = 16 := by rw [HST.out.2.1, sealT_size hfit]
          have hob := open_back (s := c) (t := d) hfit
          rw [← HST.out.1, ← HST.out.2.1] at hob
          have C4 := Lib.hid (fun X => open_all a b c S T X HSZ.out.1 (by rw [hSs]; exact HSZ.out.2) (by omega))
          rw [hob.1, hob.2] at C4
          have HFIT := Lib.hid (And.intro hfit (And.intro hSs hTs))
          have eT : (T.size : Int) = 16 := by omega
          clear hob hfit hSs hTs hE0
          go_wp2_with fail
          refine (C4.out _).mono ?_
          rintro e w4 ⟨rfl, hb4⟩
          have H4 := Lib.hid (H3.out.next hb4)
          clear hb4 c0 c1 c2 c3 H3 C4
          obtain ⟨cap, W, hcv, hrow⟩ := bytes_row T w4
          have hIW := H4.out.next hrow.below
          obtain ⟨c0, c1, c2, c3⟩ := hIW.hI.cells
          obtain ⟨gB, hgB⟩ : ∃ gB, gB = w4.heap.size := ⟨_, rfl⟩
          rw [← hgB] at hcv hrow
          have hne : w.heap.size < gB := by
            have := (Array.getElem?_eq_some_iff.1 H4.out.hI).1
            omega
          obtain ⟨q, hq⟩ : ∃ q, q = bit / 8 % 16 := ⟨_, rfl⟩
          obtain ⟨q0, hq0⟩ : ∃ q0, q0 = bit / 8 := ⟨_, rfl⟩
          obtain ⟨r, hr⟩ : ∃ r, r = bit % 8 := ⟨_, rfl⟩
          have hrl : r < 8 := by omega
          have hql : q < 16 := by omega
          obtain ⟨x, hx⟩ : ∃ x, (nums T)[q]? = some x := ⟨_, List.getElem?_eq_getElem (by rw [nums_length]; have := HFIT.out.2.2; omega)⟩
          obtain ⟨y, hy⟩ : ∃ y, y = 2 ^ r := ⟨_, rfl⟩
          have hyl : y < 256 := by rw [hy]; exact Nat.lt_of_lt_of_le (Nat.pow_lt_pow_right (by decide) hrl) (by decide)
          obtain ⟨z, hz⟩ : ∃ z, z = x ^^^ y := ⟨_, rfl⟩
          have hxl : x < 256 := nums_lt T x (List.mem_of_getElem? hx)
          have hzl : z < 256 := by rw [hz]; exact Nat.xor_lt_two_pow (n := 8) hxl hyl
          have hxz : x ≠ z := by rw [hz, hy]; exact xor_pow_ne x r
          have cx := hrow.cell q x hx
          have fx := hrow.frozen q (by rw [nums_length]; have := HFIT.out.2.2; omega)
          have e1 : (bit : Int) / 8 = (q0 : Int) := by omega
          have e2 : (q0 : Int) % 16 = (q : Int) := by omega
          have e3 : (bit : Int) % 8 = (r : Int) := by omega
          have e4 := u8_xor_nat x y hxl hyl
          rw [← hz] at e4
          have e5 : (q : Int) < 16 := by omega
          have hst := hrow.set (j := q) (by rw [nums_length]; have := HFIT.out.2.2; omega) z
          have hR : Rw w gB ((nums T).set q z) (W.setCell ⟨gB, q, none⟩ (.int .u8 (z : Nat))) := ⟨hst.cell, hst.frozen, by omega, hst.lt, hIW.below.setCell (by simp only []; omega) _⟩
          have hI2 : In4 w.heap.size a b c d (W.setCell ⟨gB, q, none⟩ (.int .u8 (z : Nat))) := by
            unfold In4
            rw [heap_setCell_other _ _ _ _ (by simp only []; omega)]
            exact hIW.hI
          have hlen : ((nums T).set q z).length = 16 := by rw [List.length_set, nums_length]; exact HFIT.out.2.2
          have hsm : Small ((nums T).set q z) := fun c hc => by
            rcases List.mem_or_eq_of_mem_set hc with h | h
            · exact nums_lt T c h
            · rw [h]; exact hzl
          obtain ⟨T2, hT2⟩ : ∃ T2, T2 = toB ((nums T).set q z) := ⟨_, rfl⟩
          have hbk := hR.back hsm 16 cap hlen
          rw [← hT2] at hbk
          have hT2n : T2 ≠ T := by rw [hT2]; exact bent_ne T q x z (by rw [HFIT.out.2.2]; exact hql) hx hzl hxz
          have hT2s : T2.size = 16 := by rw [hT2, toB_size, hlen]
          have hoo := open_other (s := c) (t := d) (g := T2) HFIT.out.1 (by rw [← HST.out.2.1]; exact hT2n)
          rw [← HST.out.1] at hoo
          have C5 := Lib.hid (fun X => open_all a b c S T2 X HSZ.out.1 (by rw [HFIT.out.2.1]; exact HSZ.out.2) (by rw [hT2s]; decide))
          rw [hoo.1, hoo.2] at C5
          have H5 := Lib.hid (show Ib w a b c d (W.setCell ⟨gB, q, none⟩ (.int .u8 (z : Nat))) from ⟨hI2, hR.below⟩)
          obtain ⟨k0, k1, k2, k3⟩ := H5.out.hI.cells
          have e6 : (2 : Int) ^ r % 256 = (y : Int) := by
            have h1 : (2 : Int) ^ r = ((2 ^ r : Nat) : Int) := by simp
            rw [h1, ← hy]
            omega
          rw [HFIT.out.2.2] at hcv
          clear hq hq0 hr hx hy hz hxl hzl hyl hxz hT2 hT2n hT2s hoo hR hI2 hst hrow hgB hsm hlen hIW hne HST
          go_wp2_with fail
          refine (C5.out _).mono ?_
          rintro e w5 ⟨rfl, hb5⟩
          have H6 := Lib.hid (H5.out.next hb5)
          clear hb5 C5 H5 k0 k1 k2 k3 c0 c1 c2 c3 hcv hbk cx fx e1 e2 e3 e4 e5 e6 eT
          unfold noB
          go_wp2_with fail
          go_meet
          exact H6.out
        · have hE0 : ((E : Int) == 0) = false := by rw [HST.out.2.2, sealE_none hfit]; rfl
          rw [hE0]
          clear hfit hE0
          go_wp2_with fail
          go_meet
          exact H3.out
      case rest =>
        have HT := Lib.hid hcut
        clear hcut H3 c0 c1 c2 c3
        obtain ⟨c0, c1, c2, c3⟩ := HT.out.hI.cells
        go_wp2_with fail
        refine (open_all a b c d g _ HSZ.out.1 HSZ.out.2 (by have := HG.out; omega)).mono ?_
        rintro e w6 ⟨rfl, hb6⟩
        have H6 := Lib.hid (HT.out.next hb6)
        clear hb6 c0 c1 c2 c3 HT
        obtain ⟨c0, c1, c2, c3⟩ := H6.out.hI.cells
        obtain ⟨O, hO⟩ : ∃ O, O = openS a b c d g := ⟨_, rfl⟩
        obtain ⟨F, hF⟩ : ∃ F, F = openE a b c d g := ⟨_, rfl⟩
        have C7 := Lib.hid (fun X => ropen_all a b c d g X HSZ.out.1 HSZ.out.2)
        rw [← hO, ← hF] at C7 ⊢
        clear hO hF
        go_wp2_with fail
        refine (C7.out _).mono ?_
        rintro e w7 ⟨rfl, hb7⟩
        have H7 := Lib.hid (H6.out.next hb7)
        clear hb7 c0 c1 c2 c3
        go_wp2
        go_ret
        exact ⟨by simp, H7.out.below⟩
    · have g1 : (40 : Int) < (g.size : Int) := by omega
      clear hg c0 c1 c2 c3
      go_wp2_with fail
      refine (awake_any _).mono ?_
      rintro e w3 ⟨rfl, hb3⟩
      have H3 := Lib.hid (H2.out.next hb3)
      clear hb3
      go_wp2
      go_ret
      exact ⟨rfl, H3.out.below⟩
  · have HF := Lib.hid hf
    clear hf
    go_wp2_with fail
    refine (few_no HF.out _).mono ?_
    rintro e w2 ⟨rfl, hb2⟩
    have H2 := Lib.hid (H1.out.next hb2)
    clear hb2 c0 c1 c2 c3 H1
    go_wp2_with fail
    refine (awake_any _).mono ?_
    rintro e w3 ⟨rfl, hb3⟩
    have H3 := Lib.hid (H2.out.next hb3)
    clear hb3
    go_wp2
    go_ret
    exact ⟨rfl, H3.out.below⟩

end Gcm
end Go.Proofs.Ytpjobjpdfhpobaa
