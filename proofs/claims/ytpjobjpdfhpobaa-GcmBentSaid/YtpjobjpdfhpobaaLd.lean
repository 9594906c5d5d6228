/-
  The walk of GcmBent. Conditions: the place has 16 bits, the mask is a byte.
-/
import Derived.Test.YtpjobjpdfhpobaaLb
namespace Go.Proofs.Ytpjobjpdfhpobaa
namespace Gcm
open Go.ChangeShapes Go.WideShapes Go.ChangeAt Go.RowKit Go.Great Go.ChangeMaps
open Gf Aes
set_option linter.unusedVariables false
set_option maxRecDepth 100000

/-- What string(b[o:o+n]) reads. -/
theorem Rw.back_at {w X : World} {g : Nat} {l : List Nat} (h : Rw w g l X) (hs : Small l) (o n c : Nat) (hn : o + n ≤ l.length) : (convert 24 9 (.slice (some ⟨g, o, none⟩) n c)).run Try.prog X = .ok (.string (toB ((l.drop o).take n))) X := by
  have hlen : ((l.drop o).take n).length = n := by rw [List.length_take, List.length_drop]; omega
  have e : n = (((l.drop o).take n).map UInt8.ofNat).length := by rw [List.length_map, hlen]
  have h16 := run_convert_bytes_back (P := Try.prog) X 24 9 5 ⟨g, o, none⟩ c (((l.drop o).take n).map UInt8.ofNat) Try.underlying24 Try.underlying5 Try.underlying9 (fun j hj => by
    have hj' : j < ((l.drop o).take n).length := by rw [List.length_map] at hj; exact hj
    have hjo : o + j < l.length := by omega
    have e1 : ((l.drop o).take n)[j] = l[o + j] := by simp
    have hc := hs l[o + j] (List.getElem_mem hjo)
    have := h.cell (o + j) _ (List.getElem?_eq_getElem hjo)
    have e : (⟨g, o, none⟩ : Addr).add j = ⟨g, o + j, none⟩ := by
      unfold Addr.add
      split
      · rename_i h0
        have : j = 0 := h0
        rw [this]; rfl
      · rfl
    rw [e]
    simpa [e1, Nat.mod_eq_of_lt hc] using this)
  rw [← e] at h16
  exact h16

theorem bytes_row_cap (b : ByteArray) (w : World) : ∃ cap W, b.size ≤ cap ∧ (convert 9 24 (.string b)).run Try.prog w = .ok (.slice (some ⟨w.heap.size, 0, none⟩) b.size cap) W ∧ Rw w w.heap.size (nums b) W := by
  obtain ⟨cap, W, h, hr⟩ := bytes_row b w
  have h2 := run_bytes_of_string (P := Try.prog) w 9 24 5 b Try.underlying9 Try.underlying24 Try.underlying5
  rw [h] at h2
  simp only [Result.ok.injEq, Value.slice.injEq] at h2
  exact ⟨cap, W, by rw [h2.1.2.2]; exact grownCap_ge _ _ _ _, h, hr⟩

set_option maxHeartbeats 8000000 in
theorem walk_bent (a b c d : ByteArray) (pl by_ : Nat) (w : World) (hpl : pl < 65536) (hby : by_ < 256) :
    Calls Try.prog 8 #[.agg #[.string a, .string b, .string c, .string d], .int .u16 (pl : Nat), .int .u8 (by_ : Nat)] w fun e w' => e = .returned (.bool true) ∧ Below w.heap.size w w' := by
  have HS := Lib.hid (Ib.start w a b c d)
  have HBY := Lib.hid (And.intro hpl hby)
  clear hpl hby
  go_enter Try.func8, Try.ntmps8
  go_wp2_with fail
  refine (awake_any _).mono ?_
  rintro e w1 ⟨rfl, hb1⟩
  have H1 := Lib.hid (HS.out.next hb1)
  clear hb1 HS
  obtain ⟨c0, c1, c2, c3⟩ := H1.out.hI.cells
  by_cases hf : Few a b c d
  · have HF := Lib.hid hf
    clear hf
    go_wp2_with fail
    refine (few_yes HF.out _).mono ?_
    rintro e w2 ⟨rfl, hb2⟩
    have H2 := Lib.hid (H1.out.next hb2)
    clear hb2 c0 c1 c2 c3 H1
    obtain ⟨c0, c1, c2, c3⟩ := H2.out.hI.cells
    have sc : c.size ≤ 200 := HF.out.2.2.1
    have sd : d.size ≤ 300 := HF.out.2.2.2
    have HSZ := Lib.hid (And.intro sc sd)
    clear sc sd
    go_wp2_with fail
    refine (seal_all a b c d _ (by have := HSZ.out.1; omega) (by have := HSZ.out.2; omega)).mono ?_
    rintro e w3 ⟨rfl, hb3⟩
    have H3 := Lib.hid (H2.out.next hb3)
    clear hb3 c0 c1 c2 c3 H2
    obtain ⟨c0, c1, c2, c3⟩ := H3.out.hI.cells
    obtain ⟨S, hS⟩ : ∃ S, S = sealS a b c d := ⟨_, rfl⟩
    obtain ⟨T, hT⟩ : ∃ T, T = sealT a b c d := ⟨_, rfl⟩
    by_cases hfit : Fit a b
    · have hSs : S.size = d.size := by rw [hS, sealS_size hfit]
      have hTs : T.size = 16 := by rw [hT, sealT_size hfit]
      rw [← hS, ← hT, sealE_fit hfit]
      obtain ⟨m, hm⟩ : ∃ m, m = S.size := ⟨_, rfl⟩
      obtain ⟨k, hk⟩ : ∃ k, k = c.size := ⟨_, rfl⟩
      obtain ⟨N, hN⟩ : ∃ N, N = m + k := ⟨_, rfl⟩
      have e1 : (S.size : Int) = (m : Int) := by omega
      have e2 : (c.size : Int) = (k : Int) := by omega
      have e3 : (m : Int) + (k : Int) = (N : Int) := by omega
      have hml : m ≤ 300 := by have := HSZ.out.2; omega
      have hkl : k ≤ 200 := by have := HSZ.out.1; omega
      clear hS hT hfit
      by_cases h0 : N = 0
      · have g1 : (N : Int) = 0 := by omega
        have g2 : ((N : Int) == 0) = true := by simp; omega
        clear h0 hm hk hN
        go_wp2
        go_ret
        exact ⟨rfl, H3.out.below⟩
      · have g1 : ¬ (N : Int) = 0 := by omega
        obtain ⟨U, hU⟩ : ∃ U, U = S ++ c := ⟨_, rfl⟩
        have hUs : U.size = N := by rw [hU, ByteArray.size_append]; omega
        have hcat : ∀ X : World, (Op.stringOp .add S c).run Try.prog X = .ok (.string U) X := by rw [hU]; exact fun X => run_string_add_sum X S c (by omega)
        obtain ⟨cap, W, hcap, hcv, hrow⟩ := bytes_row_cap U w3
        rw [hUs] at hcap
        have hIW := H3.out.next hrow.below
        obtain ⟨gB, hgB⟩ : ∃ gB, gB = w3.heap.size := ⟨_, rfl⟩
        rw [← hgB, hUs] at hcv
        rw [← hgB] at hrow
        have hne : w.heap.size < gB := by
          have := (Array.getElem?_eq_some_iff.1 H3.out.hI).1
          omega
        obtain ⟨q, hq⟩ : ∃ q, q = pl % N := ⟨_, rfl⟩
        have hql : q < N := by rw [hq]; exact Nat.mod_lt _ (by omega)
        obtain ⟨x, hx⟩ : ∃ x, (nums U)[q]? = some x := ⟨_, List.getElem?_eq_getElem (by rw [nums_length, hUs]; exact hql)⟩
        have hxl : x < 256 := nums_lt U x (List.mem_of_getElem? hx)
        obtain ⟨z, hz⟩ : ∃ z, z = x ^^^ by_ := ⟨_, rfl⟩
        have hzl : z < 256 := by rw [hz]; exact Nat.xor_lt_two_pow (n := 8) hxl HBY.out.2
        have e4 := u8_xor_nat x by_ hxl HBY.out.2
        rw [← hz] at e4
        have cx := hrow.cell q x hx
        have fx := hrow.frozen q (by rw [nums_length, hUs]; exact hql)
        have hst := hrow.set (j := q) (by rw [nums_length, hUs]; exact hql) z
        have hR : Rw w gB ((nums U).set q z) (W.setCell ⟨gB, q, none⟩ (.int .u8 (z : Nat))) := ⟨hst.cell, hst.frozen, by omega, hst.lt, hIW.below.setCell (by simp only []; omega) _⟩
        have hI2 : In4 w.heap.size a b c d (W.setCell ⟨gB, q, none⟩ (.int .u8 (z : Nat))) := by
          unfold In4
          rw [heap_setCell_other _ _ _ _ (by simp only []; omega)]
          exact hIW.hI
        have hlen : ((nums U).set q z).length = N := by rw [List.length_set, nums_length, hUs]
        have hsm : Small ((nums U).set q z) := fun c hc => by
          rcases List.mem_or_eq_of_mem_set hc with h | h
          · exact nums_lt U c h
          · rw [h]; exact hzl
        obtain ⟨S2, hS2⟩ : ∃ S2, S2 = toB ((((nums U).set q z).drop 0).take m) := ⟨_, rfl⟩
        obtain ⟨C2, hC2⟩ : ∃ C2, C2 = toB ((((nums U).set q z).drop m).take k) := ⟨_, rfl⟩
        have hbk1 : ∀ c' : Nat, (convert 24 9 (.slice (some ⟨gB, 0, none⟩) m c')).run Try.prog (W.setCell ⟨gB, q, none⟩ (.int .u8 (z : Nat))) = .ok (.string S2) (W.setCell ⟨gB, q, none⟩ (.int .u8 (z : Nat))) := fun c' => by rw [hS2]; exact hR.back_at hsm 0 m c' (by omega)
        have hbk2 : ∀ c' : Nat, (convert 24 9 (.slice (some ⟨gB, m, none⟩) k c')).run Try.prog (W.setCell ⟨gB, q, none⟩ (.int .u8 (z : Nat))) = .ok (.string C2) (W.setCell ⟨gB, q, none⟩ (.int .u8 (z : Nat))) := fun c' => by rw [hC2]; exact hR.back_at hsm m k c' (by omega)
        have hbk0 : ∀ c' : Nat, (convert 24 9 (.slice (some ⟨gB, 0, none⟩) 0 c')).run Try.prog (W.setCell ⟨gB, q, none⟩ (.int .u8 (z : Nat))) = .ok (.string ⟨#[]⟩) (W.setCell ⟨gB, q, none⟩ (.int .u8 (z : Nat))) := fun c' => hR.back_at hsm 0 0 c' (by omega)
        have hbd0 : ∀ c' : Nat, (convert 24 9 (.slice (some ⟨gB, 0, none⟩) 0 c')).run Try.prog (W.setCell ⟨gB, q, none⟩ (.int .u8 (z : Nat))).drew = .ok (.string ⟨#[]⟩) (W.setCell ⟨gB, q, none⟩ (.int .u8 (z : Nat))).drew := fun c' => hR.drew.back_at hsm 0 0 c' (by omega)
        have hbd1 : ∀ c' : Nat, (convert 24 9 (.slice (some ⟨gB, 0, none⟩) m c')).run Try.prog (W.setCell ⟨gB, q, none⟩ (.int .u8 (z : Nat))).drew = .ok (.string S2) (W.setCell ⟨gB, q, none⟩ (.int .u8 (z : Nat))).drew := fun c' => by rw [hS2]; exact hR.drew.back_at hsm 0 m c' (by omega)
        have hbd2 : ∀ c' : Nat, (convert 24 9 (.slice (some ⟨gB, m, none⟩) k c')).run Try.prog (W.setCell ⟨gB, q, none⟩ (.int .u8 (z : Nat))).drew = .ok (.string C2) (W.setCell ⟨gB, q, none⟩ (.int .u8 (z : Nat))).drew := fun c' => by rw [hC2]; exact hR.drew.back_at hsm m k c' (by omega)
        have hS2s : S2.size ≤ 300 := by rw [hS2, toB_size, List.length_take]; omega
        have hC2s : C2.size ≤ 200 := by rw [hC2, toB_size, List.length_take]; omega
        have H5 := Lib.hid (show Ib w a b c d (W.setCell ⟨gB, q, none⟩ (.int .u8 (z : Nat))) from ⟨hI2, hR.below⟩)
        have e5 : (pl : Int).tmod (N : Int) = (q : Int) := by rw [Int.tmod_eq_emod_of_nonneg (by omega), hq]; rfl
        have e6 : (pl : Int) % (N : Int) = (q : Int) := by rw [hq]; rfl
        have e7 : (N : Int) - (m : Int) = (k : Int) := by omega
        have e8 : (q : Int) < (N : Int) := by omega
        have e9 : (m : Int) ≤ (N : Int) := by omega
        have e10 : IntKind.i64.wrap (pl : Int) = (pl : Int) := by rw [IntKind.wrap_i64]; have := HBY.out.1; omega
        have e11 : N - m = k := by omega
        have hNl : N ≤ 500 := by omega
        have hmN : m ≤ N := by omega
        have hpl2 : pl < 65536 := HBY.out.1
        have hC0 : k = 0 → C2 = ⟨#[]⟩ := fun h => by rw [hC2, h, List.take_zero]; rfl
        have HOO := Lib.hid (And.intro hS2s (And.intro hC2s (And.intro hTs hC0)))
        clear hq hx hz hxl hzl hst hR hI2 hlen hsm hS2 hC2 hrow hgB hne hIW hU hUs h0 hm hk hN hS2s hC2s hSs hTs hql hC0
        go_wp2_with fail
        generalize hwq : W.setCell ⟨gB, q, none⟩ (.int .u8 (z : Nat)) = wq at *
        clear hwq c0 c1 c2 c3 hcv cx fx e4
        have k1 := hbd1 cap
        have k2' : (convert 24 9 (.slice (if cap = m then some ⟨gB, 0, none⟩ else some ⟨gB, m, none⟩) k (cap - m))).run Try.prog wq.drew = .ok (.string C2) wq.drew := by
          split
          · rename_i hcm
            have hk0 : k = 0 := by omega
            rw [hk0, HOO.out.2.2.2 hk0]
            exact hbd0 (cap - m)
          · exact hbd2 (cap - m)
        clear hbk0 hbk1 hbk2 hbd0 hbd1 hbd2
        obtain ⟨k0, k00, k2, k3⟩ := H5.out.hI.cells
        go_region
        all_goals
          clear k1 k2' e1 e2 e3 e5 e6 e7 e8 e9 e10 e11 hcat k0 k00 k2 k3
          have H6 := Lib.hid (show Ib w a b c d wq.drew from ⟨H5.out.hI, H5.out.below.drew⟩)
          obtain ⟨c0, c1, c2, c3⟩ := H5.out.hI.cells
          go_wp2_with fail
          all_goals
            refine (open_all a b C2 S2 T _ (by have := HOO.out.2.1; omega) (by have := HOO.out.1; omega) (by have := HOO.out.2.2.1; omega)).mono ?_
            rintro e w6 ⟨rfl, hb6⟩
            have H7 := Lib.hid (H6.out.next hb6)
            clear hb6 c0 c1 c2 c3
            obtain ⟨c0, c1, c2, c3⟩ := H7.out.hI.cells
            obtain ⟨O, hO⟩ : ∃ O, O = openS a b C2 S2 T := ⟨_, rfl⟩
            obtain ⟨F, hF⟩ : ∃ F, F = openE a b C2 S2 T := ⟨_, rfl⟩
            have C7 := Lib.hid (fun X => ropen_all a b C2 S2 T X (by have := HOO.out.2.1; omega) (by have := HOO.out.1; omega))
            rw [← hO, ← hF] at C7 ⊢
            clear hO hF
            go_wp2_with fail
            refine (C7.out _).mono ?_
            rintro e w7 ⟨rfl, hb7⟩
            have H8 := Lib.hid (H7.out.next hb7)
            clear hb7 c0 c1 c2 c3
            go_wp2
            go_ret
            exact ⟨by simp, H8.out.below⟩
    · rw [sealE_none hfit]
      clear hfit hS hT
      go_wp2
      go_ret
      exact ⟨rfl, H3.out.below⟩
  · have HF := Lib.hid hf
    clear hf
    go_wp2_with fail
    refine (few_no HF.out _).mono ?_
    rintro e w2 ⟨rfl, hb2⟩
    have H2 := Lib.hid (H1.out.next hb2)
    clear hb2 c0 c1 c2 c3 H1
    go_wp2_with fail
    refine (awake_any _).mono ?_
    rintro e w3 ⟨rfl, hb3⟩
    have H3 := Lib.hid (H2.out.next hb3)
    clear hb3
    go_wp2
    go_ret
    exact ⟨rfl, H3.out.below⟩

end Gcm
end Go.Proofs.Ytpjobjpdfhpobaa
