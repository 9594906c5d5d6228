/-
  The walk of GcmStreams. Conditions: none.
-/
import Derived.Test.YtpjobjpdfhpobaaLb
namespace Go.Proofs.Ytpjobjpdfhpobaa
namespace Gcm
open Go.ChangeShapes Go.WideShapes Go.ChangeAt Go.RowKit Go.Great Go.ChangeMaps
open Gf Aes
set_option linter.unusedVariables false
set_option maxRecDepth 100000

theorem streams_two {a b c d s t : ByteArray} (h : Fit a b) (j : Nat) (h1 : j < d.size) (h2 : j < t.size) :
    (nums (sealS a b c d)).getD j 0 ^^^ (nums (sealS a b s t)).getD j 0 = (nums d).getD j 0 ^^^ (nums t).getD j 0 := by
  unfold sealS
  rw [if_pos h, if_pos h, nums_turnB, nums_turnB]
  exact turnL_two (encL_ok _ _) (firstL_length _ _) (firstL_small (nums_lt b)) j (by rw [nums_length]; exact h1) (by rw [nums_length]; exact h2)

set_option maxHeartbeats 8000000 in
theorem walk_streams (a b c d s t : ByteArray) (w : World) :
    Calls Try.prog 9 #[.agg #[.string a, .string b, .string c, .string d], .string s, .string t] w fun e w' => e = .returned (.bool true) ∧ Below w.heap.size w w' := by
  have HS := Lib.hid (Ib.start w a b c d)
  go_enter Try.func9, Try.ntmps9
  go_wp2_with fail
  refine (awake_any _).mono ?_
  rintro e w1 ⟨rfl, hb1⟩
  have H1 := Lib.hid (HS.out.next hb1)
  clear hb1 HS
  obtain ⟨c0, c1, c2, c3⟩ := H1.out.hI.cells
  by_cases hf : Few a b c d
  · have HF := Lib.hid hf
    clear hf
    go_wp2_with fail
    refine (few_yes HF.out _).mono ?_
    rintro e w2 ⟨rfl, hb2⟩
    have H2 := Lib.hid (H1.out.next hb2)
    clear hb2 c0 c1 c2 c3 H1
    obtain ⟨c0, c1, c2, c3⟩ := H2.out.hI.cells
    by_cases hst : s.size ≤ 200 ∧ t.size ≤ 300
    · have g1 : ¬ (200 : Int) < (s.size : Int) := by omega
      have g2 : ¬ (300 : Int) < (t.size : Int) := by omega
      have HSZ := Lib.hid (And.intro HF.out.2.2.1 (And.intro HF.out.2.2.2 hst))
      clear hst
      go_wp2_with fail
      refine (seal_all a b c d _ (by have := HSZ.out.1; omega) (by have := HSZ.out.2.1; omega)).mono ?_
      rintro e w3 ⟨rfl, hb3⟩
      have H3 := Lib.hid (H2.out.next hb3)
      clear hb3 c0 c1 c2 c3 H2
      obtain ⟨c0, c1, c2, c3⟩ := H3.out.hI.cells
      obtain ⟨A, hA⟩ : ∃ A, A = sealS a b c d := ⟨_, rfl⟩
      obtain ⟨T1, hT1⟩ : ∃ T1, T1 = sealT a b c d := ⟨_, rfl⟩
      rw [← hA, ← hT1]
      have HA := Lib.hid hA
      clear hT1 hA
      go_wp2_with fail
      refine (seal_all a b s t _ (by have := HSZ.out.2.2.1; omega) (by have := HSZ.out.2.2.2; omega)).mono ?_
      rintro e w4 ⟨rfl, hb4⟩
      have H4 := Lib.hid (H3.out.next hb4)
      clear hb4 c0 c1 c2 c3 H3 g1 g2
      obtain ⟨c0, c1, c2, c3⟩ := H4.out.hI.cells
      obtain ⟨B, hB⟩ : ∃ B, B = sealS a b s t := ⟨_, rfl⟩
      obtain ⟨T2, hT2⟩ : ∃ T2, T2 = sealT a b s t := ⟨_, rfl⟩
      rw [← hB, ← hT2]
      have HB := Lib.hid hB
      clear hT2 hB
      by_cases hfit : Fit a b
      · rw [sealE_fit hfit]
        have hAs : A.size = d.size := by rw [HA.out, sealS_size hfit]
        have hBs : B.size = t.size := by rw [HB.out, sealS_size hfit]
        have htwo : ∀ j, j < d.size → j < t.size → (nums A).getD j 0 ^^^ (nums B).getD j 0 = (nums d).getD j 0 ^^^ (nums t).getD j 0 := fun j h1 h2 => by rw [HA.out, HB.out]; exact streams_two hfit j h1 h2
        have HTW := Lib.hid htwo
        have HAB := Lib.hid (And.intro hAs hBs)
        obtain ⟨m, hm⟩ : ∃ m, m = d.size := ⟨_, rfl⟩
        obtain ⟨n, hn⟩ : ∃ n, n = t.size := ⟨_, rfl⟩
        have e1 : (A.size : Int) = (m : Int) := by omega
        have e2 : (B.size : Int) = (n : Int) := by omega
        have e3 : (d.size : Int) = (m : Int) := by omega
        have e4 : (t.size : Int) = (n : Int) := by omega
        have hml : m ≤ 300 := by have := HSZ.out.2.1; omega
        have hnl : n ≤ 300 := by have := HSZ.out.2.2.2; omega
        have HMN := Lib.hid (And.intro hm hn)
        clear hfit htwo hAs hBs hm hn
        go_wp2
        clear c0 c1 c2 c3
        go_loopw [13] (fun x wr => ∃ k : Nat, k ≤ m ∧ k ≤ n ∧ x = .int .i64 (k : Nat) ∧ Ib w a b c d wr) (fun x _ => 300 - (intOf x).toNat)
        case atStart => exact ⟨0, Nat.zero_le _, Nat.zero_le _, rfl, H4.out⟩
        case round =>
          obtain ⟨k, hk, hk2, rfl, hS⟩ := hrel
          clear H4
          have c3 := hS.hI.cells.2.2.2
          by_cases hlm : k < m
          · by_cases hln : k < n
            · have hkA : k < A.size := by have := HAB.out.1; have := HMN.out.1; omega
              have hkB : k < B.size := by have := HAB.out.2; have := HMN.out.2; omega
              have hkd : k < d.size := by have := HMN.out.1; omega
              have hkt : k < t.size := by have := HMN.out.2; omega
              obtain ⟨x, hx⟩ : ∃ x, x = (nums A).getD k 0 := ⟨_, rfl⟩
              obtain ⟨y, hy⟩ : ∃ y, y = (nums B).getD k 0 := ⟨_, rfl⟩
              obtain ⟨u, hu⟩ : ∃ u, u = (nums d).getD k 0 := ⟨_, rfl⟩
              obtain ⟨v, hv⟩ : ∃ v, v = (nums t).getD k 0 := ⟨_, rfl⟩
              obtain ⟨z, hz⟩ : ∃ z, z = x ^^^ y := ⟨_, rfl⟩
              have hz2 : u ^^^ v = z := by rw [hz, hx, hy, hu, hv]; exact (HTW.out k hkd hkt).symm
              have xa : (A[k].toNat : Int) = (x : Int) := by rw [hx, List.getD_eq_getElem?_getD, nums_get A k hkA]; rfl
              have xb : (B[k].toNat : Int) = (y : Int) := by rw [hy, List.getD_eq_getElem?_getD, nums_get B k hkB]; rfl
              have xd : (d[k].toNat : Int) = (u : Int) := by rw [hu, List.getD_eq_getElem?_getD, nums_get d k hkd]; rfl
              have xt : (t[k].toNat : Int) = (v : Int) := by rw [hv, List.getD_eq_getElem?_getD, nums_get t k hkt]; rfl
              have q1 := u8_xor_nat x y (by rw [hx]; exact Small.get (nums_lt A) k) (by rw [hy]; exact Small.get (nums_lt B) k)
              have q2 := u8_xor_nat u v (by rw [hu]; exact Small.get (nums_lt d) k) (by rw [hv]; exact Small.get (nums_lt t) k)
              rw [← hz] at q1
              rw [hz2] at q2
              have q3 : (k : Int) < (m : Int) := by omega
              have q4 : (k : Int) < (n : Int) := by omega
              have q5 : (k : Int) < (A.size : Int) := by omega
              have q6 : (k : Int) < (B.size : Int) := by omega
              have q7 : (k : Int) < (d.size : Int) := by omega
              have q8 : (k : Int) < (t.size : Int) := by omega
              have HQ := Lib.hid hS
              clear hS hx hy hu hv hz hz2
              go_wp2
              go_region
              all_goals (go_wp2; go_roundw)
              all_goals first
                | exact ⟨k + 1, by omega, by omega, by go_num, ⟨HQ.out.hI, HQ.out.below.drew⟩⟩
                | (simp [intOf]; omega)
            · have q4 : ¬ (k : Int) < (n : Int) := by omega
              have q3 : (k : Int) < (m : Int) := by omega
              have HQ := Lib.hid hS
              clear hS c3
              go_wp2
              go_ret
              exact ⟨by simp, HQ.out.below⟩
          · have q3 : ¬ (k : Int) < (m : Int) := by omega
            have HQ := Lib.hid hS
            clear hS c3
            go_wp2
            go_ret
            exact ⟨by simp, HQ.out.below⟩
      · rw [sealE_none hfit]
        have hAn : A = noB := by rw [HA.out]; unfold sealS; rw [if_neg hfit]
        have hBn : B = noB := by rw [HB.out]; unfold sealS; rw [if_neg hfit]
        have e1 : (A.size : Int) = 0 := by rw [hAn]; rfl
        have e2 : (B.size : Int) = 0 := by rw [hBn]; rfl
        obtain ⟨m, hm⟩ : ∃ m, m = d.size := ⟨_, rfl⟩
        have e3 : (d.size : Int) = (m : Int) := by omega
        have hcase : (m : Int) = 0 ∨ ¬ (m : Int) = 0 := by omega
        clear hfit hAn hBn hm
        rcases hcase with e4 | e4
        · rw [e4] at e3
          go_wp2
          clear c0 c1 c2 c3
          go_loopw [13] (fun x wr => x = .int .i64 0 ∧ Ib w a b c d wr) (fun x _ => 0)
          case atStart => exact ⟨rfl, H4.out⟩
          case round =>
            obtain ⟨rfl, hS⟩ := hrel
            have HQ := Lib.hid hS
            clear hS H4
            go_wp2
            go_ret
            exact ⟨by simp, HQ.out.below⟩
        · have e5 : ¬ (0 : Int) = (m : Int) := fun h => e4 h.symm
          go_wp2
          clear c0 c1 c2 c3
          go_loopw [13] (fun x wr => x = .int .i64 0 ∧ Ib w a b c d wr) (fun x _ => 0)
          case atStart => exact ⟨rfl, H4.out⟩
          case round =>
            obtain ⟨rfl, hS⟩ := hrel
            have HQ := Lib.hid hS
            clear hS H4
            go_wp2
            go_ret
            exact ⟨by simp, HQ.out.below⟩
    · have HSZ := Lib.hid hst
      clear c0 c1 c2 c3
      by_cases hs2 : s.size ≤ 200
      · have g1 : ¬ (200 : Int) < (s.size : Int) := by omega
        have g2 : (300 : Int) < (t.size : Int) := by omega
        clear hst hs2
        go_wp2_with fail
        refine (awake_any _).mono ?_
        rintro e w3 ⟨rfl, hb3⟩
        have H3 := Lib.hid (H2.out.next hb3)
        clear hb3
        go_wp2
        go_ret
        exact ⟨rfl, H3.out.below⟩
      · have g1 : (200 : Int) < (s.size : Int) := by omega
        clear hst hs2
        go_wp2_with fail
        refine (awake_any _).mono ?_
        rintro e w3 ⟨rfl, hb3⟩
        have H3 := Lib.hid (H2.out.next hb3)
        clear hb3
        go_wp2
        go_ret
        exact ⟨rfl, H3.out.below⟩
  · have HF := Lib.hid hf
    clear hf
    go_wp2_with fail
    refine (few_no HF.out _).mono ?_
    rintro e w2 ⟨rfl, hb2⟩
    have H2 := Lib.hid (H1.out.next hb2)
    clear hb2 c0 c1 c2 c3 H1
    go_wp2_with fail
    refine (awake_any _).mono ?_
    rintro e w3 ⟨rfl, hb3⟩
    have H3 := Lib.hid (H2.out.next hb3)
    clear hb3
    go_wp2
    go_ret
    exact ⟨rfl, H3.out.below⟩

end Gcm
end Go.Proofs.Ytpjobjpdfhpobaa
