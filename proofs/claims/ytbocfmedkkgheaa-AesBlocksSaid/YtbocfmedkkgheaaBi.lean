/-
  Contract of aes.Cipher.Undo. Conditions: the cipher has its rounds, words and boxes; the words are bytes.
-/
import Derived.Test.YtbocfmedkkgheaaBh
namespace Go.Proofs.Ytbocfmedkkgheaa
namespace Aes
open Go.ChangeShapes Go.WideShapes Go.ChangeAt Go.RowKit Go.Great Go.ChangeMaps
open Gf
set_option linter.unusedVariables false

theorem unmul_eq (s : Nat → Nat) : mulBy (col4 14 11 13 9) s = unmixed s := funext fun i => mul_unmixed s i
theorem unturn_same (s : Nat → Nat) : Same (fun i => unsub (turnedBy 3 s i)) (unsubbed s) := fun i hi => by
  show unsub (turnedBy 3 s i) = unsub (unshifted s i)
  rw [turned_unshifted s i hi]
theorem unturn_bytes {s : Nat → Nat} (h : Bytes s) : Bytes (turnedBy 3 s) := fun i hi => by
  rw [turned_unshifted s i hi]; exact unshifted_bytes h i hi

theorem undo_short (g : Nat) (b : ByteArray) (w : World) (hb : b.size ≠ 16) :
    Calls Try.prog 17 #[.pointer (some ⟨g, 0, none⟩), .string b] w fun e w' => e = .returned (.string ⟨#[]⟩) ∧ w' = w := by
  have d1 : ((b.size : Int) != 16) = true := by simp; omega
  have d2 : ¬ (b.size : Int) = 16 := by omega
  have HB := Lib.hid hb; clear hb
  go_enter Try.func17, Try.ntmps17
  go_wp2
  go_ret
  exact ⟨rfl, rfl⟩

set_option maxHeartbeats 8000000 in
theorem undo_any (g R : Nat) (W : Nat → Nat) (b : ByteArray) (w : World) (hb : b.size = 16) (hW : ∀ j, W j < 256) (hR0 : 1 ≤ R) (hR : R ≤ 14) (hC : Cip g R W sub unsub w) :
    Calls Try.prog 17 #[.pointer (some ⟨g, 0, none⟩), .string b] w fun e w' => e = .returned (.string (toB (allF (undone W R (byteAt b)) 16))) ∧ Below w.heap.size w w' := by
  have hz := zero16.1
  have hne := zeros16_ne .u8
  have d1 : ((b.size : Int) != 16) = false := by simp; omega
  have d2 : (b.size : Int) = 16 := by omega
  have HB := Lib.hid hb
  have HW := Lib.hid hW
  have HR := Lib.hid (And.intro hR0 hR)
  have HC := Lib.hid hC
  have hbb : Bytes (byteAt b) := fun i _ => byteAt_lt b i
  have hbytes : ∀ k, Bytes (undoneTo W R (byteAt b) k) := fun k => undoneTo_bytes (fun j _ => hW j) hbb k
  obtain ⟨S, hS⟩ : ∃ S, S = undoneTo W R (byteAt b) := ⟨_, rfl⟩
  have hS0 : S 0 = byteAt b := by rw [hS]; rfl
  have hS1 : ∀ k, S (k + 1) = unroundOf W R (R - k) (S k) := fun k => by rw [hS]; rfl
  obtain ⟨U, hU⟩ : ∃ U, U = undone W R (byteAt b) := ⟨_, rfl⟩
  have hSe : U = added W 0 (S R) := by rw [hU, hS]; rfl
  rw [← hU]
  rw [← hS] at hbytes
  have HSS := Lib.hid (And.intro hS0 (And.intro hS1 hbytes))
  have HBL := Lib.hid (fun X => blockOf_any b X hb)
  rw [← hS0] at HBL
  have HM0 : Hid (∀ X, Cip g R W sub unsub X → Calls Try.prog 27 #[.pointer (some ⟨g, 0, none⟩), .agg (valsK .u8 (allF (S R) 16)), .int .i64 0] X fun e w' => e = .returned (.agg (valsK .u8 (allF U 16))) ∧ Below X.heap.size X w') := Lib.hid (fun X hX => by
    rw [hSe]; exact mixed_any (S R) 0 g R W sub unsub X (hbytes R) (fun j _ => hW j) (by decide) hX)
  have HTX : Hid (∀ X, Calls Try.prog 32 #[.agg (valsK .u8 (allF U 16))] X fun e w' => e = .returned (.string (toB (allF U 16))) ∧ Below X.heap.size X w') := Lib.hid (fun X => text_any U X (by
    rw [hSe]; exact added_bytes (n := R) (fun j _ => hW j) (Nat.zero_le _) (hbytes R)))
  clear hb hW hR0 hR hC hbb hbytes hS hS0 hS1 hSe hU
  go_enter Try.func17, Try.ntmps17
  go_wp2_with fail
  refine (HBL.out _).mono ?_
  rintro e w2 ⟨rfl, hb2⟩
  obtain ⟨gx, hgx⟩ : ∃ gx, gx = w2.heap.size := ⟨_, rfl⟩
  have hcy : Cy g R W sub unsub w gx (S 0) ((w2.alloc (.cells (valsK .u8 (zerosN 16)) 55)).setRow gx (valsK .u8 (allF (S 0) 16))) := by
    have hc3 := (HC.out.next hb2).next ((Below.refl w2.heap.size w2).alloc (Nat.le_refl _) (.cells (valsK .u8 (zerosN 16)) 55))
    refine ⟨hc3.far ?_ _, ?_, by rw [hgx]; exact hb2.size, HC.out.lt, below_setRow (below_alloc hb2 _) (by rw [hgx]; exact hb2.size) _⟩
    · have := HC.out.lt; have := hb2.size; omega
    · rw [hgx]; exact Wd.setRow (heap_alloc_new w2 _) _
  have HCY := Lib.hid hcy
  have st := storeOld (w2.alloc (.cells (valsK .u8 (zerosN 16)) 55)) gx 55 (valsK .u8 (zerosN 16)) (valsK .u8 (allF (S 0) 16)) (by rw [hgx]; exact heap_alloc_new w2 _) (by rw [valsK_size, valsK_size, allF_length]; rfl) (valsK_one _ _)
  have hgx' := hgx.symm
  have cr0 := hcy.cip.rounds
  clear hcy hb2 hgx
  go_wp2
  clear st
  generalize (w2.alloc (.cells (valsK .u8 (zerosN 16)) 55)).setRow gx (valsK .u8 (allF (S 0) 16)) = wq at *
  go_loopw [6] (fun i wr => ∃ k n : Nat, n + k = R ∧ i = .int .i64 (n : Nat) ∧ Cy g R W sub unsub w gx (S k) wr) (fun i _ => (intOf i).toNat)
  case atStart => exact ⟨0, R, rfl, rfl, HCY.out⟩
  case round =>
    obtain ⟨k, r, hr, rfl, hcy⟩ := hrel
    have HQ := Lib.hid hcy; clear hcy
    by_cases hlt : 1 ≤ r
    · have hrl : r ≤ 14 := by have := HR.out.2; omega
      obtain ⟨s0, hs0⟩ : ∃ s, s = S k := ⟨_, rfl⟩
      rw [← hs0] at HQ
      have hby : Bytes s0 := by rw [hs0]; exact HSS.out.2.2 k
      have hnx : S (k + 1) = unroundOf W R r s0 := by rw [HSS.out.2.1 k, ← hs0]; congr 1; omega
      have HNX := Lib.hid hnx
      obtain ⟨s1, hs1⟩ : ∃ s : Nat → Nat, s = added W r s0 := ⟨_, rfl⟩
      have hb1 : Bytes s1 := by rw [hs1]; exact added_bytes (n := R) (fun j _ => HW.out j) (by omega) hby
      have C1 : Hid (∀ X, Cip g R W sub unsub X → Calls Try.prog 27 #[.pointer (some ⟨g, 0, none⟩), .agg (valsK .u8 (allF s0 16)), .int .i64 (r : Nat)] X fun e w' => e = .returned (.agg (valsK .u8 (allF s1 16))) ∧ Below X.heap.size X w') := Lib.hid (fun X hX => by
        rw [hs1]; exact mixed_any s0 r g R W sub unsub X hby (fun j _ => HW.out j) hrl hX)
      have HS1 := Lib.hid (And.intro hs1 hb1)
      have HRK := Lib.hid hr
      have HLT := Lib.hid hlt
      have g0 : (1 : Int) ≤ (r : Int) := by omega
      clear hs0 hby hnx hs1 hb1 hr hlt hz hne
      go_wp2_with (refine load_whole (by rfl) 55 _ (by rfl) _ (by rfl) (allF s0 16) ?_ under16 ?_ ?_; exact HQ.out.row; (rw [valsK_size, allF_length]; exact zero16.2))
      refine (C1.out _ HQ.out.cip).mono ?_
      rintro e w3 ⟨rfl, hb3⟩
      have H3 := Lib.hid (HQ.out.next hb3)
      have H4 := Lib.hid ((HQ.out.next hb3).put s1)
      clear hb3
      have cr := H4.out.cip.rounds
      by_cases hlr : r < R
      · have g1 : decide ((r : Int) < (R : Int)) = true := by simp; omega
        have g2 : decide (r < R) = true := by simp; omega
        obtain ⟨s2, hs2⟩ : ∃ s : Nat → Nat, s = mulBy (col4 14 11 13 9) s1 := ⟨_, rfl⟩
        obtain ⟨s3, hs3⟩ : ∃ s : Nat → Nat, s = turnedBy 3 s2 := ⟨_, rfl⟩
        obtain ⟨s4, hs4⟩ : ∃ s : Nat → Nat, s = fun i => unsub (s3 i) := ⟨_, rfl⟩
        have hb2 : Bytes s2 := by rw [hs2]; exact mul_bytes HS1.out.2
        have hb3 : Bytes s3 := by rw [hs3]; exact unturn_bytes hb2
        have hsame : Same s4 (S (k + 1)) := by
          rw [HNX.out, hs4, hs3, hs2, unmul_eq, HS1.out.1]
          unfold unroundOf
          rw [if_pos hlr]
          exact unturn_same _
        have C2 : Hid (∀ X, Calls Try.prog 31 #[.agg (valsK .u8 (allF s1 16)), .agg #[.int .u8 14, .int .u8 11, .int .u8 13, .int .u8 9]] X fun e w' => e = .returned (.agg (valsK .u8 (allF s2 16))) ∧ Below X.heap.size X w') := Lib.hid (fun X => by
          rw [hs2]; exact multiplied_any s1 (col4 14 11 13 9) X HS1.out.2 (col4_lt (by decide) (by decide) (by decide) (by decide)))
        have C3 : Hid (∀ X, Calls Try.prog 30 #[.agg (row16 s2), .int .i64 3] X fun e w' => e = .returned (.agg (valsK .u8 (allF s3 16))) ∧ Below X.heap.size X w') := Lib.hid (fun X => by
          rw [hs3]; exact rotated_any s2 3 X (by decide))
        have C4 : Hid (∀ X, Cip g R W sub unsub X → Calls Try.prog 29 #[.agg (valsK .u8 (allF s3 16)), .pointer (some ⟨g, 497, none⟩)] X fun e w' => e = .returned (.agg (valsK .u8 (allF s4 16))) ∧ Below X.heap.size X w') := Lib.hid (fun X hX => by
          rw [hs4]; exact block_any s3 unsub g 497 X hb3 ⟨hX.lt, hX.back⟩)
        unfold row16 at C3
        have HSAME := Lib.hid hsame
        clear hsame hs2 hs3 hs4 hb2 hb3 hlr
        go_wp2_with (first | (refine store_whole (by rfl) 55 _ _ (by rfl) _ (by rfl) (allF s1 16) (allF s0 16) (by rfl) ?_ ?_ ?_ ?_; exact H3.out.row; (rw [valsK_size, valsK_size, allF_length, allF_length]); (rw [valsK_size, allF_length]; exact zero16.2)) | (refine load_whole (by rfl) 55 _ (by rfl) _ (by rfl) (allF s1 16) ?_ under16 ?_ ?_; exact H4.out.row; (rw [valsK_size, allF_length]; exact zero16.2)))
        refine (C2.out _).mono ?_
        rintro e w5 ⟨rfl, hb5⟩
        have H5 := Lib.hid (H4.out.next hb5)
        have H6 := Lib.hid ((H4.out.next hb5).put s2)
        obtain ⟨y0, y1, y2, y3, y4, y5, y6, y7, y8, y9, y10, y11, y12, y13, y14, y15⟩ := cells16 H6.out.row
        clear hb5
        go_wp2_with (refine store_whole (by rfl) 55 _ _ (by rfl) _ (by rfl) (allF s2 16) (allF s1 16) (by rfl) ?_ ?_ ?_ ?_; exact H5.out.row; (rw [valsK_size, valsK_size, allF_length, allF_length]); (rw [valsK_size, allF_length]; exact zero16.2))
        clear cr
        generalize w5.setRow gx (valsK .u8 (allF s2 16)) = wy at *
        go_region_with (first | (go_at_call 30; with_reducible refine (C3.out _).mono ?_; rintro e w7 ⟨rfl, hb7⟩; have H7 := Lib.hid (H6.out.drew.next hb7); clear hb7) | (go_at_call 29; with_reducible refine (C4.out _ H7.out.cip).mono ?_; rintro e w8 ⟨rfl, hb8⟩; have H8 := Lib.hid (H7.out.next hb8); have st := storeOld w8 gx 55 (valsK .u8 (allF s2 16)) (valsK .u8 (allF s4 16)) H8.out.row (by rw [valsK_size, valsK_size, allF_length, allF_length]) (valsK_one _ _); clear hb8))
        all_goals have H9 := Lib.hid ((H8.out.put s4).same HSAME.out)
        all_goals clear st
        all_goals (go_wp2; go_roundw)
        all_goals first
          | exact ⟨k + 1, r - 1, by have := HRK.out; have := HLT.out; omega, by first | go_num | (have := HLT.out; congr 1; omega), H9.out⟩
          | (have := HLT.out; simp [intOf]; omega)
      · have g1 : decide ((r : Int) < (R : Int)) = false := by simp; omega
        have g2 : decide (r < R) = false := by simp; omega
        obtain ⟨s3, hs3⟩ : ∃ s : Nat → Nat, s = turnedBy 3 s1 := ⟨_, rfl⟩
        obtain ⟨s4, hs4⟩ : ∃ s : Nat → Nat, s = fun i => unsub (s3 i) := ⟨_, rfl⟩
        have hb3 : Bytes s3 := by rw [hs3]; exact unturn_bytes HS1.out.2
        have hsame : Same s4 (S (k + 1)) := by
          rw [HNX.out, hs4, hs3, HS1.out.1]
          unfold unroundOf
          rw [if_neg hlr]
          exact unturn_same _
        have C3 : Hid (∀ X, Calls Try.prog 30 #[.agg (row16 s1), .int .i64 3] X fun e w' => e = .returned (.agg (valsK .u8 (allF s3 16))) ∧ Below X.heap.size X w') := Lib.hid (fun X => by
          rw [hs3]; exact rotated_any s1 3 X (by decide))
        have C4 : Hid (∀ X, Cip g R W sub unsub X → Calls Try.prog 29 #[.agg (valsK .u8 (allF s3 16)), .pointer (some ⟨g, 497, none⟩)] X fun e w' => e = .returned (.agg (valsK .u8 (allF s4 16))) ∧ Below X.heap.size X w') := Lib.hid (fun X hX => by
          rw [hs4]; exact block_any s3 unsub g 497 X hb3 ⟨hX.lt, hX.back⟩)
        unfold row16 at C3
        have HSAME := Lib.hid hsame
        obtain ⟨y0, y1, y2, y3, y4, y5, y6, y7, y8, y9, y10, y11, y12, y13, y14, y15⟩ := cells16 H4.out.row
        clear hsame hs3 hs4 hb3 hlr
        go_wp2_with (refine store_whole (by rfl) 55 _ _ (by rfl) _ (by rfl) (allF s1 16) (allF s0 16) (by rfl) ?_ ?_ ?_ ?_; exact H3.out.row; (rw [valsK_size, valsK_size, allF_length, allF_length]); (rw [valsK_size, allF_length]; exact zero16.2))
        clear cr
        generalize w3.setRow gx (valsK .u8 (allF s1 16)) = wy at *
        go_region_with (first | (go_at_call 30; with_reducible refine (C3.out _).mono ?_; rintro e w7 ⟨rfl, hb7⟩; have H7 := Lib.hid (H4.out.drew.next hb7); clear hb7) | (go_at_call 29; with_reducible refine (C4.out _ H7.out.cip).mono ?_; rintro e w8 ⟨rfl, hb8⟩; have H8 := Lib.hid (H7.out.next hb8); have st := storeOld w8 gx 55 (valsK .u8 (allF s1 16)) (valsK .u8 (allF s4 16)) H8.out.row (by rw [valsK_size, valsK_size, allF_length, allF_length]) (valsK_one _ _); clear hb8))
        all_goals have H9 := Lib.hid ((H8.out.put s4).same HSAME.out)
        all_goals clear st
        all_goals (go_wp2; go_roundw)
        all_goals first
          | exact ⟨k + 1, r - 1, by have := HRK.out; have := HLT.out; omega, by first | go_num | (have := HLT.out; congr 1; omega), H9.out⟩
          | (have := HLT.out; simp [intOf]; omega)
    · have g0 : ¬ (1 : Int) ≤ (r : Int) := by omega
      have e0 : k = R := by omega
      rw [e0] at HQ
      have HE := Lib.hid (And.intro hr hlt)
      clear hr hlt e0
      go_wp2_with (refine load_whole (by rfl) 55 _ (by rfl) _ (by rfl) (allF (S R) 16) ?_ under16 ?_ ?_; exact HQ.out.row; (rw [valsK_size, allF_length]; exact zero16.2))
      refine (HM0.out _ HQ.out.cip).mono ?_
      rintro e w5 ⟨rfl, hb5⟩
      have HB5 := Lib.hid (below_link HQ.out.below hb5)
      clear hb5
      go_wp2_with fail
      refine (HTX.out _).mono ?_
      rintro e w6 ⟨rfl, hb6⟩
      have HB6 := Lib.hid (below_link HB5.out hb6)
      clear hb6
      go_wp2
      go_ret
      exact ⟨rfl, HB6.out⟩

end Aes
end Go.Proofs.Ytbocfmedkkgheaa
