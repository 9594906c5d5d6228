/-
  Joined: Bh, Ca. Conditions: as each part says.
-/
import Derived.Test.YtedoggejbhbebaaJ28
import Derived.Lib.BufferWrite

/-
  The program's steps are the plain cipher's; contract of aes.Cipher.Do. Conditions: the cipher has its rounds, words and boxes; the words are bytes.
-/
namespace Go.Proofs.Ytedoggejbhbebaa
namespace Aes
open Go.ChangeShapes Go.WideShapes Go.ChangeAt Go.RowKit Go.Great Go.ChangeMaps
open Gf
set_option linter.unusedVariables false
set_option maxRecDepth 100000

theorem turned_shifted (x : Nat → Nat) (i : Nat) (hi : i < 16) : turnedBy 1 x i = shifted x i := by
  unfold turnedBy shifted
  congr 1
  omega
theorem turned_unshifted (x : Nat → Nat) (i : Nat) (hi : i < 16) : turnedBy 3 x i = unshifted x i := by
  unfold turnedBy unshifted
  congr 1
  omega
theorem mul_mixed {x : Nat → Nat} (hx : Bytes x) (i : Nat) (hi : i < 16) : mulBy (col4 2 3 1 1) x i = mixed x i := by
  show (((0 ^^^ times (x (down i 0)) 2) ^^^ times (x (down i 1)) 3) ^^^ times (x (down i 2)) 1) ^^^ times (x (down i 3)) 1 = _
  rw [Nat.zero_xor, down_zero, times_one (hx _ (down_lt hi)), times_one (hx _ (down_lt hi))]
  rfl
theorem mul_unmixed (x : Nat → Nat) (i : Nat) : mulBy (col4 14 11 13 9) x i = unmixed x i := by
  show (((0 ^^^ times (x (down i 0)) 14) ^^^ times (x (down i 1)) 11) ^^^ times (x (down i 2)) 13) ^^^ times (x (down i 3)) 9 = _
  rw [Nat.zero_xor, down_zero]
  rfl
theorem col4_lt {a b c d : Nat} (ha : a < 256) (hb : b < 256) (hc : c < 256) (hd : d < 256) : ∀ i < 4, col4 a b c d i < 256 := by
  intro i hi
  match i, hi with
  | 0, _ => exact ha
  | 1, _ => exact hb
  | 2, _ => exact hc
  | 3, _ => exact hd

/-- A cipher and a block in block gx. -/
structure Cy (g R : Nat) (W T B : Nat → Nat) (w : World) (gx : Nat) (s : Nat → Nat) (X : World) : Prop where
  cip : Cip g R W T B X
  row : Wd .u8 120 gx (allF s 16) X
  far : w.heap.size ≤ gx
  lt : g < w.heap.size
  below : Below w.heap.size w X
theorem Cy.next {g R : Nat} {W T B : Nat → Nat} {w : World} {gx : Nat} {s : Nat → Nat} {X Y : World} (h : Cy g R W T B w gx s X) (hb : Below X.heap.size X Y) : Cy g R W T B w gx s Y :=
  ⟨h.cip.next hb, keepBlock h.row hb, h.far, h.lt, below_link h.below hb⟩
theorem Cip.far {g R : Nat} {W T B : Nat → Nat} {X : World} (h : Cip g R W T B X) {gx : Nat} (hg : g ≠ gx) (c : Array Value) : Cip g R W T B (X.setRow gx c) := by
  have e : ∀ j, (X.setRow gx c).cell? ⟨g, j, none⟩ = X.cell? ⟨g, j, none⟩ := fun j => cell_setRow_other X gx c ⟨g, j, none⟩ hg
  exact ⟨by simpa using h.lt, by rw [e]; exact h.rounds, fun j hj => by rw [e]; exact h.words j hj, fun j hj => by rw [e]; exact h.there j hj, fun j hj => by rw [e]; exact h.back j hj⟩
theorem Cy.put {g R : Nat} {W T B : Nat → Nat} {w : World} {gx : Nat} {s : Nat → Nat} {X : World} (h : Cy g R W T B w gx s X) (t : Nat → Nat) : Cy g R W T B w gx t (X.setRow gx (valsK .u8 (allF t 16))) :=
  ⟨h.cip.far (by have := h.far; have := h.lt; omega) _, h.row.setRow _, h.far, h.lt, below_setRow h.below h.far _⟩
theorem Cy.same {g R : Nat} {W T B : Nat → Nat} {w : World} {gx : Nat} {s t : Nat → Nat} {X : World} (h : Cy g R W T B w gx s X) (e : Same s t) : Cy g R W T B w gx t X :=
  ⟨h.cip, by rw [← allF_congr e]; exact h.row, h.far, h.lt, h.below⟩
theorem Cy.drew {g R : Nat} {W T B : Nat → Nat} {w : World} {gx : Nat} {s : Nat → Nat} {X : World} (h : Cy g R W T B w gx s X) : Cy g R W T B w gx s X.drew := ⟨⟨h.cip.lt, h.cip.rounds, h.cip.words, h.cip.there, h.cip.back⟩, h.row, h.far, h.lt, h.below.drew⟩

/-- A block's sixteen. -/
def row16 (s : Nat → Nat) : Array Value := #[.int .u8 (s 0 : Nat), .int .u8 (s 1 : Nat), .int .u8 (s 2 : Nat), .int .u8 (s 3 : Nat), .int .u8 (s 4 : Nat), .int .u8 (s 5 : Nat), .int .u8 (s 6 : Nat), .int .u8 (s 7 : Nat), .int .u8 (s 8 : Nat), .int .u8 (s 9 : Nat), .int .u8 (s 10 : Nat), .int .u8 (s 11 : Nat), .int .u8 (s 12 : Nat), .int .u8 (s 13 : Nat), .int .u8 (s 14 : Nat), .int .u8 (s 15 : Nat)]
theorem row16_eq (s : Nat → Nat) : valsK .u8 (allF s 16) = row16 s := rfl
theorem cells16 {gx : Nat} {s : Nat → Nat} {X : World} (h : Wd .u8 120 gx (allF s 16) X) : X.cell? ⟨gx, 0, none⟩ = some (.int .u8 (s 0 : Nat)) ∧ X.cell? ⟨gx, 1, none⟩ = some (.int .u8 (s 1 : Nat)) ∧ X.cell? ⟨gx, 2, none⟩ = some (.int .u8 (s 2 : Nat)) ∧ X.cell? ⟨gx, 3, none⟩ = some (.int .u8 (s 3 : Nat)) ∧ X.cell? ⟨gx, 4, none⟩ = some (.int .u8 (s 4 : Nat)) ∧ X.cell? ⟨gx, 5, none⟩ = some (.int .u8 (s 5 : Nat)) ∧ X.cell? ⟨gx, 6, none⟩ = some (.int .u8 (s 6 : Nat)) ∧ X.cell? ⟨gx, 7, none⟩ = some (.int .u8 (s 7 : Nat)) ∧ X.cell? ⟨gx, 8, none⟩ = some (.int .u8 (s 8 : Nat)) ∧ X.cell? ⟨gx, 9, none⟩ = some (.int .u8 (s 9 : Nat)) ∧ X.cell? ⟨gx, 10, none⟩ = some (.int .u8 (s 10 : Nat)) ∧ X.cell? ⟨gx, 11, none⟩ = some (.int .u8 (s 11 : Nat)) ∧ X.cell? ⟨gx, 12, none⟩ = some (.int .u8 (s 12 : Nat)) ∧ X.cell? ⟨gx, 13, none⟩ = some (.int .u8 (s 13 : Nat)) ∧ X.cell? ⟨gx, 14, none⟩ = some (.int .u8 (s 14 : Nat)) ∧ X.cell? ⟨gx, 15, none⟩ = some (.int .u8 (s 15 : Nat)) :=
  have c : ∀ j, j < 16 → X.cell? ⟨gx, j, none⟩ = some (.int .u8 (s j : Nat)) := fun j hj => h.cell (allF_get s 16 j hj)
  ⟨c 0 (by decide), c 1 (by decide), c 2 (by decide), c 3 (by decide), c 4 (by decide), c 5 (by decide), c 6 (by decide), c 7 (by decide), c 8 (by decide), c 9 (by decide), c 10 (by decide), c 11 (by decide), c 12 (by decide), c 13 (by decide), c 14 (by decide), c 15 (by decide)⟩

theorem turn_same (s : Nat → Nat) : Same (turnedBy 1 fun i => sub (s i)) (subbed s) := fun i hi => turned_shifted _ i hi
theorem turn_bytes {s : Nat → Nat} (h : Bytes s) : Bytes (turnedBy 1 fun i => sub (s i)) := (turn_same s).bytes (subbed_bytes h)
theorem mul_same {s t : Nat → Nat} (hb : Bytes s) (h : Same s t) : Same (mulBy (col4 2 3 1 1) s) (mixed t) := fun i hi => (mul_mixed hb i hi).trans (mixed_same h i hi)
theorem mul_bytes {s f : Nat → Nat} (hb : Bytes s) : Bytes (mulBy f s) := fun i hi => accTo_lt hb hi 4

theorem do_short (g : Nat) (b : ByteArray) (w : World) (hb : b.size ≠ 16) :
    Calls Try.prog 67 #[.pointer (some ⟨g, 0, none⟩), .string b] w fun e w' => e = .returned (.string ⟨#[]⟩) ∧ w' = w := by
  have d1 : ((b.size : Int) != 16) = true := by simp; omega
  have d2 : ¬ (b.size : Int) = 16 := by omega
  have HB := Lib.hid hb; clear hb
  go_enter Try.func67, Try.ntmps67
  go_wp2
  go_ret
  exact ⟨rfl, rfl⟩

set_option maxHeartbeats 8000000 in
theorem do_any (g R : Nat) (W : Nat → Nat) (b : ByteArray) (w : World) (hb : b.size = 16) (hW : ∀ j, W j < 256) (hR0 : 1 ≤ R) (hR : R ≤ 14) (hC : Cip g R W sub unsub w) :
    Calls Try.prog 67 #[.pointer (some ⟨g, 0, none⟩), .string b] w fun e w' => e = .returned (.string (toB (allF (done W R (byteAt b)) 16))) ∧ Below w.heap.size w w' := by
  have hz := zero16.1
  have hne := zeros16_ne .u8
  have d1 : ((b.size : Int) != 16) = false := by simp; omega
  have d2 : (b.size : Int) = 16 := by omega
  have HB := Lib.hid hb
  have HW := Lib.hid hW
  have HR := Lib.hid (And.intro hR0 hR)
  have HC := Lib.hid hC
  have hbb : Bytes (byteAt b) := fun i _ => byteAt_lt b i
  have hbytes : ∀ k ≤ R, Bytes (doneTo W R (byteAt b) k) := fun k hk => doneTo_bytes (fun j _ => hW j) hbb k hk
  obtain ⟨S, hS⟩ : ∃ S, S = doneTo W R (byteAt b) := ⟨_, rfl⟩
  have hS0 : S 0 = added W 0 (byteAt b) := by rw [hS]; rfl
  have hS1 : ∀ k, S (k + 1) = roundOf W R (k + 1) (S k) := fun k => by rw [hS]; rfl
  have hSe : done W R (byteAt b) = S R := by rw [hS]; rfl
  rw [hSe]
  rw [← hS] at hbytes
  have HSS := Lib.hid (And.intro hS0 (And.intro hS1 hbytes))
  have HBL := Lib.hid (fun X => blockOf_any b X hb)
  have HM0 : Hid (∀ X, Cip g R W sub unsub X → Calls Try.prog 79 #[.pointer (some ⟨g, 0, none⟩), .agg (valsK .u8 (allF (byteAt b) 16)), .int .i64 0] X fun e w' => e = .returned (.agg (valsK .u8 (allF (S 0) 16))) ∧ Below X.heap.size X w') := Lib.hid (fun X hX => by
    rw [hS0]; exact mixed_any (byteAt b) 0 g R W sub unsub X hbb (fun j _ => hW j) (by decide) hX)
  clear hb hW hR0 hR hC hbb hbytes hS hS0 hS1 hSe
  go_enter Try.func67, Try.ntmps67
  go_wp2_with fail
  refine (HBL.out _).mono ?_
  rintro e w1 ⟨rfl, hb1⟩
  have HC1 := Lib.hid (HC.out.next hb1)
  have HB1 := Lib.hid hb1; clear hb1
  go_wp2_with fail
  refine (HM0.out _ HC1.out).mono ?_
  rintro e w2 ⟨rfl, hb2⟩
  obtain ⟨gx, hgx⟩ : ∃ gx, gx = w2.heap.size := ⟨_, rfl⟩
  have hcy : Cy g R W sub unsub w gx (S 0) ((w2.alloc (.cells (valsK .u8 (zerosN 16)) 120)).setRow gx (valsK .u8 (allF (S 0) 16))) := by
    have hb3 := below_link HB1.out hb2
    have hc3 := (HC1.out.next hb2).next ((Below.refl w2.heap.size w2).alloc (Nat.le_refl _) (.cells (valsK .u8 (zerosN 16)) 120))
    refine ⟨hc3.far ?_ _, ?_, by rw [hgx]; exact hb3.size, HC.out.lt, below_setRow (below_alloc hb3 _) (by rw [hgx]; exact hb3.size) _⟩
    · have := HC.out.lt; have := hb3.size; omega
    · rw [hgx]; exact Wd.setRow (heap_alloc_new w2 _) _
  have HCY := Lib.hid hcy
  have st := storeOld (w2.alloc (.cells (valsK .u8 (zerosN 16)) 120)) gx 120 (valsK .u8 (zerosN 16)) (valsK .u8 (allF (S 0) 16)) (by rw [hgx]; exact heap_alloc_new w2 _) (by rw [valsK_size, valsK_size, allF_length]; rfl) (valsK_one _ _)
  have hgx' := hgx.symm
  clear hcy hb2 hgx
  go_wp2
  clear st
  generalize (w2.alloc (.cells (valsK .u8 (zerosN 16)) 120)).setRow gx (valsK .u8 (allF (S 0) 16)) = wq at *
  go_loopw [6] (fun i wr => ∃ k : Nat, k ≤ R ∧ i = .int .i64 ((k + 1 : Nat) : Int) ∧ Cy g R W sub unsub w gx (S k) wr) (fun i _ => R + 1 - (intOf i).toNat)
  case atStart => exact ⟨0, Nat.zero_le _, rfl, HCY.out⟩
  case round =>
    obtain ⟨k, hk, rfl, hcy⟩ := hrel
    obtain ⟨r, hr⟩ : ∃ r, r = k + 1 := ⟨_, rfl⟩
    rw [← hr]
    have crounds := hcy.cip.rounds
    have HQ := Lib.hid hcy; clear hcy
    by_cases hlt : k < R
    · have g1 : decide ((r : Int) ≤ (R : Int)) = true := by simp; omega
      have g2 : decide (r ≤ R) = true := by simp; omega
      obtain ⟨s0, hs0⟩ : ∃ s, s = S k := ⟨_, rfl⟩
      rw [← hs0] at HQ
      have HS0 := Lib.hid hs0; clear hs0
      have hby : Bytes s0 := by rw [HS0.out]; exact HSS.out.2.2 k (by omega)
      have HBY := Lib.hid hby
      obtain ⟨s1, hs1⟩ : ∃ s : Nat → Nat, s = fun i => sub (s0 i) := ⟨_, rfl⟩
      obtain ⟨s2, hs2⟩ : ∃ s : Nat → Nat, s = turnedBy 1 s1 := ⟨_, rfl⟩
      have C1 : Hid (∀ X, Cip g R W sub unsub X → Calls Try.prog 81 #[.agg (row16 s0), .pointer (some ⟨g, 241, none⟩)] X fun e w' => e = .returned (.agg (valsK .u8 (allF s1 16))) ∧ Below X.heap.size X w') := Lib.hid (fun X hX => by
        rw [hs1]; exact block_any s0 sub g 241 X hby ⟨hX.lt, hX.there⟩)
      have C2 : Hid (∀ X, Calls Try.prog 82 #[.agg (valsK .u8 (allF s1 16)), .int .i64 1] X fun e w' => e = .returned (.agg (valsK .u8 (allF s2 16))) ∧ Below X.heap.size X w') := Lib.hid (fun X => by
        rw [hs2]; exact rotated_any s1 1 X (by decide))
      have HS2 := Lib.hid (show Bytes s2 ∧ Same s2 (subbed s0) from by rw [hs2, hs1]; exact ⟨turn_bytes hby, turn_same s0⟩)
      obtain ⟨y0, y1, y2, y3, y4, y5, y6, y7, y8, y9, y10, y11, y12, y13, y14, y15⟩ := cells16 HQ.out.row
      have hrl : r ≤ 15 := by have := HR.out.2; omega
      have HK := Lib.hid hk
      have HLT := Lib.hid hlt
      have HRR := Lib.hid hr
      clear hk hlt hr hby hs1 hs2 hz hne
      go_wp2
      unfold row16 at C1
      go_region_with (first | (go_at_call 81; with_reducible refine (C1.out _ HQ.out.drew.cip).mono ?_; rintro e w3 ⟨rfl, hb3⟩; have HQ3 := Lib.hid (HQ.out.drew.next hb3); clear hb3) | (go_at_call 82; with_reducible refine (C2.out _).mono ?_; rintro e w4 ⟨rfl, hb4⟩; have HQ4 := Lib.hid (HQ3.out.next hb4); have st := storeOld w4 gx 120 (valsK .u8 (allF s0 16)) (valsK .u8 (allF s2 16)) HQ4.out.row (by rw [valsK_size, valsK_size, allF_length, allF_length]) (valsK_one _ _); clear hb4))
      have H5 := Lib.hid (HQ4.out.put s2)
      clear HQ3 HQ4 st y0 y1 y2 y3 y4 y5 y6 y7 y8 y9 y10 y11 y12 y13 y14 y15 C1 C2 crounds g1 g2
      generalize w4.setRow gx (valsK .u8 (allF s2 16)) = wy at *
      have cr := H5.out.cip.rounds
      by_cases hlr : r < R
      · have g1 : decide ((r : Int) < (R : Int)) = true := by simp; omega
        have g2 : decide (r < R) = true := by simp; omega
        obtain ⟨s3, hs3⟩ : ∃ s : Nat → Nat, s = mulBy (col4 2 3 1 1) s2 := ⟨_, rfl⟩
        obtain ⟨s4, hs4⟩ : ∃ s : Nat → Nat, s = added W r s3 := ⟨_, rfl⟩
        have C3 : Hid (∀ X, Calls Try.prog 83 #[.agg (valsK .u8 (allF s2 16)), .agg #[.int .u8 2, .int .u8 3, .int .u8 1, .int .u8 1]] X fun e w' => e = .returned (.agg (valsK .u8 (allF s3 16))) ∧ Below X.heap.size X w') := Lib.hid (fun X => by
          rw [hs3]; exact multiplied_any s2 (col4 2 3 1 1) X HS2.out.1 (col4_lt (by decide) (by decide) (by decide) (by decide)))
        have hb3 : Bytes s3 := by rw [hs3]; exact mul_bytes HS2.out.1
        have C4 : Hid (∀ X, Cip g R W sub unsub X → Calls Try.prog 79 #[.pointer (some ⟨g, 0, none⟩), .agg (valsK .u8 (allF s3 16)), .int .i64 (r : Nat)] X fun e w' => e = .returned (.agg (valsK .u8 (allF s4 16))) ∧ Below X.heap.size X w') := Lib.hid (fun X hX => by
          rw [hs4]; exact mixed_any s3 r g R W sub unsub X hb3 (fun j _ => HW.out j) (by have := HR.out.2; omega) hX)
        have hsame : Same s4 (S (k + 1)) := by
          rw [HSS.out.2.1 k, ← HRR.out, ← HS0.out, hs4, hs3]
          unfold roundOf
          rw [if_pos hlr]
          exact added_same (mul_same HS2.out.1 HS2.out.2)
        have HSAME := Lib.hid hsame
        clear hsame hs3 hs4 hb3 hlr
        go_wp2_with (refine load_whole (by rfl) 120 _ (by rfl) _ (by rfl) (allF s2 16) ?_ under16 ?_ ?_; exact H5.out.row; (rw [valsK_size, allF_length]; exact zero16.2))
        refine (C3.out _).mono ?_
        rintro e w5 ⟨rfl, hb5⟩
        have H6 := Lib.hid (H5.out.next hb5)
        have H7 := Lib.hid ((H5.out.next hb5).put s3)
        clear hb5
        go_wp2_with (first | (refine store_whole (by rfl) 120 _ _ (by rfl) _ (by rfl) (allF s3 16) (allF s2 16) (by rfl) ?_ ?_ ?_ ?_; exact H6.out.row; (rw [valsK_size, valsK_size, allF_length, allF_length]); (rw [valsK_size, allF_length]; exact zero16.2)) | (refine load_whole (by rfl) 120 _ (by rfl) _ (by rfl) (allF s3 16) ?_ under16 ?_ ?_; exact H7.out.row; (rw [valsK_size, allF_length]; exact zero16.2)))
        refine (C4.out _ H7.out.cip).mono ?_
        rintro e w6 ⟨rfl, hb6⟩
        have H8 := Lib.hid (H7.out.next hb6)
        have H9 := Lib.hid (((H7.out.next hb6).put s4).same HSAME.out)
        clear hb6
        go_wp2_with (refine store_whole (by rfl) 120 _ _ (by rfl) _ (by rfl) (allF s4 16) (allF s3 16) (by rfl) ?_ ?_ ?_ ?_; exact H8.out.row; (rw [valsK_size, valsK_size, allF_length, allF_length]); (rw [valsK_size, allF_length]; exact zero16.2))
        go_roundw
        case rel => exact ⟨k + 1, by have := HLT.out; omega, by rw [HRR.out]; go_num, H9.out⟩
        case measure => have := HRR.out; have := HLT.out; simp [intOf]; omega
      · have g1 : decide ((r : Int) < (R : Int)) = false := by simp; omega
        have g2 : decide (r < R) = false := by simp; omega
        obtain ⟨s4, hs4⟩ : ∃ s : Nat → Nat, s = added W r s2 := ⟨_, rfl⟩
        have C4 : Hid (∀ X, Cip g R W sub unsub X → Calls Try.prog 79 #[.pointer (some ⟨g, 0, none⟩), .agg (valsK .u8 (allF s2 16)), .int .i64 (r : Nat)] X fun e w' => e = .returned (.agg (valsK .u8 (allF s4 16))) ∧ Below X.heap.size X w') := Lib.hid (fun X hX => by
          rw [hs4]; exact mixed_any s2 r g R W sub unsub X HS2.out.1 (fun j _ => HW.out j) (by have := HR.out.2; have := HLT.out; have := HRR.out; omega) hX)
        have hsame : Same s4 (S (k + 1)) := by
          rw [HSS.out.2.1 k, ← HRR.out, ← HS0.out, hs4]
          unfold roundOf
          rw [if_neg hlr]
          exact added_same HS2.out.2
        have HSAME := Lib.hid hsame
        clear hsame hs4 hlr
        go_wp2_with (refine load_whole (by rfl) 120 _ (by rfl) _ (by rfl) (allF s2 16) ?_ under16 ?_ ?_; exact H5.out.row; (rw [valsK_size, allF_length]; exact zero16.2))
        refine (C4.out _ H5.out.cip).mono ?_
        rintro e w6 ⟨rfl, hb6⟩
        have H8 := Lib.hid (H5.out.next hb6)
        have H9 := Lib.hid (((H5.out.next hb6).put s4).same HSAME.out)
        clear hb6
        go_wp2_with (refine store_whole (by rfl) 120 _ _ (by rfl) _ (by rfl) (allF s4 16) (allF s2 16) (by rfl) ?_ ?_ ?_ ?_; exact H8.out.row; (rw [valsK_size, valsK_size, allF_length, allF_length]); (rw [valsK_size, allF_length]; exact zero16.2))
        go_roundw
        case rel => exact ⟨k + 1, by have := HLT.out; omega, by rw [HRR.out]; go_num, H9.out⟩
        case measure => have := HRR.out; have := HLT.out; simp [intOf]; omega
    · obtain rfl : k = R := by omega
      have g1 : decide ((r : Int) ≤ (k : Int)) = false := by simp; omega
      have g2 : decide (r ≤ k) = false := by simp; omega
      have C5 := Lib.hid (fun X => text_any (S k) X (HSS.out.2.2 k hk))
      have HRR := Lib.hid hr
      clear hr
      go_wp2_with (refine load_whole (by rfl) 120 _ (by rfl) _ (by rfl) (allF (S k) 16) ?_ under16 ?_ ?_; exact HQ.out.row; (rw [valsK_size, allF_length]; exact zero16.2))
      refine (C5.out _).mono ?_
      rintro e w5 ⟨rfl, hb5⟩
      have HB5 := Lib.hid (below_link HQ.out.below hb5)
      clear hb5
      go_wp2
      go_ret
      exact ⟨rfl, HB5.out⟩

end Aes
end Go.Proofs.Ytedoggejbhbebaa

/-
  A cipher's block in the making; a key's four bytes copied into it. Conditions: the text has four bytes at least.
-/
namespace Go.Proofs.Ytedoggejbhbebaa
namespace Aes
open Go.ChangeShapes Go.WideShapes Go.ChangeAt Go.RowKit Go.Great Go.ChangeMaps
open Gf
set_option linter.unusedVariables false
set_option maxRecDepth 100000

/-- The cells of a cipher: its rounds, and 752 bytes. -/
def cipCells (R : Nat) (l : List Nat) : Array Value := #[.int .i64 (R : Nat)] ++ valsK .u8 l
theorem cip_zero (R : Nat) (l : List Nat) : (cipCells R l)[0]? = some (.int .i64 (R : Nat)) := by
  unfold cipCells
  rw [Array.getElem?_append_left (show 0 < 1 by decide)]
  rfl
theorem cip_next (R : Nat) (l : List Nat) (j x : Nat) (h : l[j]? = some x) : (cipCells R l)[1 + j]? = some (.int .u8 (x : Nat)) := by
  unfold cipCells
  rw [Array.getElem?_append_right (by show 1 ≤ 1 + j; omega)]
  show (valsK .u8 l)[1 + j - 1]? = _
  rw [Nat.add_sub_cancel_left]
  exact valsK_get _ _ _ _ h
theorem cip_size (R : Nat) (l : List Nat) : (cipCells R l).size = 1 + l.length := by
  unfold cipCells
  rw [Array.size_append, valsK_size]
  rfl
theorem cip_set0 (R r : Nat) (l : List Nat) : (cipCells R l).setIfInBounds 0 (.int .i64 (r : Nat)) = cipCells r l := by
  apply Array.ext_getElem?
  intro j
  rw [Array.getElem?_setIfInBounds]
  rcases j with _ | j
  · rw [if_pos rfl, if_pos (by rw [cip_size]; omega), cip_zero]
  · rw [if_neg (by omega)]
    unfold cipCells
    rw [Array.getElem?_append_right (by show 1 ≤ j + 1; omega), Array.getElem?_append_right (by show 1 ≤ j + 1; omega)]
    rfl
theorem cip_set (R : Nat) (l : List Nat) (j v : Nat) : (cipCells R l).setIfInBounds (1 + j) (.int .u8 (v : Nat)) = cipCells R (l.set j v) := by
  apply Array.ext_getElem?
  intro i
  rw [Array.getElem?_setIfInBounds]
  by_cases e : 1 + j = i
  · subst e
    rw [if_pos rfl, cip_size]
    by_cases hj : j < l.length
    · rw [if_pos (by omega), cip_next R (l.set j v) j v (by rw [List.getElem?_set_self hj])]
    · rw [if_neg (by omega), Array.getElem?_eq_none (by rw [cip_size, List.length_set]; omega)]
  · rw [if_neg e]
    rcases i with _ | i
    · rw [cip_zero, cip_zero]
    · have hi : j ≠ i := by omega
      unfold cipCells
      rw [Array.getElem?_append_right (by show 1 ≤ i + 1; omega), Array.getElem?_append_right (by show 1 ≤ i + 1; omega)]
      show (valsK .u8 l)[i]? = (valsK .u8 (l.set j v))[i]?
      unfold valsK
      rw [List.getElem?_toArray, List.getElem?_toArray, List.getElem?_map, List.getElem?_map, List.getElem?_map, List.getElem?_map, List.getElem?_set_ne hi]

/-- A cipher's block. -/
abbrev Cb (g R : Nat) (l : List Nat) (X : World) : Prop := X.heap[g]? = some (.cells (cipCells R l) 111 (0, 0))
theorem Cb.rounds {g R : Nat} {l : List Nat} {X : World} (h : Cb g R l X) : X.cell? ⟨g, 0, none⟩ = some (.int .i64 (R : Nat)) := by
  rw [cell_of_row _ _ _ _ _ _ h]; exact cip_zero R l
theorem Cb.cell {g R : Nat} {l : List Nat} {X : World} (h : Cb g R l X) {j x : Nat} (hx : l[j]? = some x) : X.cell? ⟨g, 1 + j, none⟩ = some (.int .u8 (x : Nat)) := by
  rw [cell_of_row _ _ _ _ _ _ h]; exact cip_next R l j x hx
theorem Cb.frozen {g R : Nat} {l : List Nat} {X : World} (h : Cb g R l X) (j : Nat) : X.frozen? ⟨g, j, none⟩ = false := frozen_of_row _ _ _ _ _ h
theorem Cb.set0 {g R : Nat} {l : List Nat} {X : World} (h : Cb g R l X) (r : Nat) : Cb g r l (X.setCell ⟨g, 0, none⟩ (.int .i64 (r : Nat))) := by
  unfold Cb; rw [heap_setCell_same _ _ _ _ _ _ h, cip_set0]
theorem Cb.set {g R : Nat} {l : List Nat} {X : World} (h : Cb g R l X) (j v : Nat) : Cb g R (l.set j v) (X.setCell ⟨g, 1 + j, none⟩ (.int .u8 (v : Nat))) := by
  unfold Cb; rw [heap_setCell_same _ _ _ _ _ _ h, cip_set]
theorem Cb.put4 {g R : Nat} {l : List Nat} {X : World} (h : Cb g R l X) (o : Nat) (d : Nat → Nat) : Cb g R (set4 l o d) (Aes.put4 X g (1 + o) d) := by
  rw [put4_eq]
  exact (((h.set o (d 0)).set (o + 1) (d 1)).set (o + 2) (d 2)).set (o + 3) (d 3)
theorem Cb.far {g R : Nat} {l : List Nat} {X : World} (h : Cb g R l X) (g' j : Nat) (v : Value) (hg : g ≠ g') : Cb g R l (X.setCell ⟨g', j, none⟩ v) := by
  unfold Cb; rw [heap_setCell_other _ _ _ _ (by simp only []; exact hg)]; exact h
theorem Cb.there {g R : Nat} {l : List Nat} {X : World} (h : Cb g R l X) (o : Nat) (ho : o + 4 ≤ l.length) : X.there g (1 + o) 4 := fun j hj => by
  obtain ⟨z, hz⟩ : ∃ z, l[o + j]? = some z := ⟨_, List.getElem?_eq_getElem (by omega)⟩
  exact ⟨by rw [Nat.add_assoc, h.cell hz]; rfl, h.frozen _⟩

theorem run_copy4 (ty : TypeId) (X : World) (g o c : Nat) (s : ByteArray) (d : Nat → Nat) (hs : 4 ≤ s.size) (hd : ∀ j < 4, byteAt s j = d j) (ht : X.there g o 4) :
    (Builtin.copy_ #[97, 9] ty #[.slice (some ⟨g, o, none⟩) 4 c, .string s]).run Try.prog X = .ok (goInt 4) (put4 X g o d) := by
  obtain ⟨i0, hi⟩ := info8
  have hmin : Nat.min s.size 4 = 4 := Nat.min_eq_right hs
  have hl : List.take 4 (List.map (fun b : UInt8 => Value.int IntKind.u8 (b.toNat : Int)) s.data.toList) = (valsK .u8 (allF d 4)).toList := by
    apply List.ext_getElem?
    intro j
    rw [List.getElem?_take]
    by_cases hj : j < 4
    · have h1 : (valsK .u8 (allF d 4)).toList[j]? = some (.int .u8 (d j : Nat)) := by
        rw [Array.getElem?_toList]; exact valsK_get .u8 _ _ _ (allF_get d 4 j hj)
      have h2 : s.data.toList[j]? = some s[j] := by
        rw [List.getElem?_eq_getElem (by have : s.data.size = s.size := rfl; rw [Array.length_toList]; omega)]
        rfl
      rw [if_pos hj, h1, ← hd j hj, byteAt_get s j (by omega), List.getElem?_map, h2]
      rfl
    · rw [if_neg hj, List.getElem?_eq_none (by rw [Array.length_toList, valsK_size, allF_length]; omega)]
  have hst := storePut X g o d ht
  rw [← hl] at hst
  simp [Builtin.copy_, run_underlying Try.underlying97, Builtin.lenOf, hmin, sizeOf, typeInfo, hi, Builtin.firstCells, Sem.run_bind, go_sem, hst]

end Aes
end Go.Proofs.Ytedoggejbhbebaa
