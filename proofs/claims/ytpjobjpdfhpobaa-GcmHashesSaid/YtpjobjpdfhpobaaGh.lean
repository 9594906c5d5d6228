/-
  Contract of dromondref08.Hash. Conditions: the block has sixteen bytes, the texts are shorter than 2^20 bytes.
-/
import Derived.Test.YtpjobjpdfhpobaaGe
import Derived.Test.YtpjobjpdfhpobaaGc
namespace Go.Proofs.Ytpjobjpdfhpobaa
namespace Gcm
open Go.ChangeShapes Go.WideShapes Go.ChangeAt Go.RowKit Go.Great Go.ChangeMaps
open Gf Aes
set_option linter.unusedVariables false
set_option maxRecDepth 100000

/-- The factor, the sum. -/
structure Hr (w : World) (gH gS : Nat) (lH lS : List Nat) (X : World) : Prop where
  hH : Wd .u8 26 gH lH X
  hS : Wd .u8 26 gS lS X
  farH : w.heap.size ≤ gH
  farS : w.heap.size ≤ gS
  apart : gH ≠ gS
  below : Below w.heap.size w X
theorem Hr.next {w X Y : World} {gH gS : Nat} {lH lS : List Nat} (h : Hr w gH gS lH lS X) (hb : Below X.heap.size X Y) : Hr w gH gS lH lS Y :=
  ⟨keepBlock h.hH hb, keepBlock h.hS hb, h.farH, h.farS, h.apart, below_link h.below hb⟩
theorem Hr.put {w X : World} {gH gS : Nat} {lH lS : List Nat} (h : Hr w gH gS lH lS X) (l : List Nat) : Hr w gH gS lH l (X.setRow gS (valsK .u8 l)) :=
  ⟨by unfold Wd; rw [setRow_other _ _ _ _ h.apart]; exact h.hH, setRow_heap _ _ _ _ _ _ h.hS, h.farH, h.farS, h.apart, below_setRow h.below h.farS _⟩
theorem Hr.ltS {w X : World} {gH gS : Nat} {lH lS : List Nat} (h : Hr w gH gS lH lS X) : gS < X.heap.size := (Array.getElem?_eq_some_iff.1 h.hS).1
theorem Hr.ltH {w X : World} {gH gS : Nat} {lH lS : List Nat} (h : Hr w gH gS lH lS X) : gH < X.heap.size := (Array.getElem?_eq_some_iff.1 h.hH).1
/-- With the block that comes next. -/
structure Hx (w : World) (gH gS gX : Nat) (lH lS lX : List Nat) (X : World) : Prop where
  hr : Hr w gH gS lH lS X
  hX : Wd .u8 26 gX lX X
  far : gS < gX
theorem Hx.drew {w X : World} {gH gS gX : Nat} {lH lS lX : List Nat} (h : Hx w gH gS gX lH lS lX X) : Hx w gH gS gX lH lS lX X.drew :=
  ⟨⟨h.hr.hH, h.hr.hS, h.hr.farH, h.hr.farS, h.hr.apart, h.hr.below.drew⟩, h.hX, h.far⟩
theorem Hx.step {w X : World} {gH gS gX : Nat} {lH lS lX : List Nat} (h : Hx w gH gS gX lH lS lX X) (j v : Nat) : Hx w gH gS gX lH (lS.set j v) lX (X.setCell ⟨gS, j, none⟩ (.int .u8 (v : Nat))) :=
  ⟨⟨h.hr.hH.far _ _ _ h.hr.apart, h.hr.hS.set j v, h.hr.farH, h.hr.farS, h.hr.apart, h.hr.below.setCell (by simp only []; exact h.hr.farS) _⟩, h.hX.far _ _ _ (by have := h.far; omega), h.far⟩
theorem Hr.more {w X : World} {gH gS : Nat} {lH lS : List Nat} (h : Hr w gH gS lH lS X) (l : List Nat) : Hx w gH gS X.heap.size lH lS l ((X.alloc (.cells (valsK .u8 (zerosN 128)) 26)).setRow X.heap.size (valsK .u8 l)) := by
  have h1 := h.next (below_alloc (Below.refl _ _) (.cells (valsK .u8 (zerosN 128)) 26))
  have h2 := heap_alloc_new X (.cells (valsK .u8 (zerosN 128)) 26)
  have hb : Below X.heap.size (X.alloc (.cells (valsK .u8 (zerosN 128)) 26)) ((X.alloc (.cells (valsK .u8 (zerosN 128)) 26)).setRow X.heap.size (valsK .u8 l)) := below_setRow (Below.refl _ _) (Nat.le_refl _) _
  refine ⟨⟨?_, ?_, h.farH, h.farS, h.apart, below_setRow h1.below h.below.size _⟩, setRow_heap _ _ _ _ _ _ h2, h.ltS⟩
  · unfold Wd; rw [setRow_other _ _ _ _ (by have := h.ltH; omega)]; exact h1.hH
  · unfold Wd; rw [setRow_other _ _ _ _ (by have := h.ltS; omega)]; exact h1.hS

theorem nums_block (b : ByteArray) (k : Nat) (h : 16 * (k + 1) ≤ b.size) : nums (b.extract (16 * k) (16 * (k + 1))) = blockAt (nums b) k := by
  unfold nums blockAt
  rw [← List.map_drop, ← List.map_take]
  congr 1
  simp
  congr 1
  omega

theorem coef_turned_xor (a b j : Nat) : coef (Gf.turned 128 a) j ^^^ coef (Gf.turned 128 b) j = coef (Gf.turned 128 (a ^^^ b)) j := by rw [turned_xor, coef_xor]

set_option maxHeartbeats 8000000 in
theorem rhash_any (h a b : ByteArray) (w : World) (hh : h.size = 16) (ha : a.size ≤ 1048576) (hb : b.size ≤ 1048576) :
    Calls Try.prog 17 #[.string h, .string a, .string b] w fun e w' => e = .returned (.string (blockB (hashN (numB h) (nums a) (nums b)))) ∧ Below w.heap.size w w' := by
  obtain ⟨H, hH⟩ : ∃ H, H = numB h := ⟨_, rfl⟩
  have hHl : H < 2 ^ 128 := by rw [hH]; exact Small.big (nums_lt h) (by rw [nums_length]; exact hh)
  obtain ⟨A, hA⟩ : ∃ A, A = toB (filledL (nums a)) := ⟨_, rfl⟩
  obtain ⟨B, hB⟩ : ∃ B, B = toB (filledL (nums b)) := ⟨_, rfl⟩
  obtain ⟨C, hC⟩ : ∃ C, C = toB (bytes 8 (8 * a.size)) := ⟨_, rfl⟩
  obtain ⟨D, hD⟩ : ∃ D, D = toB (bytes 8 (8 * b.size)) := ⟨_, rfl⟩
  obtain ⟨AB, hAB⟩ : ∃ AB, AB = A ++ B := ⟨_, rfl⟩
  obtain ⟨ABC, hABC⟩ : ∃ ABC, ABC = AB ++ C := ⟨_, rfl⟩
  obtain ⟨ALL, hALL⟩ : ∃ ALL, ALL = ABC ++ D := ⟨_, rfl⟩
  obtain ⟨m, hm⟩ : ∃ m, m = blocksOf a.size + blocksOf b.size + 1 := ⟨_, rfl⟩
  have sA : A.size = 16 * blocksOf a.size := by rw [hA, toB_size, filledL_length, nums_length]
  have sB : B.size = 16 * blocksOf b.size := by rw [hB, toB_size, filledL_length, nums_length]
  have sC : C.size = 8 := by rw [hC, toB_size, bytes_length]
  have sD : D.size = 8 := by rw [hD, toB_size, bytes_length]
  have sAB : AB.size = A.size + B.size := by rw [hAB, ByteArray.size_append]
  have sABC : ABC.size = AB.size + C.size := by rw [hABC, ByteArray.size_append]
  have sALL : ALL.size = 16 * m := by rw [hALL, ByteArray.size_append]; omega
  have hml : m ≤ 140000 := by unfold blocksOf at hm; omega
  have nALL : nums ALL = allL (nums a) (nums b) := by
    rw [hALL, hABC, hAB, nums_append, nums_append, nums_append, hA, hB, hC, hD, nums_toB _ (filledL_small (nums_lt a)), nums_toB _ (filledL_small (nums_lt b)), nums_toB _ (bytes_lt _ _), nums_toB _ (bytes_lt _ _)]
    unfold allL sizes
    rw [nums_length, nums_length, List.append_assoc]
  have c1 : ∀ X : World, (Op.stringOp .add A B).run Try.prog X = .ok (.string AB) X := by rw [hAB]; exact fun X => run_string_add_sum X A B (by unfold blocksOf at sA sB; omega)
  have c2 : ∀ X : World, (Op.stringOp .add AB C).run Try.prog X = .ok (.string ABC) X := by rw [hABC]; exact fun X => run_string_add_sum X AB C (by unfold blocksOf at sA sB; omega)
  have c3 : ∀ X : World, (Op.stringOp .add ABC D).run Try.prog X = .ok (.string ALL) X := by rw [hALL]; exact fun X => run_string_add_sum X ABC D (by unfold blocksOf at sA sB; omega)
  obtain ⟨F, hF⟩ : ∃ F, F = hashFrom H (allL (nums a) (nums b)) 0 := ⟨_, rfl⟩
  have hFm : F m = hashN H (nums a) (nums b) := by rw [hF, hm]; unfold hashN; rw [nums_length, nums_length]
  have hF0 : F 0 = 0 := by rw [hF]; rfl
  have hFS : ∀ k, F (k + 1) = times128 (F k ^^^ big (blockAt (nums ALL) k)) H := fun k => by rw [hF, nALL]; rfl
  have hFl : ∀ k, F k < 2 ^ 128 := fun k => by rw [hF]; exact hashFrom_lt hHl (allL_small (nums_lt a) (nums_lt b)) (by decide) k
  have K1 := Lib.hid (fun X => filled_any a X (by omega))
  have K2 := Lib.hid (fun X => filled_any b X (by omega))
  have K3 := Lib.hid (fun X => bits_any a X (by omega))
  have K4 := Lib.hid (fun X => bits_any b X (by omega))
  have K5 := Lib.hid (fun X => of_any h X hh)
  rw [← hA] at K1
  rw [← hB] at K2
  rw [← hC] at K3
  rw [← hD] at K4
  rw [← hH] at K5 ⊢
  rw [← hFm]
  have HF := Lib.hid (And.intro hF0 (And.intro hFS (And.intro hFl hHl)))
  have HM := Lib.hid (And.intro sALL hml)
  clear hH hHl hA hB hC hD hAB hABC hALL sA sB sC sD sAB sABC nALL hF hFm hF0 hFS hFl sALL hml hm hh ha hb
  have hz := zero128u.1
  have hne := zeros128_ne .u8
  go_enter Try.func17, Try.ntmps17
  go_wp2_with fail
  refine (K1.out _).mono ?_
  rintro e w1 ⟨rfl, h1⟩
  rw [h1]
  clear h1 w1
  go_wp2_with fail
  refine (K2.out _).mono ?_
  rintro e w2 ⟨rfl, h2⟩
  rw [h2]
  clear h2 w2
  go_wp2_with fail
  refine (K3.out _).mono ?_
  rintro e w3 ⟨rfl, hb3⟩
  have HB3 := Lib.hid hb3
  clear hb3
  go_wp2_with fail
  refine (K4.out _).mono ?_
  rintro e w4 ⟨rfl, hb4⟩
  have HB4 := Lib.hid (below_link HB3.out hb4)
  clear hb4
  go_wp2_with fail
  refine (K5.out _).mono ?_
  rintro e w5 ⟨rfl, hb5⟩
  have HB5 := Lib.hid (below_link HB4.out hb5)
  clear hb5
  obtain ⟨LH, hLH⟩ : ∃ LH, LH = polyL (Gf.turned 128 H) := ⟨_, rfl⟩
  have hLHl : LH.length = 128 := by rw [hLH]; exact polyL_length _
  rw [← hLH]
  obtain ⟨gH, hgH⟩ : ∃ gH, gH = w5.heap.size := ⟨_, rfl⟩
  have hrow := heap_alloc_new w5 (.cells (valsK .u8 (zerosN 128)) 26)
  rw [← hgH] at hrow
  have st := storeOld (w5.alloc (.cells (valsK .u8 (zerosN 128)) 26)) gH 26 (valsK .u8 (zerosN 128)) (valsK .u8 LH) hrow (by rw [valsK_size, valsK_size, hLHl]; rfl) (valsK_one _ _)
  obtain ⟨wA, hwA⟩ : ∃ wA, wA = (w5.alloc (.cells (valsK .u8 (zerosN 128)) 26)).setRow gH (valsK .u8 LH) := ⟨_, rfl⟩
  have hsA : wA.heap.size = gH + 1 := by rw [hwA]; simp [World.setRow, hgH]
  have hHA : Wd .u8 26 gH LH wA := by rw [hwA]; exact setRow_heap _ _ _ _ _ _ hrow
  have hbA : Below w.heap.size w wA := by rw [hwA]; exact below_setRow (below_alloc HB5.out _) (by rw [hgH]; exact HB5.out.size) _
  have hfarH : w.heap.size ≤ gH := by rw [hgH]; exact HB5.out.size
  have hrB : Hr w gH (gH + 1) LH (zerosN 128) (wA.alloc (.cells (valsK .u8 (zerosN 128)) 26)) :=
    ⟨keepAlloc hHA _, by rw [← hsA]; exact heap_alloc_new wA _, hfarH, by omega, by omega, below_alloc hbA _⟩
  rw [← hwA] at st
  have HR := Lib.hid hrB
  have hsz : (valsK .u8 LH).size = 128 := by rw [valsK_size]; exact hLHl
  have HLH := Lib.hid (And.intro hLH hLHl)
  have hgH' := hgH.symm
  clear hLH hLHl hrow hwA hHA hbA hrB hgH hfarH K1 K2 K3 K4 K5 HB3 HB4
  go_wp2
  clear st hsz c1 c2 c3 hsA HB5 hgH'
  obtain ⟨gS, hgS⟩ : ∃ gS, gS = gH + 1 := ⟨_, rfl⟩
  rw [← hgS] at HR ⊢
  clear hgS
  have hHL := HM.out.2
  have HTM : Hid (∀ (v : Nat) (X : World), v < 2 ^ 128 → Calls Try.prog 11 #[.agg (valsK .u8 (polyL (Gf.turned 128 v))), .agg (valsK .u8 LH)] X fun e w' => e = .returned (.agg (valsK .u8 (polyL (Gf.turned 128 (times128 v H))))) ∧ Below X.heap.size X w') := Lib.hid (fun v X hv => by
    rw [HLH.out.1, ← block_accT hv HF.out.2.2.2]
    exact ptimes_any (Gf.turned 128 v) (Gf.turned 128 H) X (turned_lt 128 v) (turned_lt 128 H))
  go_loopw [10] (fun x wr => ∃ k : Nat, k ≤ m ∧ x = .int .i64 ((16 * k : Nat) : Int) ∧ Hr w gH gS LH (polyL (Gf.turned 128 (F k))) wr) (fun x _ => 16 * m + 16 - (intOf x).toNat)
  case atStart => exact ⟨0, Nat.zero_le _, rfl, by rw [HF.out.1, turned_zero, polyL_zero]; exact HR.out⟩
  case round =>
    obtain ⟨k, hk, rfl, hS⟩ := hrel
    clear HR
    obtain ⟨o, ho⟩ : ∃ o, o = 16 * k := ⟨_, rfl⟩
    rw [← ho]
    have hsALL := HM.out.1
    by_cases hlt : k < m
    · obtain ⟨o2, ho2⟩ : ∃ o2, o2 = 16 * (k + 1) := ⟨_, rfl⟩
      have hEx : ALL.extract o o2 = ALL.extract (16 * k) (16 * (k + 1)) := by rw [ho, ho2]
      have hEs : (ALL.extract o o2).size = 16 := by simp [ByteArray.size_extract]; omega
      obtain ⟨V, hV⟩ : ∃ V, V = numB (ALL.extract o o2) := ⟨_, rfl⟩
      have hVb : V = big (blockAt (nums ALL) k) := by rw [hV, hEx]; unfold numB; rw [nums_block ALL k (by omega)]
      have K6 := Lib.hid (fun X => of_any (ALL.extract o o2) X hEs)
      rw [← hV] at K6
      obtain ⟨U, hU⟩ : ∃ U, U = F k := ⟨_, rfl⟩
      obtain ⟨Z, hZ⟩ : ∃ Z, Z = U ^^^ V := ⟨_, rfl⟩
      have hUl : U < 2 ^ 128 := by rw [hU]; exact HF.out.2.2.1 k
      have hVl : V < 2 ^ 128 := by rw [hV]; exact Small.big (nums_lt _) (by rw [nums_length]; exact hEs)
      have hZl : Z < 2 ^ 128 := by rw [hZ]; exact Nat.xor_lt_two_pow hUl hVl
      have hnx : F (k + 1) = times128 Z H := by rw [HF.out.2.1 k, ← hU, ← hVb, hZ]
      rw [← hU] at hS
      have g1 : (o : Int) < (ALL.size : Int) := by omega
      have g2 : (o : Int) + 16 = (o2 : Int) := by omega
      have g3 : o ≤ o2 ∧ o2 ≤ ALL.size := by omega
      have g4 : (o2 : Int) ≤ (ALL.size : Int) := by omega
      have g5 : (o : Int) ≤ (o2 : Int) := by omega
      have hol : o ≤ 16777216 := by omega
      have HO := Lib.hid (And.intro ho (And.intro ho2 (And.intro hlt (And.intro hnx (And.intro hZl hZ)))))
      have HQ := Lib.hid hS
      clear hS ho ho2 hlt hnx hZl hZ hU hV hVb hUl hVl hEx hEs hk hsALL
      go_wp2_with fail
      refine (K6.out _).mono ?_
      rintro e w6 ⟨rfl, hb6⟩
      obtain ⟨LX, hLX⟩ : ∃ LX, LX = polyL (Gf.turned 128 V) := ⟨_, rfl⟩
      have hLXl : LX.length = 128 := by rw [hLX]; exact polyL_length _
      rw [← hLX]
      have hsz : (valsK .u8 LX).size = 128 := by rw [valsK_size]; exact hLXl
      obtain ⟨gX, hgX⟩ : ∃ gX, gX = w6.heap.size := ⟨_, rfl⟩
      have hq6 := (HQ.out.next hb6).more LX
      rw [← hgX] at hq6
      have st := storeOld (w6.alloc (.cells (valsK .u8 (zerosN 128)) 26)) gX 26 (valsK .u8 (zerosN 128)) (valsK .u8 LX) (by rw [hgX]; exact heap_alloc_new w6 _) (by rw [valsK_size, valsK_size, hLXl]; rfl) (valsK_one _ _)
      obtain ⟨wX, hwX⟩ : ∃ wX, wX = (w6.alloc (.cells (valsK .u8 (zerosN 128)) 26)).setRow gX (valsK .u8 LX) := ⟨_, rfl⟩
      rw [← hwX] at st hq6
      have HX := Lib.hid hq6
      have HLX := Lib.hid hLX
      have hgX' := hgX.symm
      clear hb6 hLX hLXl hq6 hwX hgX
      go_wp2
      clear st hsz hgX' K6 g3 g4 g5
      go_loopw [12] (fun x wr => ∃ j : Nat, j ≤ 128 ∧ x = .int .i64 (j : Nat) ∧ Hx w gH gS gX LH (stepF (coef (Gf.turned 128 Z)) (coef (Gf.turned 128 U)) 128 j) LX wr) (fun x _ => 128 - (intOf x).toNat)
      case atStart => exact ⟨0, Nat.zero_le _, rfl, by rw [stepF_zero]; exact HX.out⟩
      case round =>
        obtain ⟨j, hj, rfl, hS⟩ := hrel
        clear HX
        by_cases hjt : j < 128
        · obtain ⟨x, hx⟩ : ∃ x, x = coef (Gf.turned 128 U) j := ⟨_, rfl⟩
          obtain ⟨y, hy⟩ : ∃ y, y = coef (Gf.turned 128 V) j := ⟨_, rfl⟩
          obtain ⟨z, hz'⟩ : ∃ z, z = coef (Gf.turned 128 Z) j := ⟨_, rfl⟩
          have hxy : x ^^^ y = z := by rw [hx, hy, hz', coef_turned_xor, HO.out.2.2.2.2.2]
          have c1 := hS.hr.hS.cell (stepF_get (coef (Gf.turned 128 Z)) (coef (Gf.turned 128 U)) 128 j j hjt)
          rw [if_neg (Nat.lt_irrefl _), ← hx] at c1
          have f1 := hS.hr.hS.frozen j
          have c2 := hS.hX.cell (show LX[j]? = some y by rw [HLX.out, polyL_get _ _ hjt, hy])
          have hst := hS.step j z
          rw [hz', stepF_next, ← hz'] at hst
          have q1 := u8_xor_nat x y (by rw [hx]; exact Nat.lt_trans (coef_lt _ _) (by decide)) (by rw [hy]; exact Nat.lt_trans (coef_lt _ _) (by decide))
          rw [hxy] at q1
          have q2 : (j : Int) < 128 := by omega
          have HST := Lib.hid hst
          clear hst hS hx hy hz' hxy
          go_wp2
          go_region
          all_goals (go_wp2; go_roundw)
          all_goals first
            | exact ⟨j + 1, by omega, by go_num, HST.out.drew⟩
            | (simp [intOf]; omega)
        · obtain rfl : j = 128 := by omega
          rw [stepF_all] at hS
          have HQ2 := Lib.hid (show Hx w gH gS gX LH (polyL (Gf.turned 128 Z)) LX wr from hS)
          clear hS
          obtain ⟨LZ, hLZ⟩ : ∃ LZ, LZ = polyL (Gf.turned 128 Z) := ⟨_, rfl⟩
          have hLZl : LZ.length = 128 := by rw [hLZ]; exact polyL_length _
          obtain ⟨LN, hLN⟩ : ∃ LN, LN = polyL (Gf.turned 128 (times128 Z H)) := ⟨_, rfl⟩
          have hLNl : LN.length = 128 := by rw [hLN]; exact polyL_length _
          have K7 := Lib.hid (fun X => HTM.out Z X HO.out.2.2.2.2.1)
          rw [← hLZ, ← hLN] at K7
          rw [← hLZ] at HQ2
          have HSZ := Lib.hid (show (valsK .u8 LZ).size = 128 ∧ (valsK .u8 LH).size = 128 ∧ (valsK .u8 LN).size = 128 by rw [valsK_size, valsK_size, valsK_size]; exact ⟨hLZl, HLH.out.2, hLNl⟩)
          have HLN := Lib.hid hLN
          clear hLZ hLZl hLN hLNl hz hne
          go_wp2_with (first | (refine load_whole (by rfl) 26 _ (by rfl) _ (by rfl) LZ ?_ under128u ?_ ?_; exact HQ2.out.hr.hS; (rw [HSZ.out.1]; exact zero128u.2)) | (refine load_whole (by rfl) 26 _ (by rfl) _ (by rfl) LH ?_ under128u ?_ ?_; exact HQ2.out.hr.hH; (rw [HSZ.out.2.1]; exact zero128u.2)))
          refine (K7.out _).mono ?_
          rintro e w8 ⟨rfl, hb8⟩
          have HQ8 := Lib.hid (HQ2.out.hr.next hb8)
          have HQ9 := Lib.hid ((HQ2.out.hr.next hb8).put LN)
          clear hb8
          go_wp2_with (refine store_whole (by rfl) 26 _ _ (by rfl) _ (by rfl) LN LZ (by rfl) ?_ ?_ ?_ ?_; exact HQ8.out.hS; (rw [HSZ.out.1, HSZ.out.2.2]); (rw [HSZ.out.2.2]; exact zero128u.2))
          go_roundw
          case rel => exact ⟨k + 1, HO.out.2.2.1, by rw [HO.out.2.1], by rw [HO.out.2.2.2.1, ← HLN.out]; exact HQ9.out⟩
          case measure => have h1 := HO.out.1; have h2 := HO.out.2.1; have h3 := HO.out.2.2.1; simp [intOf]; omega
    · obtain rfl : k = m := by omega
      have g1 : ¬ (o : Int) < (ALL.size : Int) := by omega
      have K8 := Lib.hid (fun X => rbytes_any (F k) X (HF.out.2.2.1 k))
      obtain ⟨LF, hLF⟩ : ∃ LF, LF = polyL (Gf.turned 128 (F k)) := ⟨_, rfl⟩
      have hLFl : (valsK .u8 LF).size = 128 := by rw [valsK_size, hLF]; exact polyL_length _
      rw [← hLF] at hS K8
      have HSZ := Lib.hid hLFl
      have HQ := Lib.hid hS
      clear hS hLF hLFl ho hz hne hsALL
      go_wp2_with (refine load_whole (by rfl) 26 _ (by rfl) _ (by rfl) LF ?_ under128u ?_ ?_; exact HQ.out.hS; (rw [HSZ.out]; exact zero128u.2))
      refine (K8.out _).mono ?_
      rintro e w9 ⟨rfl, hb9⟩
      have HB9 := Lib.hid (below_link HQ.out.below hb9)
      clear hb9
      go_wp2
      go_ret
      exact ⟨rfl, HB9.out⟩

end Gcm
end Go.Proofs.Ytpjobjpdfhpobaa
