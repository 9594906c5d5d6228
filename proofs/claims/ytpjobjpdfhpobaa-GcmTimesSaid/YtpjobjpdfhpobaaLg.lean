/-
  The walk of GcmTimes. Conditions: the blocks' numbers are sixteen bytes.
-/
import Derived.Test.YtpjobjpdfhpobaaLh
namespace Go.Proofs.Ytpjobjpdfhpobaa
namespace Gcm
open Go.ChangeShapes Go.WideShapes Go.ChangeAt Go.RowKit Go.Great Go.ChangeMaps
open Gf Aes
set_option linter.unusedVariables false
set_option maxRecDepth 100000

/-- Two blocks that came in. -/
structure Tw (w : World) (a b : List Nat) (X : World) : Prop where
  ha : Wd .u8 22 w.heap.size a X
  hb : Wd .u8 22 (w.heap.size + 1) b X
  below : Below w.heap.size w X
theorem Tw.next {w X Y : World} {a b : List Nat} (h : Tw w a b X) (hb : Below X.heap.size X Y) : Tw w a b Y := ⟨keepBlock h.ha hb, keepBlock h.hb hb, below_link h.below hb⟩

theorem range_u8 {T g : Nat} {l : List Nat} {X : World} (h : Wd .u8 T g l X) : X.rangeAt g 0 (valsK .u8 l).toList := fun j v hv => by
  rw [Nat.zero_add, cell_of_row _ _ _ _ _ _ h, ← Array.getElem?_toList]; exact hv


set_option maxHeartbeats 8000000 in
theorem walk_times (la lb : List Nat) (t : ByteArray) (w : World) (la16 : la.length = 16) (las : ∀ c ∈ la, c < 256) (lb16 : lb.length = 16) (lbs : ∀ c ∈ lb, c < 256) :
    Calls Try.prog 3 #[.agg (valsK .u8 la), .agg (valsK .u8 lb), .string t] w fun e w' => e = .returned (.bool true) ∧ Below w.heap.size w w' := by
  obtain ⟨PA, hPA⟩ : ∃ PA, PA = valsK .u8 la := ⟨_, rfl⟩
  obtain ⟨PB, hPB⟩ : ∃ PB, PB = valsK .u8 lb := ⟨_, rfl⟩
  have hth : Tw w la lb ((w.alloc (.cells PA 22)).alloc (.cells PB 22)) := by
    rw [hPA, hPB]
    exact ⟨keepAlloc (heap_alloc_new w _) _, second_new w _ _, below_alloc (below_alloc (Below.refl _ _) _) _⟩
  rw [← hPA, ← hPB]
  obtain ⟨u, hu⟩ : ∃ u, u = big la := ⟨_, rfl⟩
  obtain ⟨v, hv⟩ : ∃ v, v = big lb := ⟨_, rfl⟩
  have hul : u < 2 ^ 128 := by rw [hu]; exact block_lt la16 las
  have hvl : v < 2 ^ 128 := by rw [hv]; exact block_lt lb16 lbs
  have ea : toB la = blockB u := by rw [hu]; unfold blockB; rw [← la16, bytes_big la las]
  have eb : toB lb = blockB v := by rw [hv]; unfold blockB; rw [← lb16, bytes_big lb lbs]
  obtain ⟨A, hA⟩ : ∃ A, A = blockB u := ⟨_, rfl⟩
  obtain ⟨B, hB⟩ : ∃ B, B = blockB v := ⟨_, rfl⟩
  obtain ⟨P, hP⟩ : ∃ P, P = blockB (times128 u v) := ⟨_, rfl⟩
  obtain ⟨LP, hLP⟩ : ∃ LP, LP = polyL (Gf.turned 128 (times128 u v)) := ⟨_, rfl⟩
  have hLPl : LP.length = 128 := by rw [hLP]; exact polyL_length _
  obtain ⟨cs, hcs⟩ : ∃ cs, cs = (valsK .u8 LP).toList := ⟨_, rfl⟩
  have hcsl : cs.length = 128 := by rw [hcs, Array.length_toList, valsK_size, hLPl]
  have hca : (cs.toArray : Array Value) = valsK .u8 LP := by rw [hcs, Array.toArray_toList]
  have hone : ∀ v ∈ cs, v.oneCell' = true := by
    intro v hv
    rw [hcs] at hv
    exact (Array.all_eq_true_iff_forall_mem.1 (valsK_one .u8 LP)) v (by simpa using hv)
  have As : A.size = 16 := by rw [hA]; exact blockB_size _
  have Bs : B.size = 16 := by rw [hB]; exact blockB_size _
  have nA : numB A = u := by rw [hA]; exact numT_block hul
  have nB : numB B = v := by rw [hB]; exact numT_block hvl
  have KT : Hid (∀ X, Calls Try.prog 13 #[.string A, .string B] X fun e w' => e = .returned (.string P) ∧ Below X.heap.size X w') := Lib.hid (fun X => by rw [hA, hB, hP]; exact Times_blocks u v X hul hvl)
  have K2 := Lib.hid (fun X => of_any A X As)
  have K3 := Lib.hid (fun X => of_any B X Bs)
  rw [nA] at K2
  rw [nB] at K3
  have K4 : Hid (∀ X, Calls Try.prog 11 #[.agg (valsK .u8 (polyL (Gf.turned 128 u))), .agg (valsK .u8 (polyL (Gf.turned 128 v)))] X fun e w' => e = .returned (.agg (valsK .u8 LP)) ∧ Below X.heap.size X w') := Lib.hid (fun X => by
    rw [hLP, ← block_accT hul hvl]
    exact ptimes_any (Gf.turned 128 u) (Gf.turned 128 v) X (turned_lt 128 u) (turned_lt 128 v))
  have K5 : Hid (∀ X, Calls Try.prog 14 #[.agg cs.toArray] X fun e w' => e = .returned (.string P) ∧ Below X.heap.size X w') := Lib.hid (fun X => by
    rw [hca, hLP, hP]
    exact rbytes_any (times128 u v) X (times128_lt hul hvl))
  have HN := Lib.hid (And.intro (ea.trans hA.symm) (And.intro (eb.trans hB.symm) (And.intro hLPl (And.intro hcs (And.intro As Bs)))))
  have HTH := Lib.hid hth
  have HL := Lib.hid (And.intro la16 (And.intro las (And.intro lb16 lbs)))
  clear hPA hPB hth hu hv hul hvl ea eb hA hB hP hLP hLPl hcs hca As Bs nA nB la16 las lb16 lbs
  go_enter Try.func3, Try.ntmps3
  go_wp2_with fail
  refine (awake_any _).mono ?_
  rintro e w1 ⟨rfl, hb1⟩
  have H1 := Lib.hid (HTH.out.next hb1)
  clear hb1 HTH
  by_cases ht : t.size ≤ 40
  · have g1 : ¬ (40 : Int) < (t.size : Int) := by omega
    have HT := Lib.hid ht
    clear ht
    have cA := row_text w1.drew w.heap.size la H1.out.ha HL.out.1 HL.out.2.1 16
    have cB := row_text w1.drew (w.heap.size + 1) lb H1.out.hb HL.out.2.2.1 HL.out.2.2.2 16
    rw [HN.out.1] at cA
    rw [HN.out.2.1] at cB
    go_wp2
    go_region
    generalize hwr : w1.drew = wr
    have hbr : Below w.heap.size w wr := by rw [← hwr]; exact H1.out.below.drew
    have HB := Lib.hid hbr
    clear hwr hbr cA cB
    go_wp2_with fail
    refine (K2.out _).mono ?_
    rintro e w2 ⟨rfl, hb2⟩
    have HB2 := Lib.hid (below_link HB.out hb2)
    clear hb2
    go_wp2_with fail
    refine (K3.out _).mono ?_
    rintro e w3 ⟨rfl, hb3⟩
    have HB3 := Lib.hid (below_link HB2.out hb3)
    clear hb3
    go_wp2_with fail
    refine (K4.out _).mono ?_
    rintro e w4 ⟨rfl, hb4⟩
    have HB4 := Lib.hid (below_link HB3.out hb4)
    clear hb4
    have hz := zero128u.1
    have hne := zeros128_ne .u8
    obtain ⟨g9, hg9⟩ : ∃ g, g = w4.heap.size := ⟨_, rfl⟩
    have hrow := heap_alloc_new w4 (.cells (valsK .u8 (zerosN 128)) 26)
    rw [← hg9] at hrow
    have st := storeOld (w4.alloc (.cells (valsK .u8 (zerosN 128)) 26)) g9 26 (valsK .u8 (zerosN 128)) (valsK .u8 LP) hrow (by rw [valsK_size, valsK_size, HN.out.2.2.1]; rfl) (valsK_one _ _)
    have hsz : (valsK .u8 LP).size = 128 := by rw [valsK_size]; exact HN.out.2.2.1
    obtain ⟨w5, hw5⟩ : ∃ w5, w5 = (w4.alloc (.cells (valsK .u8 (zerosN 128)) 26)).setRow g9 (valsK .u8 LP) := ⟨_, rfl⟩
    have h5 : Wd .u8 26 g9 LP w5 ∧ Below w.heap.size w w5 := by
      rw [hw5]
      exact ⟨setRow_heap _ _ _ _ _ _ hrow, below_setRow (below_alloc HB4.out _) (by rw [hg9]; exact HB4.out.size) _⟩
    rw [← hw5] at st
    have H5 := Lib.hid h5
    have hg9' := hg9.symm
    have hu := under128u
    have hi2 : (Try.prog.info? 26).map (·.size) = some cs.length := by rw [hcsl]; exact zero128u.2
    have hrg : w5.rangeAt g9 0 cs := by rw [HN.out.2.2.2.1]; exact range_u8 H5.out.1
    have H5d := Lib.hid (show Wd .u8 26 g9 LP w5.drew ∧ Below w.heap.size w w5.drew from ⟨H5.out.1, H5.out.2.drew⟩)
    have HRX := Lib.hid (show ∀ X : World, Wd .u8 26 g9 LP X → X.rangeAt g9 0 cs from fun X h => by rw [HN.out.2.2.2.1]; exact range_u8 h)
    have HR0 := Lib.hid (show w5.drew.rangeAt g9 0 cs from HRX.out _ H5.out.1)
    clear hrow hw5 h5 hg9
    by_cases h16 : t.size = 16
    · have g2 : decide ((t.size : Int) = 16) = true := by simp; omega
      have g3 : ((t.size : Int) == 16) = true := by simp; omega
      clear h16
      go_wp2
      refine wp_region_held_drew (S := fun X => Wd .u8 26 g9 LP X ∧ Below w.heap.size w X) (by kernel_rfl) H5d.out (fun hHeld => ?_)
      refine wpAnyH_take (i := 0) (oi := ⟨some 27, _, _, _, _, _⟩) (v := .string A) rfl (by kernel_rfl) (by kernel_rfl) (by kernel_rfl) (fun _ _ _ h => h) (Or.inl ⟨by rfl, fun X hX => by go_simp⟩) (by assumption) ?_
      simp only [Act.put, List.setIfInBounds_toArray, List.set_cons_zero, List.set_cons_succ]
      refine wpAnyH_take (i := 1) (oi := ⟨some 28, _, _, _, _, _⟩) (v := .string B) rfl (by kernel_rfl) (by kernel_rfl) (by kernel_rfl) (fun _ _ _ h => h) (Or.inl ⟨by rfl, fun X hX => by go_simp⟩) (by assumption) ?_
      simp only [Act.put, List.setIfInBounds_toArray, List.set_cons_zero, List.set_cons_succ]
      refine wpAnyH_take (i := 3) (oi := ⟨some 30, _, _, _, _, _⟩) (v := .agg cs.toArray) rfl (by kernel_rfl) (by kernel_rfl) (by kernel_rfl) (fun _ _ _ h => h) (yieldsIf_load_mid (by rfl) 26 _ rfl g9 0 rfl cs _ (fun X hX => HRX.out X hX.1) hu rfl hi2) hHeld ?_
      simp only [Act.put, List.setIfInBounds_toArray, List.set_cons_zero, List.set_cons_succ]
      refine wpAnyH_ready (rs := [2]) (by kernel_rfl) (by simp) ?_
      refine AllReadyH.cons rfl (fun K1 hK => ?_) AllReadyH.nil
      go_simp
      refine (KT.out _).mono ?_
      rintro e wa ⟨rfl, hba⟩
      have hHa : Wd .u8 26 g9 LP wa ∧ Below w.heap.size w wa := ⟨keepBlock H5d.out.1 hba, below_link H5d.out.2 hba⟩
      go_wp2_with fail
      refine hK.out _ _ hHa (fun _ => ?_)
      clear hK hHeld hba
      refine wpAnyH_ready (rs := [4]) (by kernel_rfl) (by simp) ?_
      refine AllReadyH.cons rfl (fun K1 hK => ?_) AllReadyH.nil
      go_simp
      refine (K5.out _).mono ?_
      rintro e wb ⟨rfl, hbb⟩
      have hHb : Wd .u8 26 g9 LP wb ∧ Below w.heap.size w wb := ⟨keepBlock hHa.1 hbb, below_link hHa.2 hbb⟩
      go_wp2_with fail
      refine hK.out _ _ hHb (fun _ => ?_)
      clear hK hHa hbb
      refine wpAnyH_take (i := 5) (oi := ⟨some 32, _, _, _, _, _⟩) (v := .bool true) rfl (by kernel_rfl) (by kernel_rfl) (by kernel_rfl) (fun _ _ _ h => h) (Or.inl ⟨by rfl, fun X hX => by go_simp⟩) (by assumption) ?_
      simp only [Act.put, List.setIfInBounds_toArray, List.set_cons_zero, List.set_cons_succ]
      refine wpAnyH_take (i := 6) (oi := ⟨some 33, _, _, _, _, _⟩) (v := .bool true) rfl (by kernel_rfl) (by kernel_rfl) (by kernel_rfl) (fun _ _ _ h => h) (Or.inl ⟨by rfl, fun X hX => by go_simp⟩) (by assumption) ?_
      simp only [Act.put, List.setIfInBounds_toArray, List.set_cons_zero, List.set_cons_succ]
      refine wpAnyH_take (i := 7) (oi := ⟨some 34, _, _, _, _, _⟩) (v := .string t) rfl (by kernel_rfl) (by kernel_rfl) (by kernel_rfl) (fun _ _ _ h => h) (Or.inl ⟨by rfl, fun X hX => by go_simp⟩) (by assumption) ?_
      simp only [Act.put, List.setIfInBounds_toArray, List.set_cons_zero, List.set_cons_succ]
      refine wpAnyH_take (i := 8) (oi := ⟨some 35, _, _, _, _, _⟩) (v := .int .i64 t.size) rfl (by kernel_rfl) (by kernel_rfl) (by kernel_rfl) (fun _ _ _ h => h) (Or.inl ⟨by rfl, fun X hX => by go_simp⟩) (by assumption) ?_
      simp only [Act.put, List.setIfInBounds_toArray, List.set_cons_zero, List.set_cons_succ]
      refine wpAnyH_take (i := 9) (oi := ⟨some 36, _, _, _, _, _⟩) (v := .bool true) rfl (by kernel_rfl) (by kernel_rfl) (by kernel_rfl) (fun _ _ _ h => h) (Or.inl ⟨by rfl, fun X hX => by go_simp⟩) (by assumption) ?_
      simp only [Act.put, List.setIfInBounds_toArray, List.set_cons_zero, List.set_cons_succ]
      refine wpAnyH_take (i := 10) (oi := ⟨some 37, _, _, _, _, _⟩) (v := .bool true) rfl (by kernel_rfl) (by kernel_rfl) (by kernel_rfl) (fun _ _ _ h => h) (Or.inl ⟨by rfl, fun X hX => by go_simp⟩) (by assumption) ?_
      simp only [Act.put, List.setIfInBounds_toArray, List.set_cons_zero, List.set_cons_succ]
      refine wpAnyH_take (i := 11) (oi := ⟨some 38, _, _, _, _, _⟩) (v := undef) rfl (by kernel_rfl) (by kernel_rfl) (by kernel_rfl) (fun _ _ _ h => h) (Or.inr ⟨by rfl, rfl⟩) (by assumption) ?_
      simp only [Act.put, List.setIfInBounds_toArray, List.set_cons_zero, List.set_cons_succ]
      refine wpAnyH_take (i := 12) (oi := ⟨some 39, _, _, _, _, _⟩) (v := undef) rfl (by kernel_rfl) (by kernel_rfl) (by kernel_rfl) (fun _ _ _ h => h) (Or.inr ⟨by rfl, rfl⟩) (by assumption) ?_
      simp only [Act.put, List.setIfInBounds_toArray, List.set_cons_zero, List.set_cons_succ]
      refine wpAnyH_ready (rs := [13]) (by kernel_rfl) (by simp) ?_
      refine AllReadyH.cons rfl (fun K1 hK => ?_) AllReadyH.nil
      go_simp
      refine hK.out _ _ hHb (fun _ => ?_)
      clear hK
      refine wpAnyH_take (i := 14) (oi := ⟨some 41, _, _, _, _, _⟩) (v := undef) rfl (by kernel_rfl) (by kernel_rfl) (by kernel_rfl) (fun _ _ _ h => h) (Or.inr ⟨by rfl, rfl⟩) (by assumption) ?_
      simp only [Act.put, List.setIfInBounds_toArray, List.set_cons_zero, List.set_cons_succ]
      refine wpAnyH_take (i := 15) (oi := ⟨some 42, _, _, _, _, _⟩) (v := undef) rfl (by kernel_rfl) (by kernel_rfl) (by kernel_rfl) (fun _ _ _ h => h) (Or.inr ⟨by rfl, rfl⟩) (by assumption) ?_
      simp only [Act.put, List.setIfInBounds_toArray, List.set_cons_zero, List.set_cons_succ]
      refine wpAnyH_take (i := 16) (oi := ⟨some 43, _, _, _, _, _⟩) (v := undef) rfl (by kernel_rfl) (by kernel_rfl) (by kernel_rfl) (fun _ _ _ h => h) (Or.inr ⟨by rfl, rfl⟩) (by assumption) ?_
      simp only [Act.put, List.setIfInBounds_toArray, List.set_cons_zero, List.set_cons_succ]
      refine wpAnyH_take (i := 17) (oi := ⟨some 44, _, _, _, _, _⟩) (v := undef) rfl (by kernel_rfl) (by kernel_rfl) (by kernel_rfl) (fun _ _ _ h => h) (Or.inr ⟨by rfl, rfl⟩) (by assumption) ?_
      simp only [Act.put, List.setIfInBounds_toArray, List.set_cons_zero, List.set_cons_succ]
      refine wpAnyH_ready (rs := [18]) (by kernel_rfl) (by simp) ?_
      refine AllReadyH.cons rfl (fun K1 hK => ?_) AllReadyH.nil
      go_simp
      refine hK.out _ _ hHb (fun _ => ?_)
      clear hK
      refine wpAnyH_take (i := 19) (oi := ⟨some 46, _, _, _, _, _⟩) (v := undef) rfl (by kernel_rfl) (by kernel_rfl) (by kernel_rfl) (fun _ _ _ h => h) (Or.inr ⟨by rfl, rfl⟩) (by assumption) ?_
      simp only [Act.put, List.setIfInBounds_toArray, List.set_cons_zero, List.set_cons_succ]
      refine wpAnyH_take (i := 20) (oi := ⟨some 47, _, _, _, _, _⟩) (v := undef) rfl (by kernel_rfl) (by kernel_rfl) (by kernel_rfl) (fun _ _ _ h => h) (Or.inr ⟨by rfl, rfl⟩) (by assumption) ?_
      simp only [Act.put, List.setIfInBounds_toArray, List.set_cons_zero, List.set_cons_succ]
      refine wpAnyH_take (i := 21) (oi := ⟨some 48, _, _, _, _, _⟩) (v := .bool true) rfl (by kernel_rfl) (by kernel_rfl) (by kernel_rfl) (fun _ _ _ h => h) (Or.inl ⟨by rfl, fun X hX => by go_simp⟩) (by assumption) ?_
      simp only [Act.put, List.setIfInBounds_toArray, List.set_cons_zero, List.set_cons_succ]
      refine wpAnyH_take (i := 22) (oi := ⟨some 49, _, _, _, _, _⟩) (v := .bool true) rfl (by kernel_rfl) (by kernel_rfl) (by kernel_rfl) (fun _ _ _ h => h) (Or.inl ⟨by rfl, fun X hX => by go_simp⟩) (by assumption) ?_
      simp only [Act.put, List.setIfInBounds_toArray, List.set_cons_zero, List.set_cons_succ]
      refine wpAnyH_take (i := 23) (oi := ⟨some 6, _, _, _, _, _⟩) (v := .bool true) rfl (by kernel_rfl) (by kernel_rfl) (by kernel_rfl) (fun _ _ _ h => h) (Or.inl ⟨by rfl, fun X hX => by go_simp⟩) (by assumption) ?_
      simp only [Act.put, List.setIfInBounds_toArray, List.set_cons_zero, List.set_cons_succ]
      refine wpAnyH_done (by kernel_rfl) ?_ _
      go_wp2
      go_ret
      exact ⟨by simp, hHb.2⟩
    · have g2 : decide ((t.size : Int) = 16) = false := by simp; omega
      have g3 : ((t.size : Int) == 16) = false := by simp; omega
      have K6 := Lib.hid (fun X => Times_none A t X (.inr h16))
      have K7 := Lib.hid (fun X => Times_none t A X (.inl h16))
      clear h16
      go_wp2
      go_region_held3 (fun X => X.rangeAt g9 0 cs) (first | exact HR0.out | exact HRA.out | exact HRB.out) (first
        | (go_at_call 13; with_reducible refine (KT.out _).mono ?_; rintro e wa ⟨rfl, hba⟩; have HA := Lib.hid (And.intro (keepBlock H5d.out.1 hba) (below_link H5d.out.2 hba)); have HRA := Lib.hid (HRX.out _ HA.out.1); clear hba)
        | (go_at_call 14; with_reducible refine (K5.out _).mono ?_; rintro e wb ⟨rfl, hbb⟩; have HBB := Lib.hid (And.intro (keepBlock HA.out.1 hbb) (below_link HA.out.2 hbb)); have HRB := Lib.hid (HRX.out _ HBB.out.1); clear hbb)
        | (go_at_call 13; with_reducible refine (K6.out _).mono ?_; rintro e wc ⟨rfl, hwc⟩; rw [hwc]; clear hwc wc)
        | (go_at_call 13; with_reducible refine (K7.out _).mono ?_; rintro e wd ⟨rfl, hwd⟩; rw [hwd]; clear hwd wd))
      go_wp2
      go_ret
      exact ⟨by simp, HBB.out.2⟩
  · have g1 : (40 : Int) < (t.size : Int) := by omega
    clear ht
    go_wp2_with fail
    refine (awake_any _).mono ?_
    rintro e w3 ⟨rfl, hb3⟩
    have H3 := Lib.hid (below_link H1.out.below hb3)
    clear hb3
    go_wp2
    go_ret
    exact ⟨rfl, H3.out⟩

end Gcm
end Go.Proofs.Ytpjobjpdfhpobaa
