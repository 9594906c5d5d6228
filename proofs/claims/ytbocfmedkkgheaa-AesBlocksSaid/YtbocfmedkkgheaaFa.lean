/-
  The walk of AesBlocks. Conditions: the key's and the block's numbers are bytes.
-/
import Derived.Test.YtbocfmedkkgheaaDb
import Derived.Test.YtbocfmedkkgheaaEb
namespace Go.Proofs.Ytbocfmedkkgheaa
namespace Aes
open Go.ChangeShapes Go.WideShapes Go.ChangeAt Go.RowKit Go.Great Go.ChangeMaps
open Gf
set_option linter.unusedVariables false

/-- The cipher, the table and the block, as they lie in memory. -/
structure Inv (w : World) (g n : Nat) (K : ByteArray) (gT : Nat) (TB : List Nat) (g1 : Nat) (bl : List Nat) (X : World) : Prop where
  key : Key g n K X
  tab : Wd .i64 39 gT TB X
  blk : Wd .u8 37 g1 bl X
  below : Below w.heap.size w X
theorem Inv.next {w : World} {g n : Nat} {K : ByteArray} {gT : Nat} {TB : List Nat} {g1 : Nat} {bl : List Nat} {X Y : World} (h : Inv w g n K gT TB g1 bl X) (hb : Below X.heap.size X Y) : Inv w g n K gT TB g1 bl Y :=
  ⟨h.key.next hb, keepBlock h.tab hb, keepBlock h.blk hb, below_link h.below hb⟩
theorem Inv.drew {w : World} {g n : Nat} {K : ByteArray} {gT : Nat} {TB : List Nat} {g1 : Nat} {bl : List Nat} {X : World} (h : Inv w g n K gT TB g1 bl X) : Inv w g n K gT TB g1 bl X.drew := h.next (Below.refl _ _).drew
theorem Words.next {gW M : Nat} {W : Nat → Nat} {X Y : World} (h : Words gW M W X) (hb : Below X.heap.size X Y) : Words gW M W Y :=
  ⟨Nat.lt_of_lt_of_le h.1 hb.size, fun j hj => by rw [hb.cell (p := ⟨gW, j, none⟩) h.1]; exact h.2 j hj⟩

theorem range_all {T gT : Nat} {TB : List Nat} {X : World} (h : Wd .i64 T gT TB X) : X.rangeAt gT 0 (valsK .i64 TB).toList := fun j v hv => by
  rw [Nat.zero_add, cell_of_row _ _ _ _ _ _ h, ← Array.getElem?_toList]; exact hv

set_option maxHeartbeats 8000000 in
theorem blocks_long (kl bl : List Nat) (w : World) (hk : kl.length = 32) (hkb : ∀ c ∈ kl, c < 256) (hb : bl.length = 16) (hbb : ∀ c ∈ bl, c < 256) :
    Calls Try.prog 7 #[.agg (valsK .u8 kl), .bool true, .agg (valsK .u8 bl)] w fun e w' => e = .returned (.bool true) ∧ Below w.heap.size w w' := by
  obtain ⟨w0, hw0⟩ : ∃ X, X = (w.alloc (.cells (valsK .u8 kl) 36)).alloc (.cells (valsK .u8 bl) 37) := ⟨_, rfl⟩
  have hkr : Wd .u8 36 w.heap.size kl w0 := by rw [hw0]; exact keepAlloc (heap_alloc_new w _) _
  have hbr : Wd .u8 37 (w.heap.size + 1) bl w0 := by
    have := heap_alloc_new (w.alloc (.cells (valsK .u8 kl) 36)) (.cells (valsK .u8 bl) 37)
    rw [alloc_size] at this
    rw [hw0]; exact this
  have hb0 : Below w.heap.size w w0 := by rw [hw0]; exact below_alloc ((Below.refl _ _).alloc (Nat.le_refl _) _) _
  have hsz : w0.heap.size = w.heap.size + 1 + 1 := by rw [hw0, alloc_size, alloc_size]
  obtain ⟨K0, hK0⟩ : ∃ K, K = toB kl := ⟨_, rfl⟩
  have hK0s : K0.size = 32 := by rw [hK0, toB_size, hk]
  obtain ⟨K, hK⟩ : ∃ K, K = K0 := ⟨_, rfl⟩
  obtain ⟨S, hS⟩ : ∃ S, S = toB bl := ⟨_, rfl⟩
  have hKs : K.size = 4 * 8 := by rw [hK, hK0s]
  have hSs : S.size = 16 := by rw [hS, toB_size, hb]
  have ck := row_back hkr hkb 32 hk.symm
  rw [← hK0, hw0] at ck
  have HB := Lib.hid hb0
  have HBR := Lib.hid (And.intro hbr hbb)
  have HBL := Lib.hid hb
  have HNW := Lib.hid (fun X => new_ok K 8 X (by decide) hKs)
  rw [hK] at HNW
  obtain ⟨D, hD⟩ : ∃ D, D = doneB 8 K S := ⟨_, rfl⟩
  obtain ⟨TB, hTB⟩ : ∃ TB, TB = allF sub 256 := ⟨_, rfl⟩
  obtain ⟨cs, hcs⟩ : ∃ cs, cs = (valsK .i64 TB).toList := ⟨_, rfl⟩
  have hcsl : cs.length = 256 := by rw [hcs, Array.length_toList, valsK_size, hTB, allF_length]
  have hca : (cs.toArray : Array Value) = valsK .i64 TB := by rw [hcs, Array.toArray_toList]
  obtain ⟨W, hWW⟩ : ∃ W, W = wordAt 8 (nums K) := ⟨_, rfl⟩
  have HD1 : Hid (∀ g X, Key g 8 K X → Calls Try.prog 16 #[.pointer (some ⟨g, 0, none⟩), .string S] X fun e w' => e = .returned (.string D) ∧ Below X.heap.size X w') := Lib.hid (fun g X h => by rw [hD]; exact do_key g 8 K S X (by decide) hSs h)
  have HTT : Hid (∀ X, Calls Try.prog 18 #[] X fun e w' => e = .returned (.agg (valsK .i64 TB)) ∧ Below X.heap.size X w') := Lib.hid (fun X => by rw [hTB]; exact table_any X)
  have HWD : Hid (∀ X, Calls Try.prog 20 #[.agg cs.toArray, .string K] X fun e w' => ∃ g cap, e = .returned (.slice (some ⟨g, 0, none⟩) (16 * (8 + 7)) cap) ∧ Words g (16 * (8 + 7)) W w' ∧ Below X.heap.size X w') := Lib.hid (fun X => by
    rw [hca, hTB, hWW]
    refine (words_any 8 K X (by decide) hKs).mono ?_
    rintro e w' ⟨g, cap, h1, h2, h3, h4⟩
    exact ⟨g, cap, h1, ⟨h2, h3⟩, h4⟩)
  rw [hK] at HWD
  have HRD : Hid (∀ gW cap X, Words gW (16 * (8 + 7)) W X → Calls Try.prog 19 #[.agg cs.toArray, .slice (some ⟨gW, 0, none⟩) (16 * (8 + 7)) cap, .string S] X fun e w' => e = .returned (.string D) ∧ Below X.heap.size X w') := Lib.hid (fun gW cap X h => by
    rw [hca, hTB, hD]
    rw [hWW] at h
    exact rdo_any gW (16 * (8 + 7)) cap (8 + 6) (wordAt 8 (nums K)) S X rfl (by decide) (by decide) hSs (fun j => wordAt_lt (nums_lt K) j) h)
  have HTL := Lib.hid (show (valsK .i64 TB).size = 256 by rw [valsK_size, hTB, allF_length])
  have HCS := Lib.hid hcs
  have HS := Lib.hid hS
  have HW0 := Lib.hid (And.intro hw0 hsz)
  have HKK := Lib.hid hK
  clear hkr hbr hb0 hK0 hK hS hKs hSs hk hkb hb hbb hD hw0 hsz hK0s hTB hcs hca hWW
  go_enter Try.func7, Try.ntmps7
  go_wp2_with fail
  refine (HNW.out _).mono ?_
  rintro e w1 ⟨rfl, hc, hb1⟩
  rw [← HW0.out.1] at hb1 hc
  rw [← HKK.out, HW0.out.2] at hc
  have HB1 := Lib.hid (below_link HB.out hb1)
  have hbr1 := keepBlock HBR.out.1 hb1
  have HBR1 := Lib.hid hbr1
  have HC1 := Lib.hid (show Key (w.heap.size + 1 + 1) 8 K w1 from hc)
  clear hb1 hc hbr1 ck
  go_wp2_with fail
  refine (awake_any _).mono ?_
  rintro e w2 ⟨rfl, hb2⟩
  have HB2 := Lib.hid (below_link HB1.out hb2)
  have HC2 := Lib.hid (HC1.out.next hb2)
  have HBR2 := Lib.hid (keepBlock HBR1.out hb2)
  clear hb2
  have hz := zero256i.1
  have hne := zeros_ne .i64
  go_wp2_with fail
  refine (HTT.out _).mono ?_
  rintro e w3 ⟨rfl, hb3⟩
  have h3 : Inv w (w.heap.size + 1 + 1) 8 K w3.heap.size TB (w.heap.size + 1) bl ((w3.alloc (.cells (valsK .i64 (zerosN 256)) 39)).setRow w3.heap.size (valsK .i64 TB)) := by
    have hbb3 : Below w3.heap.size w3 ((w3.alloc (.cells (valsK .i64 (zerosN 256)) 39)).setRow w3.heap.size (valsK .i64 TB)) := below_setRow ((Below.refl _ _).alloc (Nat.le_refl _) _) (Nat.le_refl _) _
    exact ⟨(HC2.out.next hb3).next hbb3, Wd.setRow (heap_alloc_new w3 _) TB, keepBlock (keepBlock HBR2.out hb3) hbb3, below_link (below_link HB2.out hb3) hbb3⟩
  have H3 := Lib.hid h3
  clear hb3 h3
  go_wp2_with (refine storeK (by rfl) .i64 39 _ _ (by rfl) _ (by rfl) TB (zerosN 256) (by rfl) ?_ ?_ ?_ ?_; exact heap_alloc_new w3 _; (rw [HTL.out, valsK_size]; exact List.length_replicate); (rw [HTL.out]; exact zero256i.2))
  obtain ⟨gT, hgT⟩ : ∃ g, g = w3.heap.size := ⟨_, rfl⟩
  rw [← hgT] at H3 ⊢
  clear hgT hz hne
  generalize (w3.alloc (.cells (valsK .i64 (zerosN 256)) 39)).setRow gT (valsK .i64 TB) = wq at *
  obtain ⟨g1, hg1⟩ : ∃ g, g = w.heap.size + 1 := ⟨_, rfl⟩
  obtain ⟨gc, hgc⟩ : ∃ g, g = w.heap.size + 1 + 1 := ⟨_, rfl⟩
  have hS : ∀ X, Inv w gc 8 K gT TB g1 bl X → X.rangeAt gT 0 cs ∧ (convert 38 9 (.slice (some ⟨g1, 0, none⟩) 16 16)).run Try.prog X = .ok (.string S) X := fun X h => by
    refine ⟨?_, ?_⟩
    · rw [HCS.out]; exact range_all h.tab
    · have := row_back h.blk HBR.out.2 16 HBL.out.symm
      rw [← HS.out] at this
      exact this
  have hinv : Inv w gc 8 K gT TB g1 bl wq.drew := by rw [hgc, hg1]; exact H3.out.drew
  rw [← hgc, ← hg1]
  have HSK := Lib.hid hS
  have hu := under256i
  have hi2 : (Try.prog.info? 39).map (·.size) = some cs.length := by rw [hcsl]; exact zero256i.2
  clear hS hg1 hgc H3
  go_wp2
  refine wp_region_held_drew (S := Inv w gc 8 K gT TB g1 bl) (by kernel_rfl) hinv (fun hHeld => ?_)
  refine wpAnyH_take (i := 0) (oi := ⟨some 33, _, _, _, _, _⟩) (v := .pointer (some ⟨gc, 0, none⟩)) rfl (by kernel_rfl) (by kernel_rfl) (by kernel_rfl) (fun _ _ _ h => h) (Or.inl ⟨by rfl, fun X hX => by go_simp⟩) hHeld ?_
  simp only [Act.put, List.setIfInBounds_toArray, List.set_cons_zero, List.set_cons_succ]
  refine wpAnyH_take (i := 1) (oi := ⟨some 34, _, _, _, _, _⟩) (v := .slice (some ⟨g1, 0, none⟩) 16 16) rfl (by kernel_rfl) (by kernel_rfl) (by kernel_rfl) (fun _ _ _ h => h) (Or.inl ⟨by rfl, fun X hX => by go_simp⟩) hHeld ?_
  simp only [Act.put, List.setIfInBounds_toArray, List.set_cons_zero, List.set_cons_succ]
  refine wpAnyH_take (i := 2) (oi := ⟨some 35, _, _, _, _, _⟩) (v := .string S) rfl (by kernel_rfl) (by kernel_rfl) (by kernel_rfl) (fun _ _ _ h => h) (Or.inl ⟨by rfl, fun X hX => by have h1 := (HSK.out X hX).2; go_simp⟩) hHeld ?_
  simp only [Act.put, List.setIfInBounds_toArray, List.set_cons_zero, List.set_cons_succ]
  refine wpAnyH_take (i := 4) (oi := ⟨some 37, _, _, _, _, _⟩) (v := .agg cs.toArray) rfl (by kernel_rfl) (by kernel_rfl) (by kernel_rfl) (fun _ _ _ h => h) (yieldsIf_load_mid (by rfl) 39 _ rfl gT 0 rfl cs _ (fun X hX => (HSK.out X hX).1) hu rfl hi2) hHeld ?_
  simp only [Act.put, List.setIfInBounds_toArray, List.set_cons_zero, List.set_cons_succ]
  refine wpAnyH_take (i := 5) (oi := ⟨some 38, _, _, _, _, _⟩) (v := .agg cs.toArray) rfl (by kernel_rfl) (by kernel_rfl) (by kernel_rfl) (fun _ _ _ h => h) (yieldsIf_load_mid (by rfl) 39 _ rfl gT 0 rfl cs _ (fun X hX => (HSK.out X hX).1) hu rfl hi2) hHeld ?_
  simp only [Act.put, List.setIfInBounds_toArray, List.set_cons_zero, List.set_cons_succ]
  refine wpAnyH_take (i := 6) (oi := ⟨some 39, _, _, _, _, _⟩) (v := .string (K0)) rfl (by kernel_rfl) (by kernel_rfl) (by kernel_rfl) (fun _ _ _ h => h) (Or.inl ⟨by rfl, fun X hX => by go_simp⟩) hHeld ?_
  simp only [Act.put, List.setIfInBounds_toArray, List.set_cons_zero, List.set_cons_succ]
  refine wpAnyH_take (i := 8) (oi := ⟨some 41, _, _, _, _, _⟩) (v := .slice (some ⟨g1, 0, none⟩) 16 16) rfl (by kernel_rfl) (by kernel_rfl) (by kernel_rfl) (fun _ _ _ h => h) (Or.inl ⟨by rfl, fun X hX => by go_simp⟩) hHeld ?_
  simp only [Act.put, List.setIfInBounds_toArray, List.set_cons_zero, List.set_cons_succ]
  refine wpAnyH_take (i := 9) (oi := ⟨some 42, _, _, _, _, _⟩) (v := .string S) rfl (by kernel_rfl) (by kernel_rfl) (by kernel_rfl) (fun _ _ _ h => h) (Or.inl ⟨by rfl, fun X hX => by have h1 := (HSK.out X hX).2; go_simp⟩) hHeld ?_
  simp only [Act.put, List.setIfInBounds_toArray, List.set_cons_zero, List.set_cons_succ]
  refine wpAnyH_ready (rs := [3]) (by kernel_rfl) (by simp) ?_
  refine AllReadyH.cons rfl (fun K1 hK => ?_) AllReadyH.nil
  go_simp
  refine (HD1.out gc _ hHeld.key).mono ?_
  rintro e w4 ⟨rfl, hb4⟩
  have hHeld4 := hHeld.next hb4
  go_wp2_with fail
  refine hK.out _ _ hHeld4 (fun _ => ?_)
  clear hK hHeld hb4
  refine wpAnyH_ready (rs := [7]) (by kernel_rfl) (by simp) ?_
  refine AllReadyH.cons rfl (fun K1 hK => ?_) AllReadyH.nil
  go_simp
  refine (HWD.out _).mono ?_
  rintro e w5 ⟨gW, cap, rfl, hwd, hb5⟩
  have hHeld5 := hHeld4.next hb5
  go_wp2_with fail
  refine hK.out _ _ hHeld5 (fun _ => ?_)
  clear hK hHeld4 hb5
  refine wpAnyH_ready (rs := [10]) (by kernel_rfl) (by simp) ?_
  refine AllReadyH.cons rfl (fun K1 hK => ?_) AllReadyH.nil
  go_simp
  refine (HRD.out gW cap _ hwd).mono ?_
  rintro e w6 ⟨rfl, hb6⟩
  have hHeld6 := hHeld5.next hb6
  go_wp2_with fail
  refine hK.out _ _ hHeld6 (fun _ => ?_)
  clear hK hHeld5 hb6
  refine wpAnyH_take (i := 11) (oi := ⟨some 44, _, _, _, _, _⟩) (v := .bool true) rfl (by kernel_rfl) (by kernel_rfl) (by kernel_rfl) (fun _ _ _ h => h) (Or.inl ⟨by rfl, fun X hX => by go_simp⟩) hHeld6 ?_
  simp only [Act.put, List.setIfInBounds_toArray, List.set_cons_zero, List.set_cons_succ]
  refine wpAnyH_take (i := 12) (oi := ⟨some 6, _, _, _, _, _⟩) (v := .bool true) rfl (by kernel_rfl) (by kernel_rfl) (by kernel_rfl) (fun _ _ _ h => h) (Or.inl ⟨by rfl, fun X hX => by go_simp⟩) hHeld6 ?_
  simp only [Act.put, List.setIfInBounds_toArray, List.set_cons_zero, List.set_cons_succ]
  refine wpAnyH_done (by kernel_rfl) ?_ _
  go_wp2
  go_ret
  exact ⟨rfl, hHeld6.below⟩

set_option maxHeartbeats 8000000 in
theorem blocks_short (kl bl : List Nat) (w : World) (hk : kl.length = 32) (hkb : ∀ c ∈ kl, c < 256) (hb : bl.length = 16) (hbb : ∀ c ∈ bl, c < 256) :
    Calls Try.prog 7 #[.agg (valsK .u8 kl), .bool false, .agg (valsK .u8 bl)] w fun e w' => e = .returned (.bool true) ∧ Below w.heap.size w w' := by
  obtain ⟨w0, hw0⟩ : ∃ X, X = (w.alloc (.cells (valsK .u8 kl) 36)).alloc (.cells (valsK .u8 bl) 37) := ⟨_, rfl⟩
  have hkr : Wd .u8 36 w.heap.size kl w0 := by rw [hw0]; exact keepAlloc (heap_alloc_new w _) _
  have hbr : Wd .u8 37 (w.heap.size + 1) bl w0 := by
    have := heap_alloc_new (w.alloc (.cells (valsK .u8 kl) 36)) (.cells (valsK .u8 bl) 37)
    rw [alloc_size] at this
    rw [hw0]; exact this
  have hb0 : Below w.heap.size w w0 := by rw [hw0]; exact below_alloc ((Below.refl _ _).alloc (Nat.le_refl _) _) _
  have hsz : w0.heap.size = w.heap.size + 1 + 1 := by rw [hw0, alloc_size, alloc_size]
  obtain ⟨K0, hK0⟩ : ∃ K, K = toB kl := ⟨_, rfl⟩
  have hK0s : K0.size = 32 := by rw [hK0, toB_size, hk]
  obtain ⟨K, hK⟩ : ∃ K, K = K0.extract 0 16 := ⟨_, rfl⟩
  obtain ⟨S, hS⟩ : ∃ S, S = toB bl := ⟨_, rfl⟩
  have hKs : K.size = 4 * 4 := by rw [hK]; simp; omega
  have hSs : S.size = 16 := by rw [hS, toB_size, hb]
  have ck := row_back hkr hkb 32 hk.symm
  rw [← hK0, hw0] at ck
  have HB := Lib.hid hb0
  have HBR := Lib.hid (And.intro hbr hbb)
  have HBL := Lib.hid hb
  have HNW := Lib.hid (fun X => new_ok K 4 X (by decide) hKs)
  rw [hK] at HNW
  obtain ⟨D, hD⟩ : ∃ D, D = doneB 4 K S := ⟨_, rfl⟩
  obtain ⟨TB, hTB⟩ : ∃ TB, TB = allF sub 256 := ⟨_, rfl⟩
  obtain ⟨cs, hcs⟩ : ∃ cs, cs = (valsK .i64 TB).toList := ⟨_, rfl⟩
  have hcsl : cs.length = 256 := by rw [hcs, Array.length_toList, valsK_size, hTB, allF_length]
  have hca : (cs.toArray : Array Value) = valsK .i64 TB := by rw [hcs, Array.toArray_toList]
  obtain ⟨W, hWW⟩ : ∃ W, W = wordAt 4 (nums K) := ⟨_, rfl⟩
  have HD1 : Hid (∀ g X, Key g 4 K X → Calls Try.prog 16 #[.pointer (some ⟨g, 0, none⟩), .string S] X fun e w' => e = .returned (.string D) ∧ Below X.heap.size X w') := Lib.hid (fun g X h => by rw [hD]; exact do_key g 4 K S X (by decide) hSs h)
  have HTT : Hid (∀ X, Calls Try.prog 18 #[] X fun e w' => e = .returned (.agg (valsK .i64 TB)) ∧ Below X.heap.size X w') := Lib.hid (fun X => by rw [hTB]; exact table_any X)
  have HWD : Hid (∀ X, Calls Try.prog 20 #[.agg cs.toArray, .string K] X fun e w' => ∃ g cap, e = .returned (.slice (some ⟨g, 0, none⟩) (16 * (4 + 7)) cap) ∧ Words g (16 * (4 + 7)) W w' ∧ Below X.heap.size X w') := Lib.hid (fun X => by
    rw [hca, hTB, hWW]
    refine (words_any 4 K X (by decide) hKs).mono ?_
    rintro e w' ⟨g, cap, h1, h2, h3, h4⟩
    exact ⟨g, cap, h1, ⟨h2, h3⟩, h4⟩)
  rw [hK] at HWD
  have HRD : Hid (∀ gW cap X, Words gW (16 * (4 + 7)) W X → Calls Try.prog 19 #[.agg cs.toArray, .slice (some ⟨gW, 0, none⟩) (16 * (4 + 7)) cap, .string S] X fun e w' => e = .returned (.string D) ∧ Below X.heap.size X w') := Lib.hid (fun gW cap X h => by
    rw [hca, hTB, hD]
    rw [hWW] at h
    exact rdo_any gW (16 * (4 + 7)) cap (4 + 6) (wordAt 4 (nums K)) S X rfl (by decide) (by decide) hSs (fun j => wordAt_lt (nums_lt K) j) h)
  have HTL := Lib.hid (show (valsK .i64 TB).size = 256 by rw [valsK_size, hTB, allF_length])
  have HCS := Lib.hid hcs
  have HS := Lib.hid hS
  have HW0 := Lib.hid (And.intro hw0 hsz)
  have HKK := Lib.hid hK
  have k32 : (K0.size : Int) = 32 := by omega
  clear hkr hbr hb0 hK0 hK hS hKs hSs hk hkb hb hbb hD hw0 hsz hK0s hTB hcs hca hWW
  go_enter Try.func7, Try.ntmps7
  go_wp2_with fail
  refine (HNW.out _).mono ?_
  rintro e w1 ⟨rfl, hc, hb1⟩
  rw [← HW0.out.1] at hb1 hc
  rw [← HKK.out, HW0.out.2] at hc
  have HB1 := Lib.hid (below_link HB.out hb1)
  have hbr1 := keepBlock HBR.out.1 hb1
  have HBR1 := Lib.hid hbr1
  have HC1 := Lib.hid (show Key (w.heap.size + 1 + 1) 4 K w1 from hc)
  clear hb1 hc hbr1 ck
  go_wp2_with fail
  refine (awake_any _).mono ?_
  rintro e w2 ⟨rfl, hb2⟩
  have HB2 := Lib.hid (below_link HB1.out hb2)
  have HC2 := Lib.hid (HC1.out.next hb2)
  have HBR2 := Lib.hid (keepBlock HBR1.out hb2)
  clear hb2
  have hz := zero256i.1
  have hne := zeros_ne .i64
  go_wp2_with fail
  refine (HTT.out _).mono ?_
  rintro e w3 ⟨rfl, hb3⟩
  have h3 : Inv w (w.heap.size + 1 + 1) 4 K w3.heap.size TB (w.heap.size + 1) bl ((w3.alloc (.cells (valsK .i64 (zerosN 256)) 39)).setRow w3.heap.size (valsK .i64 TB)) := by
    have hbb3 : Below w3.heap.size w3 ((w3.alloc (.cells (valsK .i64 (zerosN 256)) 39)).setRow w3.heap.size (valsK .i64 TB)) := below_setRow ((Below.refl _ _).alloc (Nat.le_refl _) _) (Nat.le_refl _) _
    exact ⟨(HC2.out.next hb3).next hbb3, Wd.setRow (heap_alloc_new w3 _) TB, keepBlock (keepBlock HBR2.out hb3) hbb3, below_link (below_link HB2.out hb3) hbb3⟩
  have H3 := Lib.hid h3
  clear hb3 h3
  go_wp2_with (refine storeK (by rfl) .i64 39 _ _ (by rfl) _ (by rfl) TB (zerosN 256) (by rfl) ?_ ?_ ?_ ?_; exact heap_alloc_new w3 _; (rw [HTL.out, valsK_size]; exact List.length_replicate); (rw [HTL.out]; exact zero256i.2))
  obtain ⟨gT, hgT⟩ : ∃ g, g = w3.heap.size := ⟨_, rfl⟩
  rw [← hgT] at H3 ⊢
  clear hgT hz hne
  generalize (w3.alloc (.cells (valsK .i64 (zerosN 256)) 39)).setRow gT (valsK .i64 TB) = wq at *
  obtain ⟨g1, hg1⟩ : ∃ g, g = w.heap.size + 1 := ⟨_, rfl⟩
  obtain ⟨gc, hgc⟩ : ∃ g, g = w.heap.size + 1 + 1 := ⟨_, rfl⟩
  have hS : ∀ X, Inv w gc 4 K gT TB g1 bl X → X.rangeAt gT 0 cs ∧ (convert 38 9 (.slice (some ⟨g1, 0, none⟩) 16 16)).run Try.prog X = .ok (.string S) X := fun X h => by
    refine ⟨?_, ?_⟩
    · rw [HCS.out]; exact range_all h.tab
    · have := row_back h.blk HBR.out.2 16 HBL.out.symm
      rw [← HS.out] at this
      exact this
  have hinv : Inv w gc 4 K gT TB g1 bl wq.drew := by rw [hgc, hg1]; exact H3.out.drew
  rw [← hgc, ← hg1]
  have HSK := Lib.hid hS
  have hu := under256i
  have hi2 : (Try.prog.info? 39).map (·.size) = some cs.length := by rw [hcsl]; exact zero256i.2
  clear hS hg1 hgc H3
  go_wp2
  refine wp_region_held_drew (S := Inv w gc 4 K gT TB g1 bl) (by kernel_rfl) hinv (fun hHeld => ?_)
  refine wpAnyH_take (i := 0) (oi := ⟨some 33, _, _, _, _, _⟩) (v := .pointer (some ⟨gc, 0, none⟩)) rfl (by kernel_rfl) (by kernel_rfl) (by kernel_rfl) (fun _ _ _ h => h) (Or.inl ⟨by rfl, fun X hX => by go_simp⟩) hHeld ?_
  simp only [Act.put, List.setIfInBounds_toArray, List.set_cons_zero, List.set_cons_succ]
  refine wpAnyH_take (i := 1) (oi := ⟨some 34, _, _, _, _, _⟩) (v := .slice (some ⟨g1, 0, none⟩) 16 16) rfl (by kernel_rfl) (by kernel_rfl) (by kernel_rfl) (fun _ _ _ h => h) (Or.inl ⟨by rfl, fun X hX => by go_simp⟩) hHeld ?_
  simp only [Act.put, List.setIfInBounds_toArray, List.set_cons_zero, List.set_cons_succ]
  refine wpAnyH_take (i := 2) (oi := ⟨some 35, _, _, _, _, _⟩) (v := .string S) rfl (by kernel_rfl) (by kernel_rfl) (by kernel_rfl) (fun _ _ _ h => h) (Or.inl ⟨by rfl, fun X hX => by have h1 := (HSK.out X hX).2; go_simp⟩) hHeld ?_
  simp only [Act.put, List.setIfInBounds_toArray, List.set_cons_zero, List.set_cons_succ]
  refine wpAnyH_take (i := 4) (oi := ⟨some 37, _, _, _, _, _⟩) (v := .agg cs.toArray) rfl (by kernel_rfl) (by kernel_rfl) (by kernel_rfl) (fun _ _ _ h => h) (yieldsIf_load_mid (by rfl) 39 _ rfl gT 0 rfl cs _ (fun X hX => (HSK.out X hX).1) hu rfl hi2) hHeld ?_
  simp only [Act.put, List.setIfInBounds_toArray, List.set_cons_zero, List.set_cons_succ]
  refine wpAnyH_take (i := 5) (oi := ⟨some 38, _, _, _, _, _⟩) (v := .agg cs.toArray) rfl (by kernel_rfl) (by kernel_rfl) (by kernel_rfl) (fun _ _ _ h => h) (yieldsIf_load_mid (by rfl) 39 _ rfl gT 0 rfl cs _ (fun X hX => (HSK.out X hX).1) hu rfl hi2) hHeld ?_
  simp only [Act.put, List.setIfInBounds_toArray, List.set_cons_zero, List.set_cons_succ]
  refine wpAnyH_take (i := 6) (oi := ⟨some 39, _, _, _, _, _⟩) (v := .string (K0.extract 0 16)) rfl (by kernel_rfl) (by kernel_rfl) (by kernel_rfl) (fun _ _ _ h => h) (Or.inl ⟨by rfl, fun X hX => by go_simp⟩) hHeld ?_
  simp only [Act.put, List.setIfInBounds_toArray, List.set_cons_zero, List.set_cons_succ]
  refine wpAnyH_take (i := 8) (oi := ⟨some 41, _, _, _, _, _⟩) (v := .slice (some ⟨g1, 0, none⟩) 16 16) rfl (by kernel_rfl) (by kernel_rfl) (by kernel_rfl) (fun _ _ _ h => h) (Or.inl ⟨by rfl, fun X hX => by go_simp⟩) hHeld ?_
  simp only [Act.put, List.setIfInBounds_toArray, List.set_cons_zero, List.set_cons_succ]
  refine wpAnyH_take (i := 9) (oi := ⟨some 42, _, _, _, _, _⟩) (v := .string S) rfl (by kernel_rfl) (by kernel_rfl) (by kernel_rfl) (fun _ _ _ h => h) (Or.inl ⟨by rfl, fun X hX => by have h1 := (HSK.out X hX).2; go_simp⟩) hHeld ?_
  simp only [Act.put, List.setIfInBounds_toArray, List.set_cons_zero, List.set_cons_succ]
  refine wpAnyH_ready (rs := [3]) (by kernel_rfl) (by simp) ?_
  refine AllReadyH.cons rfl (fun K1 hK => ?_) AllReadyH.nil
  go_simp
  refine (HD1.out gc _ hHeld.key).mono ?_
  rintro e w4 ⟨rfl, hb4⟩
  have hHeld4 := hHeld.next hb4
  go_wp2_with fail
  refine hK.out _ _ hHeld4 (fun _ => ?_)
  clear hK hHeld hb4
  refine wpAnyH_ready (rs := [7]) (by kernel_rfl) (by simp) ?_
  refine AllReadyH.cons rfl (fun K1 hK => ?_) AllReadyH.nil
  go_simp
  refine (HWD.out _).mono ?_
  rintro e w5 ⟨gW, cap, rfl, hwd, hb5⟩
  have hHeld5 := hHeld4.next hb5
  go_wp2_with fail
  refine hK.out _ _ hHeld5 (fun _ => ?_)
  clear hK hHeld4 hb5
  refine wpAnyH_ready (rs := [10]) (by kernel_rfl) (by simp) ?_
  refine AllReadyH.cons rfl (fun K1 hK => ?_) AllReadyH.nil
  go_simp
  refine (HRD.out gW cap _ hwd).mono ?_
  rintro e w6 ⟨rfl, hb6⟩
  have hHeld6 := hHeld5.next hb6
  go_wp2_with fail
  refine hK.out _ _ hHeld6 (fun _ => ?_)
  clear hK hHeld5 hb6
  refine wpAnyH_take (i := 11) (oi := ⟨some 44, _, _, _, _, _⟩) (v := .bool true) rfl (by kernel_rfl) (by kernel_rfl) (by kernel_rfl) (fun _ _ _ h => h) (Or.inl ⟨by rfl, fun X hX => by go_simp⟩) hHeld6 ?_
  simp only [Act.put, List.setIfInBounds_toArray, List.set_cons_zero, List.set_cons_succ]
  refine wpAnyH_take (i := 12) (oi := ⟨some 6, _, _, _, _, _⟩) (v := .bool true) rfl (by kernel_rfl) (by kernel_rfl) (by kernel_rfl) (fun _ _ _ h => h) (Or.inl ⟨by rfl, fun X hX => by go_simp⟩) hHeld6 ?_
  simp only [Act.put, List.setIfInBounds_toArray, List.set_cons_zero, List.set_cons_succ]
  refine wpAnyH_done (by kernel_rfl) ?_ _
  go_wp2
  go_ret
  exact ⟨rfl, hHeld6.below⟩

theorem walk_blocks (kl : List Nat) (b : Bool) (bl : List Nat) (w : World) (hk : kl.length = 32) (hkb : ∀ c ∈ kl, c < 256) (hb : bl.length = 16) (hbb : ∀ c ∈ bl, c < 256) :
    Calls Try.prog 7 #[.agg (valsK .u8 kl), .bool b, .agg (valsK .u8 bl)] w fun e w' => e = .returned (.bool true) ∧ Below w.heap.size w w' := by
  cases b
  · exact blocks_short kl bl w hk hkb hb hbb
  · exact blocks_long kl bl w hk hkb hb hbb

end Aes
end Go.Proofs.Ytbocfmedkkgheaa
