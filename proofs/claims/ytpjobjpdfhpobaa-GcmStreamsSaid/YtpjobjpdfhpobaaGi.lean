/-
  Contract of dromondref08.Turn. Conditions: the key and the nonce are permitted, the texts are shorter than 2^20 bytes.
-/
import Derived.Test.YtpjobjpdfhpobaaGh
import Derived.Test.YtpjobjpdfhpobaaEb
import Derived.Test.YtpjobjpdfhpobaaPm
import Derived.Deep.DeepCutAuto
namespace Go.Proofs.Ytpjobjpdfhpobaa
namespace Gcm
open Go.ChangeShapes Go.WideShapes Go.ChangeAt Go.RowKit Go.Great Go.ChangeMaps
open Gf Aes
set_option linter.unusedVariables false
set_option maxRecDepth 100000

theorem blockB_num (b : ByteArray) (h : b.size = 16) : blockB (big (nums b)) = b := by
  unfold blockB
  have := bytes_big (nums b) (nums_lt b)
  rw [nums_length, h] at this
  rw [this, toB_nums]
theorem orB_block (a b : Nat) : orB (blockB a) (blockB b) = blockB (a ^^^ b) := by
  unfold orB
  rw [nums_blockB, nums_blockB, ← bytes_xor]
  rfl
theorem done_block (n : Nat) (key b : ByteArray) (h : b.size = 16) : doneB n key b = blockB (encN n key (big (nums b))) := by
  have e : encN n key (big (nums b)) = big (nums (doneB n key b)) := by
    unfold encN encL
    have := bytes_big (nums b) (nums_lt b)
    rw [nums_length, h] at this
    rw [this, toB_nums]
  rw [e, blockB_num _ (doneB_size _ _ _)]

theorem load_wholeK {ops : Array Oper} {rest : List Oper} {op : Oper} {a : Act} {X : World} {Q : Exit → Act → World → Prop} (hgd : op.guard = none) (k : IntKind) (T : TypeId) (x : Operand) (ho : op.op = .load T x)
    (g : Nat) (hx : a.eval x = .pointer (some ⟨g, 0, none⟩)) (l : List Nat) (hg : Wd k T g l X) {n : Nat} {e : TypeId} (hu : Try.prog.underlying T = some (.array n e)) (hi : (Try.prog.info? T).map (·.size) = some (valsK k l).size)
    (h : wpList Try.prog ops Q rest (a.put op.dst (.agg (valsK k l))) X) : wpList Try.prog ops Q (op :: rest) a X :=
  wpList_plain hgd fun _ hK => wp_load_row T x ho g hx T (valsK k l) (0, 0) _ hg hu rfl hi (hK _ _ h)

/-- The table and the key's words, as they lie in memory. -/
structure Tn (w : World) (gT gW M : Nat) (TB : List Nat) (W : Nat → Nat) (X : World) : Prop where
  tab : Wd .i64 68 gT TB X
  wds : Words gW M W X
  below : Below w.heap.size w X
theorem words_next {gW M : Nat} {W : Nat → Nat} {X Y : World} (h : Words gW M W X) (hb : Below X.heap.size X Y) : Words gW M W Y :=
  ⟨Nat.lt_of_lt_of_le h.1 hb.size, fun j hj => by rw [hb.cell (p := ⟨gW, j, none⟩) h.1]; exact h.2 j hj⟩
theorem Tn.next {w X Y : World} {gT gW M : Nat} {TB : List Nat} {W : Nat → Nat} (h : Tn w gT gW M TB W X) (hb : Below X.heap.size X Y) : Tn w gT gW M TB W Y :=
  ⟨keepBlock h.tab hb, words_next h.wds hb, below_link h.below hb⟩
theorem Tn.drew {w X : World} {gT gW M : Nat} {TB : List Nat} {W : Nat → Nat} (h : Tn w gT gW M TB W X) : Tn w gT gW M TB W X.drew := h.next (Below.refl _ _).drew
theorem tab_range {T gT : Nat} {TB : List Nat} {X : World} (h : Wd .i64 T gT TB X) : X.rangeAt gT 0 (valsK .i64 TB).toList := fun j v hv => by
  rw [Nat.zero_add, cell_of_row _ _ _ _ _ _ h, ← Array.getElem?_toList]; exact hv

set_option maxHeartbeats 8000000 in
theorem turn_any (n : Nat) (key nonce s t : ByteArray) (sl : Bool) (w : World) (hn : n = 4 ∨ n = 8) (hk : key.size = 4 * n) (h8 : 8 ≤ nonce.size) (h16 : nonce.size ≤ 16) (hs : s.size ≤ 1048576) (ht : t.size ≤ 1048576) :
    Calls Try.prog 34 #[.string key, .string nonce, .string s, .string t, .bool sl] w fun e w' => e = .returned (.tuple #[.string (turnB n key nonce t), .string (tagB n key nonce s (if sl = true then t else turnB n key nonce t))]) ∧ Below w.heap.size w w' := by
  obtain ⟨TB, hTB⟩ : ∃ TB, TB = allF sub 256 := ⟨_, rfl⟩
  obtain ⟨cs, hcs⟩ : ∃ cs, cs = (valsK .i64 TB).toList := ⟨_, rfl⟩
  have hcsl : cs.length = 256 := by rw [hcs, Array.length_toList, valsK_size, hTB, allF_length]
  have hca : (cs.toArray : Array Value) = valsK .i64 TB := by rw [hcs, Array.toArray_toList]
  obtain ⟨W, hWW⟩ : ∃ W, W = wordAt n (nums key) := ⟨_, rfl⟩
  obtain ⟨M, hM⟩ : ∃ M, M = 16 * (n + 7) := ⟨_, rfl⟩
  have HTT : Hid (∀ X, Calls Try.prog 44 #[] X fun e w' => e = .returned (.agg (valsK .i64 TB)) ∧ Below X.heap.size X w') := Lib.hid (fun X => by rw [hTB]; exact table_any X)
  have HWD : Hid (∀ X, Calls Try.prog 45 #[.agg (valsK .i64 TB), .string key] X fun e w' => ∃ g cap, e = .returned (.slice (some ⟨g, 0, none⟩) M cap) ∧ Words g M W w' ∧ Below X.heap.size X w') := Lib.hid (fun X => by
    rw [hTB, hWW, hM]
    refine (words_any n key X hn hk).mono ?_
    rintro e w' ⟨g, cap, h1, h2, h3, h4⟩
    exact ⟨g, cap, h1, ⟨h2, h3⟩, h4⟩)
  have HRD : Hid (∀ gW cap S X, S.size = 16 → Words gW M W X → Calls Try.prog 46 #[.agg cs.toArray, .slice (some ⟨gW, 0, none⟩) M cap, .string S] X fun e w' => e = .returned (.string (doneB n key S)) ∧ Below X.heap.size X w') := Lib.hid (fun gW cap S X hS h => by
    rw [hca, hTB, hM]
    rw [hWW, hM] at h
    exact rdo_any gW (16 * (n + 7)) cap (n + 6) (wordAt n (nums key)) S X rfl (by omega) (by omega) hS (fun j => wordAt_lt (nums_lt key) j) h)
  have HTL := Lib.hid (show (valsK .i64 TB).size = 256 by rw [valsK_size, hTB, allF_length])
  have HCS := Lib.hid (And.intro hcs hcsl)
  have HNON := Lib.hid (And.intro h8 (And.intro h16 (And.intro hs ht)))
  have hz := zero256i.1
  have hne := zeros_ne .i64
  clear hTB hcs hcsl hca hWW hM hn hk h8 h16 hs ht
  go_enter Try.func34, Try.ntmps34
  go_wp2_with fail
  refine (HTT.out _).mono ?_
  rintro e w3 ⟨rfl, hb3⟩
  obtain ⟨gT, hgT⟩ : ∃ g, g = w3.heap.size := ⟨_, rfl⟩
  have htab : Wd .i64 68 gT TB ((w3.alloc (.cells (valsK .i64 (zerosN 256)) 68)).setRow gT (valsK .i64 TB)) := by rw [hgT]; exact Wd.setRow (heap_alloc_new w3 _) TB
  have hbel : Below w.heap.size w ((w3.alloc (.cells (valsK .i64 (zerosN 256)) 68)).setRow gT (valsK .i64 TB)) := below_setRow (below_alloc hb3 _) (by rw [hgT]; exact hb3.size) _
  have H3 := Lib.hid (And.intro htab hbel)
  clear hb3 htab hbel
  rw [hgT] at H3
  clear hgT
  go_wp2_with (first | (refine storeK (by rfl) .i64 68 _ _ (by rfl) _ (by rfl) TB (zerosN 256) (by rfl) ?_ ?_ ?_ ?_; exact heap_alloc_new w3 _; (rw [HTL.out, valsK_size]; exact List.length_replicate); (rw [HTL.out]; exact zero256i.2)) | (refine load_wholeK (by rfl) .i64 68 _ (by rfl) _ (by rfl) TB ?_ under256i ?_ ?_; exact H3.out.1; (rw [HTL.out]; exact zero256i.2)))
  refine (HWD.out _).mono ?_
  rintro e w4 ⟨gW, cap, rfl, hw4, hb4⟩
  have h4 : Tn w w3.heap.size gW M TB W w4 := ⟨keepBlock H3.out.1 hb4, hw4, below_link H3.out.2 hb4⟩
  obtain ⟨gT, hgT⟩ : ∃ g, g = w3.heap.size := ⟨_, rfl⟩
  rw [← hgT] at h4 ⊢
  have H4 := Lib.hid h4
  clear hw4 hb4 h4 hgT hz hne HTT HWD H3
  obtain ⟨Z, hZ⟩ : ∃ Z, Z = toB (List.replicate 16 0) := ⟨_, rfl⟩
  obtain ⟨L0, hL0⟩ : ∃ L0 : List Nat, L0 = List.replicate 16 0 := ⟨_, rfl⟩
  have hmk : (Instr.makeSlice 24 (.int .i64 16) (.int .i64 16)).run Try.prog w4 = .ok (.slice (some ⟨w4.heap.size, 0, none⟩) 16 16) (w4.alloc (.cells (valsK .u8 L0) 5)) := by rw [hL0]; exact make_row 16 (by decide) w4
  have hmkd : (Instr.makeSlice 24 (.int .i64 16) (.int .i64 16)).run Try.prog w4.drew = .ok (.slice (some ⟨w4.heap.size, 0, none⟩) 16 16) (w4.alloc (.cells (valsK .u8 L0) 5)).drew := by rw [hL0]; exact make_row 16 (by decide) w4.drew
  have hcv : (convert 24 9 (.slice (some ⟨w4.heap.size, 0, none⟩) 16 16)).run Try.prog (w4.alloc (.cells (valsK .u8 L0) 5)).drew = .ok (.string Z) (w4.alloc (.cells (valsK .u8 L0) 5)).drew := by
    rw [hZ, hL0]
    exact (rw_made w4 w4 (List.replicate 16 0) (Below.refl _ _)).drew.back (small_zeros 16) 16 16 (by simp)
  have H5 := Lib.hid (show Tn w gT gW M TB W (w4.alloc (.cells (valsK .u8 L0) 5)).drew from (H4.out.next (below_alloc (Below.refl _ _) _)).drew)
  obtain ⟨h, hh⟩ : ∃ h, h = doneB n key Z := ⟨_, rfl⟩
  have hhs : h.size = 16 := by rw [hh]; exact doneB_size _ _ _
  have hhn : numB h = hashKey n key := by rw [hh, hZ]; rfl
  have HH := Lib.hid (And.intro hh (And.intro hhs (And.intro hhn (show Z.size = 16 by rw [hZ, toB_size]; simp))))
  have hu := under256i
  have hi2 : (Try.prog.info? 68).map (·.size) = some cs.length := by rw [HCS.out.2]; exact zero256i.2
  have hcl := HCS.out.2
  have hone : ∀ v ∈ cs, v.oneCell' = true := by
    intro v hv
    rw [HCS.out.1] at hv
    exact (Array.all_eq_true_iff_forall_mem.1 (valsK_one .i64 TB)) v (by simpa using hv)
  have HSK := Lib.hid (show ∀ X, Tn w gT gW M TB W X → X.rangeAt gT 0 cs from fun X hX => by rw [HCS.out.1]; exact tab_range hX.tab)
  clear hh hhs hhn hZ hL0
  go_wp2
  refine wp_region_held_drew (S := Tn w gT gW M TB W) (by kernel_rfl) H4.out.drew (fun hHeld => ?_)
  refine wpAnyH_take (i := 0) (oi := ⟨some 23, _, _, _, _, _⟩) (v := .agg cs.toArray) rfl (by kernel_rfl) (by kernel_rfl) (by kernel_rfl) (fun _ _ _ h => h) (yieldsIf_load_mid (by rfl) 68 _ rfl gT 0 rfl cs _ (fun X hX => HSK.out X hX) hu rfl hi2) hHeld ?_
  simp only [Act.put, List.setIfInBounds_toArray, List.set_cons_zero, List.set_cons_succ]
  refine wpAnyH_take (i := 1) (oi := ⟨some 24, _, _, _, _, _⟩) (v := .slice (some ⟨gW, 0, none⟩) M cap) rfl (by kernel_rfl) (by kernel_rfl) (by kernel_rfl) (fun _ _ _ h => h) (Or.inl ⟨by rfl, fun X hX => by go_simp⟩) hHeld ?_
  simp only [Act.put, List.setIfInBounds_toArray, List.set_cons_zero, List.set_cons_succ]
  refine wpAnyH_ready (rs := [2]) (by kernel_rfl) (by simp) ?_
  refine AllReadyH.cons rfl (fun K1 hK => ?_) AllReadyH.nil
  go_simp
  refine hK.out _ _ H5.out (fun _ => ?_)
  clear hK hHeld
  have hHeld5 := H5.out
  refine wpAnyH_ready (rs := [3]) (by kernel_rfl) (by simp) ?_
  refine AllReadyH.cons rfl (fun K1 hK => ?_) AllReadyH.nil
  go_simp
  refine hK.out _ _ H5.out (fun _ => ?_)
  clear hK
  refine wpAnyH_ready (rs := [4]) (by kernel_rfl) (by simp) ?_
  refine AllReadyH.cons rfl (fun K1 hK => ?_) AllReadyH.nil
  go_simp
  refine (HRD.out gW cap Z _ HH.out.2.2.2 hHeld5.wds).mono ?_
  rintro e w6 ⟨rfl, hb6⟩
  have hHeld6 := hHeld5.next hb6
  have H6c := Lib.hid hHeld6
  rw [← HH.out.1]
  go_wp2_with fail
  refine hK.out _ _ hHeld6 (fun _ => ?_)
  clear hK hHeld5 hb6
  refine wpAnyH_take (i := 5) (oi := ⟨some 14, _, _, _, _, _⟩) (v := .string h) rfl (by kernel_rfl) (by kernel_rfl) (by kernel_rfl) (fun _ _ _ h => h) (Or.inl ⟨by rfl, fun X hX => by go_simp⟩) hHeld6 ?_
  simp only [Act.put, List.setIfInBounds_toArray, List.set_cons_zero, List.set_cons_succ]
  refine wpAnyH_done (by kernel_rfl) ?_ _
  clear hmk hmkd hcv hHeld6 H4 H5
  have H6 := Lib.hid (show Tn w gT gW M TB W w6 from H6c.out)
  clear H6c
  obtain ⟨FB, hFB⟩ : ∃ FB, FB = blockB (firstN n key nonce) := ⟨_, rfl⟩
  have HFB := Lib.hid hFB
  clear hFB
  have hnl : nonce.size ≤ 16 := HNON.out.2.1
  go_upto_if 32 with fail
  go_cut [15] (fun s15 wc => s15 = .string FB ∧ Tn w gT gW M TB W wc)
  case first =>
    by_cases h12 : nonce.size = 12
    · have g1 : (nonce.size : Int) = 12 := by omega
      have hF1 : nonce ++ ⟨#[0, 0, 0, 1]⟩ = FB := by
        have e := firstN_plain n key nonce h12
        have hsz : (nonce ++ ⟨#[0, 0, 0, 1]⟩ : ByteArray).size = 16 := by rw [ByteArray.size_append, h12]; rfl
        rw [padL_full (by rw [nums_length]; exact hsz)] at e
        rw [HFB.out, ← e, blockB_num _ hsz]
      have HF1 := Lib.hid hF1
      clear hF1 h12
      go_wp2_with fail
      go_meet
      exact ⟨by rw [HF1.out], H6.out⟩
    · have g1 : ¬ (nonce.size : Int) = 12 := by omega
      have hF1 : blockB (hashN (numB h) (nums ⟨#[]⟩) (nums nonce)) = FB := by rw [HFB.out, HH.out.2.2.1, firstN_other n key nonce h12]
      have HF1 := Lib.hid hF1
      clear hF1 h12
      go_wp2_with fail
      refine (rhash_any h _ nonce _ HH.out.2.1 (by decide) (by have := HNON.out.2.1; omega)).mono ?_
      rintro e w7 ⟨rfl, hb7⟩
      have H7 := Lib.hid (H6.out.next hb7)
      clear hb7
      go_wp2_with fail
      go_meet
      exact ⟨congrArg Value.string HF1.out, H7.out⟩
  case rest =>
    obtain ⟨rfl, hTn⟩ := hcut
    have HT := Lib.hid hTn
    clear hTn H6
    obtain ⟨N, hN⟩ : ∃ N, N = t.size := ⟨_, rfl⟩
    obtain ⟨nb, hnb⟩ : ∃ nb, nb = blocksOf N := ⟨_, rfl⟩
    have hnb2 : 16 * nb < N + 16 ∧ N ≤ 16 * nb := by rw [hnb]; unfold blocksOf; omega
    have hFBs : FB.size = 16 := by rw [HFB.out]; exact blockB_size _
    have hFBn : nums FB = firstL (encL n key zeros16) (nums nonce) := by rw [HFB.out, nums_blockB, bytes_first]
    obtain ⟨OUT, hOUT⟩ : ∃ OUT : Nat → ByteArray, OUT = fun k => toB (turnTo (encL n key) (nums FB) (nums t) k) := ⟨_, rfl⟩
    have hO0 : OUT 0 = ⟨#[]⟩ := by rw [hOUT]; rfl
    have hOS : ∀ k, OUT (k + 1) = OUT k ++ orB (t.extract (16 * k) t.size) (doneB n key (counterB FB (1 + k))) := fun k => by
      rw [hOUT]
      show toB (turnTo _ _ _ (k + 1)) = _
      unfold orB
      rw [toB_append, nums_extract]
      rfl
    have hOl : ∀ k, (OUT k).size ≤ N := fun k => by
      rw [hOUT]
      show (toB (turnTo (encL n key) (nums FB) (nums t) k)).size ≤ N
      rw [toB_size, turnTo_eq (encL_ok n key) (by rw [nums_length]; exact hFBs) (nums_lt FB), List.length_map, List.length_range, nums_length, hN]
      omega
    have hOE : OUT nb = turnB n key nonce t := by
      rw [hOUT, hnb, hN]
      show toB (turnTo (encL n key) (nums FB) (nums t) (blocksOf t.size)) = turnB n key nonce t
      unfold turnB turnL
      rw [hFBn, nums_length]
    have HO := Lib.hid (And.intro hO0 (And.intro hOS (And.intro hOl hOE)))
    have HN := Lib.hid (And.intro hN (And.intro hnb2 (And.intro HNON.out.2.2.2 (And.intro HNON.out.2.2.1 hFBs))))
    clear hN hnb hnb2 hFBs hFBn hOUT hO0 hOS hOl hOE hnl
    go_wp2
    go_loopw [16, 17] (fun y x wr => ∃ k : Nat, k ≤ nb ∧ x = .int .i64 ((16 * k : Nat) : Int) ∧ y = .string (OUT k) ∧ Tn w gT gW M TB W wr) (fun _ x _ => N + 16 - (intOf x).toNat)
    case atStart => exact ⟨0, Nat.zero_le _, rfl, by rw [HO.out.1], HT.out⟩
    case round =>
      obtain ⟨k, hk, rfl, rfl, hS⟩ := hrel
      clear HT
      obtain ⟨o, ho⟩ : ∃ o, o = 16 * k := ⟨_, rfl⟩
      rw [← ho]
      have hNN := HN.out
      have e0 : (t.size : Int) = (N : Int) := by omega
      by_cases hlt : k < nb
      · obtain ⟨o2, ho2⟩ : ∃ o2, o2 = 16 * (k + 1) := ⟨_, rfl⟩
        obtain ⟨c, hc⟩ : ∃ c, c = 1 + k := ⟨_, rfl⟩
        obtain ⟨T1, hT1⟩ : ∃ T1, T1 = t.extract o t.size := ⟨_, rfl⟩
        obtain ⟨CB, hCB⟩ : ∃ CB, CB = counterB FB c := ⟨_, rfl⟩
        obtain ⟨DB, hDB⟩ : ∃ DB, DB = doneB n key CB := ⟨_, rfl⟩
        obtain ⟨R, hR⟩ : ∃ R, R = orB T1 DB := ⟨_, rfl⟩
        obtain ⟨O1, hO1⟩ : ∃ O1, O1 = OUT k := ⟨_, rfl⟩
        obtain ⟨O2, hO2⟩ : ∃ O2, O2 = O1 ++ R := ⟨_, rfl⟩
        have hO2e : O2 = OUT (k + 1) := by rw [HO.out.2.1 k, hO2, hO1, hR, hDB, hCB, hT1, hc, ← ho]
        have hCBs : CB.size = 16 := by rw [hCB]; exact counterB_size hNN.2.2.2.2 c
        have hT1s : T1.size ≤ 1048576 := by rw [hT1]; simp [ByteArray.size_extract]; omega
        have hRs : R.size ≤ 16 := by rw [hR, orB_size, hDB, doneB_size]; omega
        have K1 := Lib.hid (fun X => counter_any FB c X hNN.2.2.2.2 (by omega))
        rw [← hCB] at K1
        have K3 := Lib.hid (fun X => ror_any T1 DB X (by omega) (by rw [hDB, doneB_size]; decide))
        rw [← hR] at K3
        have hcat : ∀ X : World, (Op.stringOp .add O1 R).run Try.prog X = .ok (.string O2) X := by
          rw [hO2]
          exact fun X => run_string_add_sum X O1 R (by have := HO.out.2.2.1 k; rw [← hO1] at this; omega)
        have g1 : (o : Int) < (N : Int) := by omega
        have g2 : (o : Int) + 16 = (o2 : Int) := by omega
        have g3 : (o : Int) / 16 = (k : Int) := by omega
        have g4 : 1 + (k : Int) = (c : Int) := by omega
        have g5 : (o : Int).tdiv 16 = (k : Int) := by rw [Int.tdiv_eq_ediv_of_nonneg (by omega)]; exact g3
        have g6 : IntKind.i64.wrap (k : Int) = (k : Int) := by rw [IntKind.wrap_i64]; omega
        have g7 : IntKind.i64.wrap (c : Int) = (c : Int) := by rw [IntKind.wrap_i64]; omega
        have g8 : (0 : Int) ≤ (o : Int) := by omega
        have g9 : (o : Int) ≤ (t.size : Int) := by omega
        have g10 : (o : Int) ≤ (N : Int) := by omega
        have hol : o ≤ 1048576 := by omega
        have HKK := Lib.hid (And.intro ho (And.intro ho2 (And.intro hlt (And.intro hO2e (And.intro hCBs (And.intro hT1 hDB))))))
        have HQ := Lib.hid hS
        have hrg := HSK.out wr hS
        rw [← hO1]
        clear hS ho ho2 hlt hc hT1 hCB hDB hR hO1 hO2 hO2e hCBs hT1s hRs hNN hk
        go_wp2
        go_region_held3 (fun X => X.rangeAt gT 0 cs) (first | exact HSK.out _ HQ.out.drew | exact HSK.out _ HQ1.out | exact HSK.out _ HQ2.out | exact HSK.out _ HQ3.out) (first
          | (go_at_call 48; with_reducible refine (K1.out _).mono ?_; rintro e w1 ⟨rfl, hb1⟩; have HQ1 := Lib.hid (HQ.out.drew.next hb1); clear hb1)
          | (go_at_call 46; with_reducible refine (HRD.out gW cap CB _ HKK.out.2.2.2.2.1 HQ1.out.wds).mono ?_; rintro e w2 ⟨rfl, hb2⟩; have HQ2 := Lib.hid (HQ1.out.next hb2); clear hb2)
          | (go_at_call 47; (try rw [← HKK.out.2.2.2.2.2.1, ← HKK.out.2.2.2.2.2.2]); with_reducible refine (K3.out _).mono ?_; rintro e w3 ⟨rfl, hb3⟩; have HQ3 := Lib.hid (HQ2.out.next hb3); clear hb3))
        go_wp2
        go_roundw
        case rel => exact ⟨k + 1, HKK.out.2.2.1, by rw [HKK.out.2.1], by rw [HKK.out.2.2.2.1], HQ3.out⟩
        case measure => have h1 := HKK.out.1; have h2 := HKK.out.2.1; have h3 := HKK.out.2.2.1; have h4 := HN.out.2.1; simp [intOf]; omega
      · obtain rfl : k = nb := by omega
        have g1 : ¬ (o : Int) < (N : Int) := by omega
        obtain ⟨O1, hO1⟩ : ∃ O1, O1 = OUT k := ⟨_, rfl⟩
        have hO1e : O1 = turnB n key nonce t := by rw [hO1]; exact HO.out.2.2.2
        rw [← hO1]
        have hO1s : O1.size ≤ 1048576 := by rw [hO1e, turnB_size]; exact HNON.out.2.2.2
        have HQ := Lib.hid hS
        have hrg := HSK.out wr hS
        have hdf : doneB n key FB = blockB (encN n key (firstN n key nonce)) := by
          rw [done_block n key FB hNN.2.2.2.2, HFB.out, nums_blockB, big_bytes (show firstN n key nonce < 256 ^ 16 from firstN_lt n key nonce)]
        obtain ⟨DB, hDB⟩ : ∃ DB, DB = doneB n key FB := ⟨_, rfl⟩
        have htag : ∀ SS : ByteArray, orB (blockB (hashN (numB h) (nums s) (nums SS))) DB = tagB n key nonce s SS := fun SS => by
          rw [hDB, hdf, orB_block, HH.out.2.2.1]; rfl
        have HTG := Lib.hid htag
        have HDB := Lib.hid (And.intro hDB (And.intro hO1e (show DB.size = 16 by rw [hDB]; exact doneB_size _ _ _)))
        have K5 := Lib.hid (fun (SS : ByteArray) X (hSS : SS.size ≤ 1048576) => rhash_any h s SS X HH.out.2.1 hNN.2.2.2.1 hSS)
        have hts := hNN.2.2.1
        clear hS hO1 hO1e hdf hDB htag ho hNN hk hlt
        cases sl
        · have HSS := Lib.hid (show O1.size ≤ 1048576 from hO1s)
          clear hO1s hts
          go_wp2
          go_region_held3 (fun X => X.rangeAt gT 0 cs) (first | exact HSK.out _ HQ.out.drew | exact HSK.out _ HQ1.out | exact HSK.out _ HQ2.out | exact HSK.out _ HQ3.out) (first
            | (go_at_call 17; with_reducible refine (K5.out O1 _ HSS.out).mono ?_; rintro e w1 ⟨rfl, hb1⟩; have HQ1 := Lib.hid (HQ.out.drew.next hb1); clear hb1)
            | (go_at_call 46; with_reducible refine (HRD.out gW cap FB _ HN.out.2.2.2.2 HQ1.out.wds).mono ?_; rintro e w2 ⟨rfl, hb2⟩; have HQ2 := Lib.hid (HQ1.out.next hb2); clear hb2)
            | (go_at_call 47; with_reducible refine (ror_any _ _ _ (by rw [blockB_size]; decide) (by rw [doneB_size]; decide)).mono ?_; rintro e w3 ⟨rfl, hb3⟩; have HQ3 := Lib.hid (HQ2.out.next hb3); clear hb3))
          go_wp2
          go_ret2
          exact ⟨by rw [← HDB.out.1, HTG.out O1, HDB.out.2.1]; rfl, HQ3.out.below⟩
        · have HSS := Lib.hid (show t.size ≤ 1048576 from hts)
          clear hO1s hts
          go_wp2
          go_region_held3 (fun X => X.rangeAt gT 0 cs) (first | exact HSK.out _ HQ.out.drew | exact HSK.out _ HQ1.out | exact HSK.out _ HQ2.out | exact HSK.out _ HQ3.out) (first
            | (go_at_call 17; with_reducible refine (K5.out t _ HSS.out).mono ?_; rintro e w1 ⟨rfl, hb1⟩; have HQ1 := Lib.hid (HQ.out.drew.next hb1); clear hb1)
            | (go_at_call 46; with_reducible refine (HRD.out gW cap FB _ HN.out.2.2.2.2 HQ1.out.wds).mono ?_; rintro e w2 ⟨rfl, hb2⟩; have HQ2 := Lib.hid (HQ1.out.next hb2); clear hb2)
            | (go_at_call 47; with_reducible refine (ror_any _ _ _ (by rw [blockB_size]; decide) (by rw [doneB_size]; decide)).mono ?_; rintro e w3 ⟨rfl, hb3⟩; have HQ3 := Lib.hid (HQ2.out.next hb3); clear hb3))
          go_wp2
          go_ret2
          exact ⟨by rw [← HDB.out.1, HTG.out t, HDB.out.2.1]; rfl, HQ3.out.below⟩

end Gcm
end Go.Proofs.Ytpjobjpdfhpobaa
