/-
  A contract of the reference's Do: Push of a new key where the oldest entry makes room, which is the only one. Conditions: the table is in order, and it has no more than a thousand entries.
-/
import Derived.Test.YtelgglnamojegaaDoOver
namespace Go.Proofs.Ytelgglnamojegaa
open Go.ChangeShapes Go.WideShapes Go.ChangeAt Go.RowKit
set_option linter.unusedVariables false
open Ia (opBox)

set_option maxHeartbeats 4000000 in
set_option maxRecDepth 100000 in
theorem do_full_nil {w : World} {c : Nat} {vk vv : Value} {most : Nat} (kind : Nat) (k : Int) (y : ByteArray) (x0 : Int) (y0 : ByteArray) (h : RTab w c vk vv most [(x0, y0)]) (hk : (kind : Int) % 4 = 3) (hh : Miss [(x0, y0)] k) (hfull : most = 1) :
    Calls Try.prog 8 #[.pointer (some ⟨c, 0, none⟩), .agg #[.int .u8 kind, .int .i64 k, .string y]] w fun e w' => e = .returned (toldV ⟨#[]⟩ x0 true) ∧ RAfter w c vk vv most ([] ++ [(k, y)]) w' := by
  obtain ⟨i0, hi0, hz0, hz1, hz2⟩ := info_parts infoInt
  obtain ⟨j0, hj0, hy0, hy1, hy2⟩ := info_parts infoStr
  have hlt := h.lt
  have hb := h.boxes (opBox kind k y) (.cells told0 32)
  obtain ⟨gk0, cap0, hvk, -, -⟩ := h.rk.form (by simp)
  have ha := at_miss c _ vv most [(x0, y0)] k _ hb hh (by simp)
  have HA := Lib.hid ha; clear ha
  have hlen : [(x0, y0)].length = most := by simp [hfull]
  rw [hlen] at hvk
  subst hvk
  obtain ⟨g', e', hgl, ck⟩ := h.kcell (j := 0) (e := (x0, y0)) rfl
  cases e'
  have HT := Lib.hid h; clear h
  clear hb hh
  have hmpos : 0 < most := by omega
  have hmI : decide ((most : Int) < 1) = false := by simp; omega
  have hmI2 : decide (most < 1) = false := by simp; omega
  have hle : decide ((most : Int) ≤ (most : Int)) = true := by simp
  have HU := Lib.hid hfull; clear hfull
  have HLN := Lib.hid hlen; clear hlen
  unfold opBox told0 at HA
  unfold toldV
  go_enter Try.func8, Try.ntmps8
  go_wp2_with fail
  refine HA.out.mono ?_
  rintro e w1 ⟨rfl, hX⟩
  have hfr := Front.of (kind := kind) (k := k) (y := y) hX
  have o0 := hfr.o0
  have o1 := hfr.o1
  have o2 := hfr.o2
  have hsz : w1.heap.size = w.heap.size + 2 := hfr.size
  have HSZ := Lib.hid hsz; clear hsz
  have hX' : (w.alloc (opBox kind k y)).alloc (.cells told0 32) = w1 := hX
  have HX := Lib.hid hX'; clear hX hX' hfr
  go_wp2
  generalize hY : w1.alloc _ = w2
  have hout := Out.of (c := c) hlt HX.out hY
  have ht := hout.tab HT.out
  have c0 := ht.cell0
  have c2 := ht.cell2
  obtain ⟨gk', e', hgl2, ck2⟩ := ht.kcell (j := 0) (e := (x0, y0)) rfl
  cases e'
  have u0 : w2.cell? ⟨w1.heap.size, 0, none⟩ = some (.string ⟨#[]⟩) := by rw [HSZ.out]; exact cell_of_row _ _ 0 _ _ _ hout.out
  have u1 : w2.cell? ⟨w1.heap.size, 1, none⟩ = some (.int .i64 0) := by rw [HSZ.out]; exact cell_of_row _ _ 1 _ _ _ hout.out
  have u2 : w2.cell? ⟨w1.heap.size, 2, none⟩ = some (.bool false) := by rw [HSZ.out]; exact cell_of_row _ _ 2 _ _ _ hout.out
  have uf : ∀ i, w2.frozen? ⟨w1.heap.size, i, none⟩ = false := by rw [HSZ.out]; exact free_of_block hout.out
  have HO := Lib.hid hout; clear hout hY o0 o1 o2 ck
  have HT2 := Lib.hid ht; clear ht
  go_quiet (fail)
  go_wp2_with fail
  generalize hW3 : ((((w2.drewN nq).setCell ⟨w1.heap.size, 0, none⟩ (.string ⟨#[]⟩)).setCell ⟨w1.heap.size, 1, none⟩ (.int .i64 x0)).setCell ⟨w1.heap.size, 2, none⟩ (.bool true)) = w3
  obtain ⟨hb3, hout3, hbox3, o13, o23⟩ := HO.out.over HSZ.out hW3.symm
  have ht3 := (HT.out.boxes (opBox kind k y) (.cells told0 32)).below hb3
  have hdr := rdrop_any c _ vv most [(x0, y0)] 0 w3 ht3 (by simp) (by simp)
  have HDR := Lib.hid hdr; clear hdr hW3 ht3
  have HB0 := Lib.hid hb3; clear hb3
  refine HDR.out.mono ?_
  rintro e X ⟨rfl, haft⟩
  obtain ⟨vkX, vvX, ht, how, hchX⟩ := haft
  replace ht : RTab X c vkX vvX most [] := ht
  have q0 := chg_cell hchX (show w3.cell? ⟨w1.heap.size, 0, none⟩ = some (.string ⟨#[]⟩) by rw [HSZ.out]; exact cell_of_row _ _ 0 _ _ _ hout3) (by have := HSZ.out; omega)
  have q1 := chg_cell hchX (show w3.cell? ⟨w1.heap.size, 1, none⟩ = some (.int .i64 x0) by rw [HSZ.out]; exact cell_of_row _ _ 1 _ _ _ hout3) (by have := HSZ.out; omega)
  have q2 := chg_cell hchX (show w3.cell? ⟨w1.heap.size, 2, none⟩ = some (.bool true) by rw [HSZ.out]; exact cell_of_row _ _ 2 _ _ _ hout3) (by have := HSZ.out; omega)
  have o1 := chg_cell hchX o13 (by omega)
  have o2 := chg_cell hchX o23 (by omega)
  have hbx0 : Box w (fun k => k = c) X := ⟨(hchX.block _ (lt_of_block hbox3.box) (by omega)).trans hbox3.box, hbox3.chg.trans hchX (fun _ _ e => e), hbox3.lt⟩
  have HBX0 := Lib.hid hbx0; clear hbx0
  have HOW := Lib.hid how; clear how
  have HCH := Lib.hid hchX; clear hchX
  clear c0 c2 u0 u1 u2 uf ck2 hout3 hbox3 o13 o23 hk hle hmI hmI2
  obtain ⟨hvk, hvv⟩ := ht.nil rfl
  subst hvk hvv
  have c0 := ht.cell0
  have HTX := Lib.hid ht; clear ht
  have hs : ∀ Z, Below X.heap.size X Z → Z.cell? ⟨c, 0, none⟩ = some (.slice none 0 0) ∧ Z.cell? ⟨w.heap.size, 1, none⟩ = some (.int .i64 k) := fun Z hb => ⟨(hb.cell (p := ⟨c, 0, none⟩) (lt_of_cell c0)).trans c0, (hb.cell (p := ⟨w.heap.size, 1, none⟩) (lt_of_cell o1)).trans o1⟩
  have HS1 := Lib.hid hs; clear hs
  have hcf : ∀ Z, Below X.heap.size X Z → Z.cell? ⟨c, 0, none⟩ = some (.slice none 0 0) ∧ Z.frozen? ⟨c, 0, none⟩ = false := fun Z hb => ⟨(hb.cell (p := ⟨c, 0, none⟩) (lt_of_cell c0)).trans c0, free_of_block ((hb.block c HTX.out.lt).trans HTX.out.tab) 0⟩
  have HCF1 := Lib.hid hcf; clear hcf
  have hb0 := Below.refl X.heap.size X
  have c0a := alloc_cell c0
  have c0b : ∀ o o', ((X.alloc o).alloc o').cell? ⟨c, 0, none⟩ = some (.slice none 0 0) := fun o => alloc_cell (c0a o)
  have o1a := alloc_cell o1
  have o1b : ∀ o o', ((X.alloc o).alloc o').cell? ⟨w.heap.size, 1, none⟩ = some (.int .i64 k) := fun o => alloc_cell (o1a o)
  go_upto_region 24 with (fail)
  go_cut [] (fun wc => ∃ vk', RMid X c vk' (.slice none 0 0) most [] k wc)
  case first =>
    go_region_law
      (first
        | (refine step_append_lies _ rfl (.tmp 100) (.tmp 103) 27 rfl X.heap.size 3 i0 _ 1 8 Try.underlying27 hi0 hz0 hz1 hz2 rfl (by decide) (.slice (some ⟨X.heap.size, 0, none⟩) 0 0) 0 [] rfl ?_ ⟨X.heap.size + 1, 0, none⟩ 1 1 [(.int .i64 k)] rfl rfl ?_ ?_ (by decide) ?_ ?_ ?_ _ rfl ?_
           · exact (lit0 X 3).alloc _
           · exact one_new (second_at X _ (.int .i64 k) 3)
           · simp [Value.oneCell']
           · unfold maxLen; omega
           · omega
           · first | (simp; done) | (simp; omega)
           intro g2 cap2 wB hown2 hgrow2 hat2 hlt2
           have hb2 := bl_grown (by repeat (first | with_reducible assumption | with_reducible apply bl_drew | with_reducible apply bl_alloc)) hgrow2 (by intro j hj; simp [Value.ownBlock] at hj; omega)
           obtain ⟨cB, fB⟩ := HCF1.out _ hb2)
        | (refine step_append_lies _ rfl (.tmp 100) (.tmp 103) 27 rfl X.heap.size 3 i0 _ 1 8 Try.underlying27 hi0 hz0 hz1 hz2 rfl (by decide) (.slice (some ⟨X.heap.size + 1, 0, none⟩) 0 0) 0 [] rfl ?_ ⟨X.heap.size, 0, none⟩ 1 1 [(.int .i64 k)] rfl rfl ?_ ?_ (by decide) ?_ ?_ ?_ _ rfl ?_
           · exact lit2 X 3 _
           · exact one_new (first_at X _ (.int .i64 k) 3)
           · simp [Value.oneCell']
           · unfold maxLen; omega
           · omega
           · first | (simp; done) | (simp; omega)
           intro g2 cap2 wB hown2 hgrow2 hat2 hlt2
           have hb2 := bl_grown (by repeat (first | with_reducible assumption | with_reducible apply bl_drew | with_reducible apply bl_alloc)) hgrow2 (by intro j hj; simp [Value.ownBlock] at hj; omega)
           obtain ⟨cB, fB⟩ := HCF1.out _ hb2))
    all_goals (go_wp2_with fail; go_meet)
    all_goals exact ⟨_, RMid.of HTX.out hb2 (hown2)⟩
  case rest =>
    obtain ⟨vk', hm⟩ := hcut
    clear c0 c0a c0b o1 o1a o1b hb0
    generalize hYY : wc = Y at *
    clear hYY
    have c1 := hm.cell1
    have o2' := chg_cell hm.chg o2 (by omega)
    have hs : ∀ Z, Below Y.heap.size Y Z → Z.cell? ⟨c, 1, none⟩ = some (.slice none 0 0) ∧ Z.cell? ⟨w.heap.size, 2, none⟩ = some (.string y) := fun Z hb => ⟨(hb.cell (p := ⟨c, 1, none⟩) (lt_of_cell c1)).trans c1, (hb.cell (p := ⟨w.heap.size, 2, none⟩) (lt_of_cell o2')).trans o2'⟩
    have HS2 := Lib.hid hs; clear hs
    have hcf : ∀ Z, Below Y.heap.size Y Z → Z.cell? ⟨c, 1, none⟩ = some (.slice none 0 0) ∧ Z.frozen? ⟨c, 1, none⟩ = false := fun Z hb => ⟨(hb.cell (p := ⟨c, 1, none⟩) (lt_of_cell c1)).trans c1, free_of_block ((hb.block c (lt_of_block hm.tab)).trans hm.tab) 1⟩
    have HCF2 := Lib.hid hcf; clear hcf
    have HM := Lib.hid hm; clear hm
    have hb0 := Below.refl Y.heap.size Y
    have c1a := alloc_cell c1
    have c1b : ∀ o o', ((Y.alloc o).alloc o').cell? ⟨c, 1, none⟩ = some (.slice none 0 0) := fun o => alloc_cell (c1a o)
    have o2a := alloc_cell o2'
    have o2b : ∀ o o', ((Y.alloc o).alloc o').cell? ⟨w.heap.size, 2, none⟩ = some (.string y) := fun o => alloc_cell (o2a o)
    go_upto_region 25 with (fail)
    go_cut [] (fun wc => RAfter X c (.slice none 0 0) (.slice none 0 0) most ([] ++ [(k, y)]) wc)
    case first =>
      go_region_law
        (first
          | (refine step_append_lies _ rfl (.tmp 113) (.tmp 116) 28 rfl Y.heap.size 9 j0 _ 1 16 Try.underlying28 hj0 hy0 hy1 hy2 rfl (by decide) (.slice (some ⟨Y.heap.size, 0, none⟩) 0 0) 0 [] rfl ?_ ⟨Y.heap.size + 1, 0, none⟩ 1 1 [(.string y)] rfl rfl ?_ ?_ (by decide) ?_ ?_ ?_ _ rfl ?_
             · exact (lit0 Y 9).alloc _
             · exact one_new (second_at Y _ (.string y) 9)
             · simp [Value.oneCell']
             · unfold maxLen; omega
             · omega
             · first | (simp; done) | (simp; omega)
             intro g2 cap2 wB hown2 hgrow2 hat2 hlt2
             have hb2 := bl_grown (by repeat (first | with_reducible assumption | with_reducible apply bl_drew | with_reducible apply bl_alloc)) hgrow2 (by intro j hj; simp [Value.ownBlock] at hj; omega)
             obtain ⟨cB, fB⟩ := HCF2.out _ hb2)
          | (refine step_append_lies _ rfl (.tmp 113) (.tmp 116) 28 rfl Y.heap.size 9 j0 _ 1 16 Try.underlying28 hj0 hy0 hy1 hy2 rfl (by decide) (.slice (some ⟨Y.heap.size + 1, 0, none⟩) 0 0) 0 [] rfl ?_ ⟨Y.heap.size, 0, none⟩ 1 1 [(.string y)] rfl rfl ?_ ?_ (by decide) ?_ ?_ ?_ _ rfl ?_
             · exact lit2 Y 9 _
             · exact one_new (first_at Y _ (.string y) 9)
             · simp [Value.oneCell']
             · unfold maxLen; omega
             · omega
             · first | (simp; done) | (simp; omega)
             intro g2 cap2 wB hown2 hgrow2 hat2 hlt2
             have hb2 := bl_grown (by repeat (first | with_reducible assumption | with_reducible apply bl_drew | with_reducible apply bl_alloc)) hgrow2 (by intro j hj; simp [Value.ownBlock] at hj; omega)
             obtain ⟨cB, fB⟩ := HCF2.out _ hb2))
      all_goals (go_wp2_with fail; go_meet)
      all_goals exact HM.out.fin HTX.out hb2 (hown2)
    case rest =>
      clear c1 c1a c1b o2' o2a o2b hb0
      generalize hYY : wc = F at *
      clear hYY
      have hch : Chg (fun k => k = c) X F := by obtain ⟨_, _, _, _, ch⟩ := hcut; exact ch
      have p0 := chg_cell hch q0 (by have := HSZ.out; omega)
      have p1 := chg_cell hch q1 (by have := HSZ.out; omega)
      have p2 := chg_cell hch q2 (by have := HSZ.out; omega)
      have hbox : Box w (fun k => k = c) F := ⟨(hch.block _ (lt_of_block HBX0.out.box) (by omega)).trans HBX0.out.box, HBX0.out.chg.trans hch (fun _ _ e => e), HBX0.out.lt⟩
      obtain ⟨r0, r1, r2, fz⟩ := hbox.cells
      have HBX := Lib.hid hbox; clear hbox hch q0 q1 q2
      have HC := Lib.hid hcut; clear hcut
      go_wp2
      obtain ⟨⟨k0, k1, k2⟩, hch, hk⟩ := HBX.out.end_ (.string ⟨#[]⟩) (.int .i64 x0) (.bool true) _ rfl
      refine bodyPost_ret (v := .agg #[.string ⟨#[]⟩, .int .i64 x0, .bool true]) (by simp [results, Try.results8, go_sem, k0, k1, k2]) rfl ⟨rfl, RAfter.fin (o := opBox kind k y) (p := .cells told0 32) HT.out (RAfter.pre HB0.out (RAfter.join HOW.out HCH.out HC.out)) hch hk⟩

end Go.Proofs.Ytelgglnamojegaa
