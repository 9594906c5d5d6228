/-
  A contract of the reference's Do: Put or Push of a new key where there is room. Conditions: the table is in order, and it has no more than a thousand entries.
-/
import Derived.Test.YtelgglnamojegaaDoMid
namespace Go.Proofs.Ytelgglnamojegaa
open Go.ChangeShapes Go.WideShapes Go.ChangeAt Go.RowKit
set_option linter.unusedVariables false
open Ia (opBox)

set_option maxHeartbeats 4000000 in
set_option maxRecDepth 100000 in
theorem do_new {w : World} {c : Nat} {vk vv : Value} {most : Nat} {es : List (Int × ByteArray)} (kind : Nat) (k : Int) (y : ByteArray) (p : Bool) (h : RTab w c vk vv most es) (hk1 : ((kind : Int) % 4 == 1) = false) (hk2 : ((kind : Int) % 4 == 2) = false) (hk3 : ((kind : Int) % 4 == 3) = p) (hh : Miss es k) (hn : es.length ≤ 1000) (hroom : es.length < most) (hpos : 0 < es.length) :
    Calls Try.prog 8 #[.pointer (some ⟨c, 0, none⟩), .agg #[.int .u8 kind, .int .i64 k, .string y]] w fun e w' => e = .returned (toldV ⟨#[]⟩ 0 (!p)) ∧ RAfter w c vk vv most (es ++ [(k, y)]) w' := by
  obtain ⟨i0, hi0, hz0, hz1, hz2⟩ := info_parts infoInt
  obtain ⟨j0, hj0, hy0, hy1, hy2⟩ := info_parts infoStr
  have hlt := h.lt
  have hb := h.boxes (opBox kind k y) (.cells told0 32)
  obtain ⟨gk, cap, hvk, -, -⟩ := h.rk.form hpos
  obtain ⟨gv, cap', hvv, -, -⟩ := h.rv.form hpos
  have ha := at_miss c _ vv most es k _ hb hh hn
  have HA := Lib.hid ha; clear ha
  subst hvk hvv
  have HT := Lib.hid h; clear h
  clear hb hh
  generalize hN : es.length = n at *
  have HN := Lib.hid hN; clear hN
  have hle : decide ((most : Int) ≤ (n : Int)) = false := by simp; omega
  have hle2 : decide (most ≤ n) = false := by simp; omega
  unfold opBox told0 at HA
  unfold toldV
  go_enter Try.func8, Try.ntmps8
  go_wp2_with fail
  refine HA.out.mono ?_
  rintro e w1 ⟨rfl, hX⟩
  have hfr := Front.of (kind := kind) (k := k) (y := y) hX
  have o0 := hfr.o0
  have o1 := hfr.o1
  have o2 := hfr.o2
  have hsz : w1.heap.size = w.heap.size + 2 := hfr.size
  have HSZ := Lib.hid hsz; clear hsz
  have hX' : (w.alloc (opBox kind k y)).alloc (.cells told0 32) = w1 := hX
  have HX := Lib.hid hX'; clear hX hX' hfr
  go_wp2
  generalize hY : w1.alloc _ = w2
  have hout := Out.of (c := c) hlt HX.out hY
  have ht := hout.tab HT.out
  have c0 := ht.cell0
  have c2 := ht.cell2
  have HO := Lib.hid hout; clear hout hY o0 o1 o2
  have HT2 := Lib.hid ht; clear ht
  go_quiet (fail)
  go_wp2_with fail
  generalize hZ : w2.drewN nq = X
  have ht : RTab X c (.slice (some ⟨gk, 0, none⟩) n cap) (.slice (some ⟨gv, 0, none⟩) n cap') most es := by rw [← hZ]; exact HT2.out.keep fun _ _ => rfl
  clear c0 c2
  have o1 : X.cell? ⟨w.heap.size, 1, none⟩ = some (.int .i64 k) := by rw [← hZ]; exact HO.out.o1
  have o2 : X.cell? ⟨w.heap.size, 2, none⟩ = some (.string y) := by rw [← hZ]; exact HO.out.o2
  have HZ := Lib.hid hZ; clear hZ
  clear hk1 hk2 hk3 hle hle2
  have c0 := ht.cell0
  have HTX := Lib.hid ht; clear ht
  have hs : ∀ Z, Below X.heap.size X Z → Z.cell? ⟨c, 0, none⟩ = some (.slice (some ⟨gk, 0, none⟩) n cap) ∧ Z.cell? ⟨w.heap.size, 1, none⟩ = some (.int .i64 k) := fun Z hb => ⟨(hb.cell (p := ⟨c, 0, none⟩) (lt_of_cell c0)).trans c0, (hb.cell (p := ⟨w.heap.size, 1, none⟩) (lt_of_cell o1)).trans o1⟩
  have HS1 := Lib.hid hs; clear hs
  have hcf : ∀ Z, Below X.heap.size X Z → Z.cell? ⟨c, 0, none⟩ = some (.slice (some ⟨gk, 0, none⟩) n cap) ∧ Z.frozen? ⟨c, 0, none⟩ = false := fun Z hb => ⟨(hb.cell (p := ⟨c, 0, none⟩) (lt_of_cell c0)).trans c0, free_of_block ((hb.block c HTX.out.lt).trans HTX.out.tab) 0⟩
  have HCF1 := Lib.hid hcf; clear hcf
  have hk1 : (kcells es).length = n * 1 := by simp [kcells, HN.out]
  have HK1 := Lib.hid hk1; clear hk1
  have hnw : ∀ Z, Below X.heap.size X Z → ∀ j u, (kcells es)[j]? = some u → Z.cell? ((⟨gk, 0, none⟩ : Addr).add j) = some u := fun Z hb => knews HTX.out hb
  have HNW1 := Lib.hid hnw; clear hnw
  have hb0 := Below.refl X.heap.size X
  have c0a := alloc_cell c0
  have c0b : ∀ o o', ((X.alloc o).alloc o').cell? ⟨c, 0, none⟩ = some (.slice (some ⟨gk, 0, none⟩) n cap) := fun o => alloc_cell (c0a o)
  have o1a := alloc_cell o1
  have o1b : ∀ o o', ((X.alloc o).alloc o').cell? ⟨w.heap.size, 1, none⟩ = some (.int .i64 k) := fun o => alloc_cell (o1a o)
  go_upto_region 24 with (fail)
  go_cut [] (fun wc => ∃ vk', RMid X c vk' (.slice (some ⟨gv, 0, none⟩) n cap') most es k wc)
  case first =>
    go_region_law
      (first
        | (refine step_append_lies _ rfl (.tmp 95) (.tmp 99) 27 rfl X.heap.size 3 i0 _ 1 8 Try.underlying27 hi0 hz0 hz1 hz2 rfl (by decide) (.slice (some ⟨X.heap.size, 0, none⟩) 0 0) 0 [] rfl ?_ ⟨gk, 0, none⟩ n cap (kcells es) rfl HK1.out ?_ (kone es) hpos ?_ ?_ ?_ _ rfl ?_
           · first | exact lit0 X 3 | exact (lit0 X 3).alloc _
           · exact HNW1.out _ (by repeat (first | with_reducible assumption | with_reducible apply bl_drew | with_reducible apply bl_alloc))
           · unfold maxLen; omega
           · omega
           · first | (simp; done) | (simp; omega)
           intro g1 cap1 wA hown1 hgrow1 hat1 hlt1
           have hb1 := bl_grown (by repeat (first | with_reducible assumption | with_reducible apply bl_drew | with_reducible apply bl_alloc)) hgrow1 (by intro j hj; simp [Value.ownBlock] at hj; omega)
           simp only [Nat.zero_add, List.nil_append] at hown1
           obtain ⟨cA, oA⟩ := HS1.out _ hb1
           have oAa := alloc_cell oA
           rw [Nat.zero_add])
        | (refine step_append_lies _ rfl (.tmp 95) (.tmp 99) 27 rfl X.heap.size 3 i0 _ 1 8 Try.underlying27 hi0 hz0 hz1 hz2 rfl (by decide) (.slice (some ⟨X.heap.size + 1, 0, none⟩) 0 0) 0 [] rfl ?_ ⟨gk, 0, none⟩ n cap (kcells es) rfl HK1.out ?_ (kone es) hpos ?_ ?_ ?_ _ rfl ?_
           · exact lit2 X 3 _
           · exact HNW1.out _ (by repeat (first | with_reducible assumption | with_reducible apply bl_drew | with_reducible apply bl_alloc))
           · unfold maxLen; omega
           · omega
           · first | (simp; done) | (simp; omega)
           intro g1 cap1 wA hown1 hgrow1 hat1 hlt1
           have hb1 := bl_grown (by repeat (first | with_reducible assumption | with_reducible apply bl_drew | with_reducible apply bl_alloc)) hgrow1 (by intro j hj; simp [Value.ownBlock] at hj; omega)
           simp only [Nat.zero_add, List.nil_append] at hown1
           obtain ⟨cA, oA⟩ := HS1.out _ hb1
           have oAa := alloc_cell oA
           rw [Nat.zero_add])
        | (refine step_append_lies _ rfl (.tmp 100) (.tmp 103) 27 rfl X.heap.size 3 i0 _ 1 8 Try.underlying27 hi0 hz0 hz1 hz2 rfl (by decide) (.slice (some ⟨g1, 0, none⟩) n cap1) n (kcells es) rfl ?_ ⟨wA.heap.size, 0, none⟩ 1 1 [(.int .i64 k)] rfl rfl ?_ ?_ (by decide) ?_ ?_ ?_ _ rfl ?_
           · exact hown1.alloc _
           · exact one_new (heap_alloc_new wA _)
           · simp [Value.oneCell']
           · unfold maxLen; omega
           · omega
           · have := hb1.size; first | (simp; omega) | omega
           intro g2 cap2 wB hown2 hgrow2 hat2 hlt2
           have hb2 := bl_grown (by repeat (first | with_reducible assumption | with_reducible apply bl_drew | with_reducible apply bl_alloc)) hgrow2 (by intro j hj; exact (hown1.lt j hj).1)
           obtain ⟨cB, fB⟩ := HCF1.out _ hb2)
        | (refine step_append_lies _ rfl (.tmp 100) (.tmp 103) 27 rfl X.heap.size 3 i0 _ 1 8 Try.underlying27 hi0 hz0 hz1 hz2 rfl (by decide) (.slice (some ⟨g1, 0, none⟩) n cap1) n (kcells es) rfl ?_ ⟨X.heap.size + 1, 0, none⟩ 1 1 [(.int .i64 k)] rfl rfl ?_ ?_ (by decide) ?_ ?_ ?_ _ rfl ?_
           · exact hown1
           · exact one_new (kept_block hgrow1 (second_at X _ (.int .i64 k) 3) (by simp [Value.ownBlock]))
           · simp [Value.oneCell']
           · unfold maxLen; omega
           · omega
           · have := hb1.size; first | (simp; omega) | omega
           intro g2 cap2 wB hown2 hgrow2 hat2 hlt2
           have hb2 := bl_grown (by repeat (first | with_reducible assumption | with_reducible apply bl_drew | with_reducible apply bl_alloc)) hgrow2 (by intro j hj; exact (hown1.lt j hj).1)
           obtain ⟨cB, fB⟩ := HCF1.out _ hb2)
        | (refine step_append_lies _ rfl (.tmp 100) (.tmp 103) 27 rfl X.heap.size 3 i0 _ 1 8 Try.underlying27 hi0 hz0 hz1 hz2 rfl (by decide) (.slice (some ⟨g1, 0, none⟩) n cap1) n (kcells es) rfl ?_ ⟨X.heap.size, 0, none⟩ 1 1 [(.int .i64 k)] rfl rfl ?_ ?_ (by decide) ?_ ?_ ?_ _ rfl ?_
           · exact hown1
           · exact one_new (kept_block hgrow1 (first_at X _ (.int .i64 k) 3) (by simp [Value.ownBlock]))
           · simp [Value.oneCell']
           · unfold maxLen; omega
           · omega
           · have := hb1.size; first | (simp; omega) | omega
           intro g2 cap2 wB hown2 hgrow2 hat2 hlt2
           have hb2 := bl_grown (by repeat (first | with_reducible assumption | with_reducible apply bl_drew | with_reducible apply bl_alloc)) hgrow2 (by intro j hj; exact (hown1.lt j hj).1)
           obtain ⟨cB, fB⟩ := HCF1.out _ hb2))
    all_goals (go_wp2_with fail; go_meet)
    all_goals exact ⟨_, RMid.of HTX.out hb2 (by rw [HN.out]; exact hown2)⟩
  case rest =>
    obtain ⟨vk', hm⟩ := hcut
    clear c0 c0a c0b o1 o1a o1b hb0
    generalize hYY : wc = Y at *
    clear hYY
    have c1 := hm.cell1
    have o2' := chg_cell hm.chg o2 (by omega)
    have hs : ∀ Z, Below Y.heap.size Y Z → Z.cell? ⟨c, 1, none⟩ = some (.slice (some ⟨gv, 0, none⟩) n cap') ∧ Z.cell? ⟨w.heap.size, 2, none⟩ = some (.string y) := fun Z hb => ⟨(hb.cell (p := ⟨c, 1, none⟩) (lt_of_cell c1)).trans c1, (hb.cell (p := ⟨w.heap.size, 2, none⟩) (lt_of_cell o2')).trans o2'⟩
    have HS2 := Lib.hid hs; clear hs
    have hcf : ∀ Z, Below Y.heap.size Y Z → Z.cell? ⟨c, 1, none⟩ = some (.slice (some ⟨gv, 0, none⟩) n cap') ∧ Z.frozen? ⟨c, 1, none⟩ = false := fun Z hb => ⟨(hb.cell (p := ⟨c, 1, none⟩) (lt_of_cell c1)).trans c1, free_of_block ((hb.block c (lt_of_block hm.tab)).trans hm.tab) 1⟩
    have HCF2 := Lib.hid hcf; clear hcf
    have hk1 : (vcells es).length = n * 1 := by simp [vcells, HN.out]
    have HK2 := Lib.hid hk1; clear hk1
    have hvr := hm.vrow HTX.out
    rw [HN.out] at hvr
    have hnw : ∀ Z, Below Y.heap.size Y Z → ∀ j u, (vcells es)[j]? = some u → Z.cell? ((⟨gv, 0, none⟩ : Addr).add j) = some u := fun Z hb => own_news hvr hb
    have HNW2 := Lib.hid hnw; clear hnw hvr
    have HM := Lib.hid hm; clear hm
    have hb0 := Below.refl Y.heap.size Y
    have c1a := alloc_cell c1
    have c1b : ∀ o o', ((Y.alloc o).alloc o').cell? ⟨c, 1, none⟩ = some (.slice (some ⟨gv, 0, none⟩) n cap') := fun o => alloc_cell (c1a o)
    have o2a := alloc_cell o2'
    have o2b : ∀ o o', ((Y.alloc o).alloc o').cell? ⟨w.heap.size, 2, none⟩ = some (.string y) := fun o => alloc_cell (o2a o)
    go_upto_region 25 with (fail)
    go_cut [] (fun wc => RAfter X c (.slice (some ⟨gk, 0, none⟩) n cap) (.slice (some ⟨gv, 0, none⟩) n cap') most (es ++ [(k, y)]) wc)
    case first =>
      go_region_law
        (first
          | (refine step_append_lies _ rfl (.tmp 108) (.tmp 112) 28 rfl Y.heap.size 9 j0 _ 1 16 Try.underlying28 hj0 hy0 hy1 hy2 rfl (by decide) (.slice (some ⟨Y.heap.size, 0, none⟩) 0 0) 0 [] rfl ?_ ⟨gv, 0, none⟩ n cap' (vcells es) rfl HK2.out ?_ (vone es) hpos ?_ ?_ ?_ _ rfl ?_
             · first | exact lit0 Y 9 | exact (lit0 Y 9).alloc _
             · exact HNW2.out _ (by repeat (first | with_reducible assumption | with_reducible apply bl_drew | with_reducible apply bl_alloc))
             · unfold maxLen; omega
             · omega
             · first | (simp; done) | (simp; omega)
             intro g1 cap1 wA hown1 hgrow1 hat1 hlt1
             have hb1 := bl_grown (by repeat (first | with_reducible assumption | with_reducible apply bl_drew | with_reducible apply bl_alloc)) hgrow1 (by intro j hj; simp [Value.ownBlock] at hj; omega)
             simp only [Nat.zero_add, List.nil_append] at hown1
             obtain ⟨cA, oA⟩ := HS2.out _ hb1
             have oAa := alloc_cell oA
             rw [Nat.zero_add])
          | (refine step_append_lies _ rfl (.tmp 108) (.tmp 112) 28 rfl Y.heap.size 9 j0 _ 1 16 Try.underlying28 hj0 hy0 hy1 hy2 rfl (by decide) (.slice (some ⟨Y.heap.size + 1, 0, none⟩) 0 0) 0 [] rfl ?_ ⟨gv, 0, none⟩ n cap' (vcells es) rfl HK2.out ?_ (vone es) hpos ?_ ?_ ?_ _ rfl ?_
             · exact lit2 Y 9 _
             · exact HNW2.out _ (by repeat (first | with_reducible assumption | with_reducible apply bl_drew | with_reducible apply bl_alloc))
             · unfold maxLen; omega
             · omega
             · first | (simp; done) | (simp; omega)
             intro g1 cap1 wA hown1 hgrow1 hat1 hlt1
             have hb1 := bl_grown (by repeat (first | with_reducible assumption | with_reducible apply bl_drew | with_reducible apply bl_alloc)) hgrow1 (by intro j hj; simp [Value.ownBlock] at hj; omega)
             simp only [Nat.zero_add, List.nil_append] at hown1
             obtain ⟨cA, oA⟩ := HS2.out _ hb1
             have oAa := alloc_cell oA
             rw [Nat.zero_add])
          | (refine step_append_lies _ rfl (.tmp 113) (.tmp 116) 28 rfl Y.heap.size 9 j0 _ 1 16 Try.underlying28 hj0 hy0 hy1 hy2 rfl (by decide) (.slice (some ⟨g1, 0, none⟩) n cap1) n (vcells es) rfl ?_ ⟨wA.heap.size, 0, none⟩ 1 1 [(.string y)] rfl rfl ?_ ?_ (by decide) ?_ ?_ ?_ _ rfl ?_
             · exact hown1.alloc _
             · exact one_new (heap_alloc_new wA _)
             · simp [Value.oneCell']
             · unfold maxLen; omega
             · omega
             · have := hb1.size; first | (simp; omega) | omega
             intro g2 cap2 wB hown2 hgrow2 hat2 hlt2
             have hb2 := bl_grown (by repeat (first | with_reducible assumption | with_reducible apply bl_drew | with_reducible apply bl_alloc)) hgrow2 (by intro j hj; exact (hown1.lt j hj).1)
             obtain ⟨cB, fB⟩ := HCF2.out _ hb2)
          | (refine step_append_lies _ rfl (.tmp 113) (.tmp 116) 28 rfl Y.heap.size 9 j0 _ 1 16 Try.underlying28 hj0 hy0 hy1 hy2 rfl (by decide) (.slice (some ⟨g1, 0, none⟩) n cap1) n (vcells es) rfl ?_ ⟨Y.heap.size + 1, 0, none⟩ 1 1 [(.string y)] rfl rfl ?_ ?_ (by decide) ?_ ?_ ?_ _ rfl ?_
             · exact hown1
             · exact one_new (kept_block hgrow1 (second_at Y _ (.string y) 9) (by simp [Value.ownBlock]))
             · simp [Value.oneCell']
             · unfold maxLen; omega
             · omega
             · have := hb1.size; first | (simp; omega) | omega
             intro g2 cap2 wB hown2 hgrow2 hat2 hlt2
             have hb2 := bl_grown (by repeat (first | with_reducible assumption | with_reducible apply bl_drew | with_reducible apply bl_alloc)) hgrow2 (by intro j hj; exact (hown1.lt j hj).1)
             obtain ⟨cB, fB⟩ := HCF2.out _ hb2)
          | (refine step_append_lies _ rfl (.tmp 113) (.tmp 116) 28 rfl Y.heap.size 9 j0 _ 1 16 Try.underlying28 hj0 hy0 hy1 hy2 rfl (by decide) (.slice (some ⟨g1, 0, none⟩) n cap1) n (vcells es) rfl ?_ ⟨Y.heap.size, 0, none⟩ 1 1 [(.string y)] rfl rfl ?_ ?_ (by decide) ?_ ?_ ?_ _ rfl ?_
             · exact hown1
             · exact one_new (kept_block hgrow1 (first_at Y _ (.string y) 9) (by simp [Value.ownBlock]))
             · simp [Value.oneCell']
             · unfold maxLen; omega
             · omega
             · have := hb1.size; first | (simp; omega) | omega
             intro g2 cap2 wB hown2 hgrow2 hat2 hlt2
             have hb2 := bl_grown (by repeat (first | with_reducible assumption | with_reducible apply bl_drew | with_reducible apply bl_alloc)) hgrow2 (by intro j hj; exact (hown1.lt j hj).1)
             obtain ⟨cB, fB⟩ := HCF2.out _ hb2))
      all_goals (go_wp2_with fail; go_meet)
      all_goals exact HM.out.fin HTX.out hb2 (by rw [HN.out]; exact hown2)
    case rest =>
      clear c1 c1a c1b o2' o2a o2b hb0
      generalize hYY : wc = F at *
      clear hYY
      have hch : Chg (fun k => k = c) X F := by obtain ⟨_, _, _, _, ch⟩ := hcut; exact ch
      obtain ⟨t0, t1, t2, tf⟩ := HO.out.box.cells
      have p0 := chg_cell hch (show X.cell? ⟨w1.heap.size, 0, none⟩ = some (.string ⟨#[]⟩) by rw [HSZ.out, ← HZ.out]; exact cell_of_row _ _ 0 _ _ _ HO.out.out) (by have := HSZ.out; omega)
      have p1 := chg_cell hch (show X.cell? ⟨w1.heap.size, 1, none⟩ = some (.int .i64 0) by rw [HSZ.out, ← HZ.out]; exact cell_of_row _ _ 1 _ _ _ HO.out.out) (by have := HSZ.out; omega)
      have p2 := chg_cell hch (show X.cell? ⟨w1.heap.size, 2, none⟩ = some (.bool (!p)) by rw [HSZ.out, ← HZ.out]; exact cell_of_row _ _ 2 _ _ _ HO.out.out) (by have := HSZ.out; omega)
      have hbox : Box w (fun k => k = c) F := by
        refine ⟨(hch.block _ (by rw [← HZ.out]; exact lt_of_block HO.out.box.box) (by omega)).trans (by rw [← HZ.out]; exact HO.out.box.box), ?_, by rintro _ rfl; exact hlt⟩
        refine Chg.trans ?_ hch (fun _ _ e => e)
        rw [← HZ.out]
        exact (HO.out.box.drewN _).chg
      obtain ⟨r0, r1, r2, fz⟩ := hbox.cells
      have HBX := Lib.hid hbox; clear hbox hch t0 t1 t2 tf
      have HC := Lib.hid hcut; clear hcut
      go_wp2
      obtain ⟨⟨k0, k1, k2⟩, hch, hk⟩ := HBX.out.end_ (.string ⟨#[]⟩) (.int .i64 0) (.bool (!p)) _ rfl
      refine bodyPost_ret (v := .agg #[.string ⟨#[]⟩, .int .i64 0, .bool (!p)]) (by simp [results, Try.results8, go_sem, k0, k1, k2]) rfl ⟨rfl, RAfter.fin (o := opBox kind k y) (p := .cells told0 32) HT.out (RAfter.pre (w1 := X) ?_ HC.out) hch hk⟩
      rw [← HZ.out]
      exact below_drewN' (by simpa using HO.out.below) _

end Go.Proofs.Ytelgglnamojegaa
