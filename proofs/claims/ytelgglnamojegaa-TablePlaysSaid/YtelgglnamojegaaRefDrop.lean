/-
  A contract of the reference's drop. Conditions: the table is in order, and it has no more than a thousand entries.
-/
import Derived.Test.YtelgglnamojegaaRef
namespace Go.Proofs.Ytelgglnamojegaa
open Go.ChangeShapes Go.WideShapes Go.ChangeAt Go.RowKit
set_option linter.unusedVariables false

theorem infoInt : (Try.prog.info? 3).map (fun i => (i.zero, i.size, i.bytes)) = some (some (.int .i64 0), 1, 8) := by kernel_rfl
theorem infoStr : (Try.prog.info? 9).map (fun i => (i.zero, i.size, i.bytes)) = some (some (.string ⟨#[]⟩), 1, 16) := by kernel_rfl

theorem kept_step {es : List (Int × ByteArray)} {i j : Nat} {e : Int × ByteArray} (he : es[j]? = some e) (hne : j ≠ i) : (es.take (j + 1)).eraseIdx i = (es.take j).eraseIdx i ++ [e] := by
  have hj : j < es.length := (List.getElem?_eq_some_iff.1 he).1
  have hl : (es.take j).length = j := by simp; omega
  rw [List.take_add_one, he, Option.toList_some]
  rcases Nat.lt_or_ge i j with h | h
  · exact List.eraseIdx_append_of_lt_length (by omega) _
  · rw [List.eraseIdx_of_length_le (by simp; omega), List.eraseIdx_of_length_le (by simp; omega)]

theorem kept_skip {es : List (Int × ByteArray)} {i : Nat} (hi : i < es.length) : (es.take (i + 1)).eraseIdx i = (es.take i).eraseIdx i := by
  have he : es[i]? = some es[i] := List.getElem?_eq_getElem hi
  have hl : (es.take i).length = i := by simp; omega
  rw [List.take_add_one, he, Option.toList_some, List.eraseIdx_append_of_length_le (by omega), hl, List.eraseIdx_of_length_le (l := es.take i) (by omega), Nat.sub_self]
  simp

/-- What drop has gathered behind j rounds. -/
structure DropLoop (w : World) (l : List (Int × ByteArray)) (u z : Value) (wr : World) : Prop where
  rk : wr.ownsRow w.heap.size 3 1 u l.length (kcells l)
  rv : wr.ownsRow w.heap.size 9 1 z l.length (vcells l)
  apart : ∀ k, u.ownBlock = some k → z.ownBlock ≠ some k
  below : Below w.heap.size w wr
  nil : l = [] → u = .slice none 0 0 ∧ z = .slice none 0 0

theorem DropLoop.form {w wr : World} {l : List (Int × ByteArray)} {u z : Value} (h : DropLoop w l u z wr) : ∃ A cap B cap', u = .slice A l.length cap ∧ z = .slice B l.length cap' := by
  obtain ⟨A, cap, hu, _⟩ := own_form h.rk
  obtain ⟨B, cap', hz, _⟩ := own_form h.rv
  exact ⟨A, cap, B, cap', hu, hz⟩

/-- A key is appended. -/
theorem DropLoop.key {w wr w0 w1 : World} {l : List (Int × ByteArray)} {u z : Value} {o : Obj} {g cap : Nat} {x : Int} (h : DropLoop w l u z wr) (h0 : w0 = wr.alloc o)
    (hown : w1.ownsRow w.heap.size 3 1 (.slice (some ⟨g, 0, none⟩) (l.length + 1) cap) (l.length + 1) (kcells l ++ [.int .i64 x])) (hgrow : w0.grownBy w1 u.ownBlock) (hat : u.ownBlock = some g ∨ g = wr.heap.size + 1) (hz : w.heap.size ≤ wr.heap.size) :
    w1.ownsRow w.heap.size 9 1 z l.length (vcells l) ∧ z.ownBlock ≠ some g ∧ Below w.heap.size w w1 := by
  subst h0
  refine ⟨?_, ?_, ?_⟩
  · refine own_keep (h.rv.alloc o) fun k hk => ?_
    have hlt := (h.rv.lt k hk).2
    exact hgrow.block k (by simp; omega) (fun e => h.apart k e.symm hk)
  · intro e
    rcases hat with h' | h'
    · exact h.apart g h' e
    · have := (h.rv.lt g e).2; omega
  · exact Below.grown (h.below.alloc hz o) hgrow (by simp; omega) fun k hk => (h.rk.lt k hk).1

/-- A value is appended. -/
theorem DropLoop.val {w w1 w2 w3 : World} {l : List (Int × ByteArray)} {z : Value} {o : Obj} {g cap g2 cap2 : Nat} {x : Int} {y : ByteArray} (h0 : w2 = w1.alloc o)
    (hk : w1.ownsRow w.heap.size 3 1 (.slice (some ⟨g, 0, none⟩) (l.length + 1) cap) (l.length + 1) (kcells l ++ [.int .i64 x])) (hv : w1.ownsRow w.heap.size 9 1 z l.length (vcells l)) (hne : z.ownBlock ≠ some g) (hb : Below w.heap.size w w1)
    (hown : w3.ownsRow w.heap.size 9 1 (.slice (some ⟨g2, 0, none⟩) (l.length + 1) cap2) (l.length + 1) (vcells l ++ [.string y])) (hgrow : w2.grownBy w3 z.ownBlock) (hat : z.ownBlock = some g2 ∨ g2 = w1.heap.size + 1) (hz : w.heap.size ≤ w1.heap.size) :
    DropLoop w (l ++ [(x, y)]) (.slice (some ⟨g, 0, none⟩) (l.length + 1) cap) (.slice (some ⟨g2, 0, none⟩) (l.length + 1) cap2) w3 := by
  subst h0
  have hgl := (hk.lt g rfl).2
  refine ⟨?_, ?_, ?_, ?_, fun e => by simp at e⟩
  · have : w3.ownsRow w.heap.size 3 1 (.slice (some ⟨g, 0, none⟩) (l.length + 1) cap) (l.length + 1) (kcells l ++ [.int .i64 x]) := by
      refine own_keep (hk.alloc o) fun k e => ?_
      have e' : g = k := by simpa [Value.ownBlock] using e
      subst e'
      exact hgrow.block g (by simp; omega) (fun e => hne e.symm)
    simpa [kcells] using this
  · simpa [vcells] using hown
  · intro k e1 e2
    have e1' : g = k := by simpa [Value.ownBlock] using e1
    have e2' : g2 = k := by simpa [Value.ownBlock] using e2
    subst e1'
    rcases hat with h' | h'
    · exact hne (by rw [h', e2'])
    · omega
  · exact Below.grown (hb.alloc hz o) hgrow (by simp; omega) fun k hk' => (hv.lt k hk').1

theorem RTab.kcell {w : World} {c n cap : Nat} {A : Option Addr} {vv : Value} {most : Nat} {es : List (Int × ByteArray)} (h : RTab w c (.slice A n cap) vv most es) {j : Nat} {e : Int × ByteArray} (he : es[j]? = some e) : ∃ g, A = some ⟨g, 0, none⟩ ∧ g < w.heap.size ∧ w.cell? ⟨g, j, none⟩ = some (.int .i64 e.1) := by
  obtain ⟨A', cap', hv, hc⟩ := own_form h.rk
  cases hv
  exact hc j _ (by simp [kcells, he])
theorem RTab.vcell {w : World} {c n cap : Nat} {A : Option Addr} {vk : Value} {most : Nat} {es : List (Int × ByteArray)} (h : RTab w c vk (.slice A n cap) most es) {j : Nat} {e : Int × ByteArray} (he : es[j]? = some e) : ∃ g, A = some ⟨g, 0, none⟩ ∧ g < w.heap.size ∧ w.cell? ⟨g, j, none⟩ = some (.string e.2) := by
  obtain ⟨A', cap', hv, hc⟩ := own_form h.rv
  cases hv
  exact hc j _ (by simp [vcells, he])

/-- The two slices are stored. -/
theorem drop_end {w wr : World} {c : Nat} {vk vv u z : Value} {most : Nat} {es l : List (Int × ByteArray)} (h : RTab w c vk vv most es) (hd : DropLoop w l u z wr) :
    wr.heap[c]? = some (.cells #[vk, vv, .int .i64 most] 30 (0, 0)) ∧ (wr.setCell ⟨c, 0, none⟩ u).heap[c]? = some (.cells #[u, vv, .int .i64 most] 30 (0, 0)) ∧ RAfter w c vk vv most l ((wr.setCell ⟨c, 0, none⟩ u).setCell ⟨c, 1, none⟩ z) := by
  have h1 : wr.heap[c]? = some (.cells #[vk, vv, .int .i64 most] 30 (0, 0)) := (hd.below.block c h.lt).trans h.tab
  have h2 : (wr.setCell ⟨c, 0, none⟩ u).heap[c]? = some (.cells #[u, vv, .int .i64 most] 30 (0, 0)) := by rw [set_block h1]; rfl
  have h3 : ((wr.setCell ⟨c, 0, none⟩ u).setCell ⟨c, 1, none⟩ z).heap[c]? = some (.cells #[u, z, .int .i64 most] 30 (0, 0)) := by rw [set_block h2]; rfl
  have hfar : ∀ k, k ≠ c → ((wr.setCell ⟨c, 0, none⟩ u).setCell ⟨c, 1, none⟩ z).heap[k]? = wr.heap[k]? := fun k hk => by rw [Below.heap_setCell _ _ _ _ hk, Below.heap_setCell _ _ _ _ hk]
  have hlt := h.lt
  have hku : ∀ k, u.ownBlock = some k → k ≠ c := fun k e => by have := (hd.rk.lt k e).1; omega
  have hkz : ∀ k, z.ownBlock = some k → k ≠ c := fun k e => by have := (hd.rv.lt k e).1; omega
  refine ⟨h1, h2, u, z, ⟨h3, own_keep (own_base hd.rk (Nat.zero_le _)) fun k e => hfar k (hku k e), own_keep (own_base hd.rv (Nat.zero_le _)) fun k e => hfar k (hkz k e), fun e => hku c e rfl, fun e => hkz c e rfl, hd.nil⟩, ?_, ?_⟩
  · rintro k (rfl | hk | hk)
    · exact .inl (.inl rfl)
    · exact .inr (hd.rk.lt k hk).1
    · exact .inr (hd.rv.lt k hk).1
  · exact ((Chg.of_below (S := fun k => k = c) hd.below).set (fun _ => rfl) 0 u).set (fun _ => rfl) 1 z

set_option maxHeartbeats 2000000 in
set_option maxRecDepth 100000 in
/-- drop. -/
theorem rdrop_any (c : Nat) (vk vv : Value) (most : Nat) (es : List (Int × ByteArray)) (i : Nat) (w : World) (h : RTab w c vk vv most es) (hi : i < es.length) (hn : es.length ≤ 1000) :
    Calls Try.prog 24 #[.pointer (some ⟨c, 0, none⟩), .int .i64 i] w fun e w' => e = .returned (.tuple #[]) ∧ RAfter w c vk vv most (es.eraseIdx i) w' := by
  obtain ⟨i0, hi0, hz0, hz1, hz2⟩ := info_parts infoInt
  obtain ⟨j0, hj0, hy0, hy1, hy2⟩ := info_parts infoStr
  obtain ⟨A, cap, rfl, _⟩ := own_form h.rk
  obtain ⟨B, cap', rfl, _⟩ := own_form h.rv
  have HT := Lib.hid h; clear h
  generalize hN : es.length = n at *
  have HN := Lib.hid hN; clear hN
  go_enter Try.func24, Try.ntmps24
  go_wp2
  go_loopw [4, 5, 6] (fun u z s wr => ∃ j : Nat, j ≤ n ∧ s = .int .i64 j ∧ DropLoop w ((es.take j).eraseIdx i) u z wr) (fun _ _ s _ => n - (intOf s).toNat)
  case atStart => exact ⟨0, Nat.zero_le _, rfl, ⟨by simpa [kcells] using World.ownsRow_nil _ _ _ _, by simpa [vcells] using World.ownsRow_nil _ _ _ _, fun k e => by simp [Value.ownBlock] at e, Below.refl _ _, fun _ => ⟨rfl, rfl⟩⟩⟩
  case round =>
    obtain ⟨j, hj, rfl, hdl⟩ := hrel
    have ht := HT.out.below hdl.below
    have c0 := ht.cell0
    have c1 := ht.cell1
    obtain ⟨A1, cap1, B1, cap1', rfl, rfl⟩ := hdl.form
    have hll : ((es.take j).eraseIdx i).length ≤ j := Nat.le_trans (List.length_eraseIdx_le _ _) (by simp; omega)
    by_cases hjn : j < n
    · have hjz : (j : Int) < (n : Int) := by omega
      obtain ⟨⟨x, y⟩, he⟩ : ∃ e, es[j]? = some e := ⟨_, List.getElem?_eq_getElem (by rw [HN.out]; exact hjn)⟩
      by_cases hji : j = i
      · subst hji
        have hjj : ((j : Int) == (j : Int)) = true := by simp
        have hjj2 : ((j : Int) != (j : Int)) = false := by simp
        have hskip := kept_skip (es := es) (i := j) (by rw [HN.out]; exact hjn)
        have HS := Lib.hid hskip; clear hskip
        have HD := Lib.hid hdl; clear hdl
        have HE := Lib.hid he; clear he ht
        generalize hL : (es.take j).eraseIdx j = l at *
        have HL := Lib.hid hL; clear hL
        go_wp2
        go_roundw
        case rel => exact ⟨j + 1, by omega, by go_num, by rw [HS.out]; exact HD.out⟩
        case measure => simp [intOf]; omega
      · have hkstep := kept_step (i := i) he hji
        have hne1 : ((j : Int) == (i : Int)) = false := by simp; omega
        have hne2 : ((j : Int) != (i : Int)) = true := by simp; omega
        obtain ⟨gk, hA, hgk, ck⟩ := ht.kcell he
        obtain ⟨gv, hB, hgv, _⟩ := ht.vcell he
        subst hA; subst hB
        have hsz := hdl.below.size
        have HS := Lib.hid hkstep; clear hkstep
        have HD := Lib.hid hdl; clear hdl
        have HE := Lib.hid he; clear he ht
        generalize hL : (es.take j).eraseIdx i = l at *
        have HL := Lib.hid hL; clear hL
        go_wp2_with (at_builtin; refine wpList_append_lies _ rfl (.tmp 19) (.tmp 27) 27 rfl w.heap.size 3 i0 _ 1 8 Try.underlying27 hi0 hz0 hz1 hz2 rfl (by decide) (.slice A1 l.length cap1) l.length (kcells l) rfl ?o1 ⟨wr.heap.size, 0, none⟩ 1 1 [.int .i64 x] rfl rfl ?o2 ?o3 (by omega) ?o4 ?o5 ?o6 (wr.heap.size + 1) ?o7 ?_)
        case o1 => exact HD.out.rk.alloc _
        case o3 => rfl
        case o4 => unfold maxLen; omega
        case o5 => omega
        case o6 => omega
        intro g2 cap2 w2 hown hgrow hat hgl2
        obtain ⟨hv2, hne2, hb2⟩ := HD.out.key rfl hown hgrow hat hsz
        have ht2 := HT.out.below hb2
        have c0 := ht2.cell0
        have c1 := ht2.cell1
        obtain ⟨gv', hB, hgv', cv⟩ := ht2.vcell HE.out
        cases hB
        have hsz2 := hb2.size
        have HV2 := Lib.hid hv2; clear hv2
        have HB2 := Lib.hid hb2; clear hb2
        have HN2 := Lib.hid hne2; clear hne2
        have HO2 := Lib.hid hown; clear hown hgrow hat ht2
        go_wp2_with (at_builtin; refine wpList_append_lies _ rfl (.tmp 29) (.tmp 37) 28 rfl w.heap.size 9 j0 _ 1 16 Try.underlying28 hj0 hy0 hy1 hy2 rfl (by decide) (.slice B1 l.length cap1') l.length (vcells l) rfl ?p1 ⟨w2.heap.size, 0, none⟩ 1 1 [.string y] rfl rfl ?p2 ?p3 (by omega) ?p4 ?p5 ?p6 (w2.heap.size + 1) ?p7 ?_)
        case p1 => exact HV2.out.alloc _
        case p3 => rfl
        case p4 => unfold maxLen; omega
        case p5 => omega
        case p6 => omega
        intro g3 cap3 w3 hown hgrow hat hgl3
        have hd := DropLoop.val rfl HO2.out HV2.out HN2.out HB2.out hown hgrow hat hsz2
        have HD3 := Lib.hid hd; clear hd hown hgrow hat
        go_wp2
        go_roundw
        case rel => exact ⟨j + 1, by omega, by go_num, by rw [HS.out]; exact HD3.out⟩
        case measure => simp [intOf]; omega
    · have hjz : ¬ (j : Int) < (n : Int) := by omega
      have hjn' : j = n := by omega
      subst hjn'
      have htake : es.take j = es := List.take_of_length_le (by rw [HN.out]; exact Nat.le_refl _)
      rw [htake] at hdl
      obtain ⟨h1, h2, hend⟩ := drop_end HT.out hdl
      have f0 := free_of_block h1 0
      have f1 := free_of_block h2 1
      have hcl := lt_of_block h1
      rw [htake]
      have HE := Lib.hid hend; clear hend h1 h2 ht htake
      have HD := Lib.hid hdl; clear hdl
      generalize hL : (es.eraseIdx i) = l at *
      have HL := Lib.hid hL; clear hL
      go_wp2
      go_end0
      exact ⟨rfl, by rw [HL.out]; exact HE.out⟩

end Go.Proofs.Ytelgglnamojegaa
