/-
  Contracts of table's Push, Len, Get and Keys. Conditions: the table is in order, and it has no more than a thousand entries.
-/
import Derived.Test.YtelgglnamojegaaIaOps
namespace Go.Proofs.Ytelgglnamojegaa.Ia
open Go.ChangeShapes Go.WideShapes Go.ChangeAt Go.RowKit
set_option linter.unusedVariables false

theorem After.join {w w1 w2 : World} {b : Nat} {v v1 : Value} {most : Nat} {fs : List (Int × ByteArray)} (o1 : ∀ k, v1.ownBlock = some k → v.ownBlock = some k ∨ w.heap.size ≤ k) (c1 : Chg (Own2 b v) w w1) (h : After w1 b v1 most fs w2) : After w b v most fs w2 := by
  obtain ⟨v2, t2, o2, c2⟩ := h
  refine ⟨v2, t2, fun i hi => ?_, c1.trans c2 ?_⟩
  · rcases o2 i hi with h' | h'
    · exact o1 i h'
    · right; have := c1.size; omega
  · rintro i hi (rfl | h')
    · exact .inl rfl
    · rcases o1 i h' with h'' | h''
      · exact .inr h''
      · omega

set_option maxHeartbeats 1000000 in
/-- Push, where Put answers 0. -/
theorem push_ok (b : Nat) (v : Value) (most : Nat) (fs : List (Int × ByteArray)) (k : Int) (y : ByteArray) (w : World) (hp : Calls Try.prog 20 #[.pointer (some ⟨b, 0, none⟩), (.int .i64 k), (.string y)] w fun e w' => e = .returned (.int .i64 0) ∧ After w b v most fs w') :
    Calls Try.prog 22 #[.pointer (some ⟨b, 0, none⟩), (.int .i64 k), (.string y)] w fun e w' => e = .returned (.tuple #[(.int .i64 0), .bool false]) ∧ After w b v most fs w' := by
  have HP := Lib.hid hp; clear hp
  go_enter Try.func22, Try.ntmps22
  go_wp2_with fail
  refine HP.out.mono ?_
  rintro e w1 ⟨rfl, ha⟩
  have HA := Lib.hid ha; clear ha
  go_wp2
  go_ret2
  exact ⟨rfl, HA.out⟩

set_option maxHeartbeats 1000000 in
/-- Push, where there is no room at all. -/
theorem push_zero (b : Nat) (v : Value) (k : Int) (y : ByteArray) (w : World) (h : Tab 57 62 (Value.int .i64) Value.string w b v 0 []) :
    Calls Try.prog 22 #[.pointer (some ⟨b, 0, none⟩), (.int .i64 k), (.string y)] w fun e w' => e = .returned (.tuple #[(.int .i64 0), .bool false]) ∧ After w b v 0 [] w' := by
  have hp := put_full b v 0 [] k y w h (by intro j e he; simp at he) rfl
  have HP := Lib.hid hp; clear hp h
  go_enter Try.func22, Try.ntmps22
  go_wp2_with fail
  refine HP.out.mono ?_
  rintro e w1 ⟨rfl, ha⟩
  have HA := Lib.hid ha
  obtain ⟨v1, t1, o1, ch1⟩ := ha
  have c0 : w1.cell? ⟨b, 0, none⟩ = some (.int .i64 0) := t1.cell0
  clear t1 o1 ch1
  go_wp2
  go_ret2
  exact ⟨rfl, HA.out⟩

set_option maxHeartbeats 2000000 in
/-- Push, where the oldest entry makes room. -/
theorem push_full (b : Nat) (v : Value) (most : Nat) (e0 : Int × ByteArray) (r : List (Int × ByteArray)) (k : Int) (y : ByteArray) (w : World) (h : Tab 57 62 (Value.int .i64) Value.string w b v most (e0 :: r)) (hh : Miss (e0 :: r) k) (hfull : (e0 :: r).length = most) (hfew : most ≤ 1000) :
    Calls Try.prog 22 #[.pointer (some ⟨b, 0, none⟩), (.int .i64 k), (.string y)] w fun e w' => e = .returned (.tuple #[(.int .i64 e0.1), .bool true]) ∧ After w b v most (r ++ [(k, y)]) w' := by
  have hp := put_full b v most (e0 :: r) k y w h hh hfull
  have HP := Lib.hid hp; clear hp h
  have HH := Lib.hid hh; clear hh
  have hm0 : ((most : Int) == 0) = false := by simp at hfull; simp; omega
  have hpos : 0 < (e0 :: r).length := by simp
  have hrl : r.length < most := by simp at hfull; omega
  have HU := Lib.hid hfull; clear hfull
  have HRL := Lib.hid hrl; clear hrl
  obtain ⟨x0, y0⟩ := e0
  go_enter Try.func22, Try.ntmps22
  go_wp2_with fail
  refine HP.out.mono ?_
  rintro e w1 ⟨rfl, ha⟩
  obtain ⟨v1, t1, o1, ch1⟩ := ha
  have hrem := remove_any b v1 most ((x0, y0) :: r) 0 w1 t1 (by simp)
  rcases t1.form with ⟨_, h0⟩ | ⟨g, cap, cur, rfl, hne, hg, hcap, hm, hsz, htake⟩
  · cases h0
  · have c0 := t1.cell0
    have c1 := t1.cell1
    have ck : w1.cell? ⟨g, 0, none⟩ = some (.int .i64 x0) := key_cell hg htake (i := 0) (e := (x0, y0)) rfl
    have hgl := lt_of_block hg
    have HO := Lib.hid o1; clear o1
    have HC := Lib.hid ch1; clear ch1
    have HR := Lib.hid hrem; clear hrem hg htake hsz t1
    generalize hN : ((x0, y0) :: r).length = n at *
    have HN := Lib.hid hN; clear hN
    go_wp2_with fail
    refine HR.out.mono ?_
    rintro e w2 ⟨rfl, h2⟩
    obtain ⟨v2, t2, o2, ch2⟩ := After.of_remove h2
    have hput := put_new b v2 most r k y w2 t2 (fun j e he => HH.out (j + 1) e (by simpa using he)) HRL.out (by have := HRL.out; omega)
    have HPN := Lib.hid hput; clear hput h2 t2
    have HO2 := Lib.hid o2; clear o2
    have HC2 := Lib.hid ch2; clear ch2
    go_wp2_with fail
    refine HPN.out.mono ?_
    rintro e w3 ⟨rfl, h3⟩
    have HA3 := Lib.hid h3; clear h3
    go_wp2
    go_ret2
    exact ⟨rfl, After.join HO.out HC.out (After.join HO2.out HC2.out HA3.out)⟩

theorem infoKey : (Try.prog.info? 3).map (fun i => (i.zero, i.size, i.bytes)) = some (some (.int .i64 0), 1, 8) := by kernel_rfl

/-- What Keys answers: a slice of its own, with the keys in order. -/
def KeysPost (w : World) (es : List (Int × ByteArray)) (e : Ending) (w' : World) : Prop :=
  ∃ g cap, e = .returned (.slice (some ⟨g, 0, none⟩) es.length cap) ∧ w.heap.size ≤ g ∧ w'.ownsRow w.heap.size 3 1 (.slice (some ⟨g, 0, none⟩) es.length cap) es.length (es.map fun e => (.int .i64 e.1)) ∧ Below w.heap.size w w'

/-- The keys that have been gathered. -/
structure KeysLoop (w : World) (es : List (Int × ByteArray)) (u : Value) (j : Nat) (wr : World) : Prop where
  row : wr.ownsRow w.heap.size 3 1 u j ((es.map fun e => (.int .i64 e.1)).take j)
  some : ∃ g cap, u = .slice (some ⟨g, 0, none⟩) j cap
  below : Below w.heap.size w wr

theorem KeysLoop.step {w wr w1 : World} {es : List (Int × ByteArray)} {u : Value} {j g cap : Nat} {e : Int × ByteArray} {w0 : World} (h : KeysLoop w es u j wr) (he : es[j]? = .some e) (hw : Below w.heap.size wr w0)
    (hown : w1.ownsRow w.heap.size 3 1 (.slice (.some ⟨g, 0, none⟩) (j + 1) cap) (j + 1) (((es.map fun e => (.int .i64 e.1)).take j) ++ [(.int .i64 e.1)])) (hgrow : w0.grownBy w1 u.ownBlock) (hz : w.heap.size ≤ w0.heap.size) :
    KeysLoop w es (.slice (.some ⟨g, 0, none⟩) (j + 1) cap) (j + 1) w1 := by
  refine ⟨?_, ⟨g, cap, rfl⟩, ?_⟩
  · rw [List.take_add_one, List.getElem?_map, he]
    exact hown
  · refine Below.grown (h.below.trans hw) hgrow hz fun k hk => (h.row.lt k hk).1

theorem KeysLoop.start {w w0 : World} {es : List (Int × ByteArray)} {b : Nat} {v : Value} {most n : Nat} (h : Tab 57 62 (Value.int .i64) Value.string w b v most es) (hn : es.length = n) (hown : w0.ownsRow w.heap.size 3 1 (.slice (.some ⟨w.heap.size, 0, none⟩) 0 n) 0 []) (hgrow : w.grownBy w0 none) :
    KeysLoop w es (.slice (.some ⟨w.heap.size, 0, none⟩) 0 n) 0 w0 :=
  ⟨by simpa using hown, ⟨_, _, rfl⟩, (Below.refl _ _).grown hgrow (Nat.le_refl _) (fun k hk => by cases hk)⟩

theorem KeysLoop.cell {w w0 : World} {es : List (Int × ByteArray)} {u : Value} {j b i : Nat} {x : Value} (h : KeysLoop w es u j w0) (hb : b < w.heap.size) (hc : w.cell? ⟨b, i, none⟩ = .some x) : w0.cell? ⟨b, i, none⟩ = .some x :=
  (h.below.cell (p := ⟨b, i, none⟩) hb).trans hc

set_option maxHeartbeats 2000000 in
/-- Keys. -/
theorem keys_any (b : Nat) (v : Value) (most : Nat) (es : List (Int × ByteArray)) (w : World) (h : Tab 57 62 (Value.int .i64) Value.string w b v most es) (hfew : es.length ≤ 1000) :
    Calls Try.prog 10 #[.pointer (some ⟨b, 0, none⟩)] w (KeysPost w es) := by
  obtain ⟨i0, hi0, hz0, hz1, hz2⟩ := info_parts infoKey
  obtain ⟨A, cap, hv⟩ : ∃ A cap, v = .slice A es.length cap := by
    rcases h.form with ⟨rfl, rfl⟩ | ⟨g, cap, cur, rfl, _⟩
    · exact ⟨_, _, rfl⟩
    · exact ⟨_, _, rfl⟩
  subst hv
  have c1 := h.cell1
  have hbl := h.lt
  have HT := Lib.hid h; clear h
  generalize hN : es.length = n at *
  have HN := Lib.hid hN; clear hN
  go_enter Try.func10, Try.ntmps10
  go_wp2_with (at_make; refine wpList_make_own _ rfl _ _ 27 rfl w.heap.size 3 i0 (.int .i64 0) 1 Try.underlying27 hi0 hz0 hz1 _ _ _ n rfl rfl (by omega) (by rw [hz2]; omega) (by unfold maxLen; omega) (Nat.le_refl _) ?_; intro w0 hown0 hgrow0; have hk0 := KeysLoop.start HT.out HN.out hown0 hgrow0; have c1' := hk0.cell hbl c1; have HK0 := Lib.hid hk0; clear hk0 hown0 hgrow0 c1)
  go_loopw [3, 17] (fun u i wr => ∃ j : Nat, j ≤ n ∧ i = .int .i64 j ∧ KeysLoop w es u j wr) (fun _ i _ => n - (intOf i).toNat)
  case atStart => exact ⟨0, Nat.zero_le _, rfl, HK0.out⟩
  case round =>
    obtain ⟨j, hj, rfl, hkl⟩ := hrel
    obtain ⟨g1, cap1, rfl⟩ := hkl.some
    by_cases hjn : j < n
    · have hjz : (j : Int) < (n : Int) := by omega
      obtain ⟨⟨x, y⟩, he⟩ : ∃ e, es[j]? = .some e := ⟨_, List.getElem?_eq_getElem (by rw [HN.out]; exact hjn)⟩
      have ht := HT.out.below hkl.below
      rcases ht.form with ⟨_, h0⟩ | ⟨g, cap', cur, hvv, hne, hg, hcap, hm, hsz, htake⟩
      · subst h0; simp at he
      · obtain ⟨rfl, -, rfl⟩ : A = .some ⟨g, 0, none⟩ ∧ n = es.length ∧ cap = cap' := by simpa using hvv
        have ck := key_cell hg htake he
        have cv := val_cell hg htake he
        have hgl := lt_of_block hg
        have hsz1 := hkl.below.size
        have hrow := hkl.row
        have HE := Lib.hid he; clear he
        have HK := Lib.hid hkl; clear hkl
        have HR := Lib.hid hrow; clear hrow
        clear ht hvv hg htake hsz
        go_wp2_with (at_builtin; refine wpList_append_lies _ rfl _ _ 27 rfl w.heap.size 3 i0 _ 1 8 Try.underlying27 hi0 hz0 hz1 hz2 rfl (by decide) (.slice (.some ⟨g1, 0, none⟩) j cap1) j ((es.map fun e => (.int .i64 e.1)).take j) rfl ?o1 ⟨wr.heap.size + 1, 0, none⟩ 1 1 [(.int .i64 x)] rfl rfl ?o2 ?o3 (by omega) ?o4 ?o5 ?o6 (wr.heap.size + 2) ?o7 ?_)
        case o1 => exact (HR.out.alloc _).alloc _
        case o3 => rfl
        case o4 => unfold maxLen; omega
        case o5 => omega
        case o6 => omega
        intro g2 cap2 w2 hown hgrow hat hgl2
        have hstep := KeysLoop.step HK.out HE.out (((Below.refl w.heap.size wr).alloc hsz1 _).alloc (by simp; omega) _) hown hgrow (by simp; omega)
        have HS := Lib.hid hstep; clear hstep hown hgrow hat
        go_wp2
        go_roundw
        case rel => exact ⟨j + 1, by omega, by go_num, HS.out⟩
        case measure => simp [intOf]; omega
    · have hjz : ¬ (j : Int) < (n : Int) := by omega
      have hjn' : j = n := by omega
      subst hjn'
      have HK := Lib.hid hkl; clear hkl
      go_wp2
      go_ret
      refine ⟨g1, cap1, by rw [HN.out]; rfl, ?_, ?_, HK.out.below⟩
      · exact (HK.out.row.lt g1 rfl).1
      · have := HK.out.row
        rw [List.take_of_length_le (by rw [List.length_map, HN.out]; exact Nat.le_refl _)] at this
        rw [HN.out]
        exact this

/-- Len. -/
theorem len_any (b : Nat) (v : Value) (most : Nat) (es : List (Int × ByteArray)) (w : World) (h : Tab 57 62 (Value.int .i64) Value.string w b v most es) :
    Calls Try.prog 9 #[.pointer (some ⟨b, 0, none⟩)] w fun e w' => e = .returned (.int .i64 es.length) ∧ w = w' := by
  obtain ⟨A, cap, hv⟩ : ∃ A cap, v = .slice A es.length cap := by
    rcases h.form with ⟨rfl, rfl⟩ | ⟨g, cap, cur, rfl, _⟩
    · exact ⟨_, _, rfl⟩
    · exact ⟨_, _, rfl⟩
  subst hv
  have c1 := h.cell1
  clear h
  generalize hN : es.length = n at *
  have HN := Lib.hid hN; clear hN
  go_enter Try.func9, Try.ntmps9
  go_wp2
  go_ret
  exact ⟨rfl, rfl⟩

/-- Get, where the key is the i-th. -/
theorem get_hit (b : Nat) (v : Value) (most : Nat) (es : List (Int × ByteArray)) (k : Int) (y : ByteArray) (i : Nat) (w : World) (h : Tab 57 62 (Value.int .i64) Value.string w b v most es) (hh : Hit es k i) (hy : es[i]? = some (k, y)) :
    Calls Try.prog 11 #[.pointer (some ⟨b, 0, none⟩), (.int .i64 k)] w fun e w' => e = .returned (.tuple #[(.string y), .bool true]) ∧ Below w.heap.size w w' := by
  have hf := find_hit b v most es k i w h hh
  have hlt := hh.lt
  rcases h.form with ⟨rfl, rfl⟩ | ⟨g, cap, cur, rfl, hne, hg, hcap, hm, hsz, htake⟩
  · simp at hlt
  · have HF := Lib.hid hf; clear hf
    have HT := Lib.hid h; clear h
    have HY := Lib.hid hy; clear hy hh
    have HG := Lib.hid (And.intro hg htake); clear hg htake hsz
    have hltI : (i : Int) < (es.length : Int) := by omega
    generalize hN : es.length = n at *
    have HN := Lib.hid hN; clear hN
    go_enter Try.func11, Try.ntmps11
    go_wp2_with fail
    refine HF.out.mono ?_
    rintro e w1 ⟨rfl, hb1⟩
    have ht := HT.out.below hb1
    have c1 := ht.cell1
    obtain ⟨hg, htake⟩ := HG.out
    have hg1 := (hb1.block g (lt_of_block hg)).trans hg
    have cv := val_cell hg1 htake HY.out
    have HB := Lib.hid hb1; clear hb1
    clear ht hg htake hg1
    go_wp2
    go_ret2
    exact ⟨rfl, HB.out⟩

/-- Get, where the key is not there. -/
theorem get_miss (b : Nat) (v : Value) (most : Nat) (es : List (Int × ByteArray)) (k : Int) (w : World) (h : Tab 57 62 (Value.int .i64) Value.string w b v most es) (hh : Miss es k) :
    Calls Try.prog 11 #[.pointer (some ⟨b, 0, none⟩), (.int .i64 k)] w fun e w' => e = .returned (.tuple #[(.string ⟨#[]⟩), .bool false]) ∧ Below w.heap.size w w' := by
  have hf := find_miss b v most es k w h hh
  have HF := Lib.hid hf; clear hf h hh
  go_enter Try.func11, Try.ntmps11
  go_wp2_with fail
  refine HF.out.mono ?_
  rintro e w1 ⟨rfl, hb1⟩
  have HB := Lib.hid hb1; clear hb1
  go_wp2
  go_ret2
  exact ⟨rfl, HB.out⟩

end Go.Proofs.Ytelgglnamojegaa.Ia
