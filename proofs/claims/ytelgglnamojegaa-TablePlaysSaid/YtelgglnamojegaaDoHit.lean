/-
  Contracts of the reference's Do: Put or Push of a key that is there. Conditions: the table is in order, and it has no more than a thousand entries.
-/
import Derived.Test.YtelgglnamojegaaDo
import Derived.Laws.OwnMore
namespace Go.Proofs.Ytelgglnamojegaa
open Go.ChangeShapes Go.WideShapes Go.ChangeAt Go.RowKit
set_option linter.unusedVariables false
open Ia (opBox)

theorem kcells_set {es : List (Int × ByteArray)} {k : Int} {y z : ByteArray} {i : Nat} (h : es[i]? = some (k, z)) : kcells (es.set i (k, y)) = kcells es := by
  unfold kcells
  rw [List.map_set]
  apply List.ext_getElem?
  intro j
  rw [List.getElem?_set]
  split
  · subst j
    split
    · simp [h]
    · rename_i h'
      simp at h'
      rw [List.getElem?_eq_none (by simpa using h')] 
  · rfl

theorem vcells_set {es : List (Int × ByteArray)} {k : Int} {y : ByteArray} {i : Nat} : vcells (es.set i (k, y)) = (vcells es).set i (.string y) := by
  unfold vcells
  rw [List.map_set]

/-- A new row of values is stored in the table. -/
theorem vals_after {w w2 : World} {c : Nat} {vk vv : Value} {most g cap n i : Nat} {es : List (Int × ByteArray)} {k : Int} {y z : ByteArray} (h : RTab w c vk vv most es) (hn : es.length = n) (hz : es[i]? = some (k, z)) (hb : Below w.heap.size w w2)
    (hown : w2.ownsRow w.heap.size 9 1 (.slice (some ⟨g, 0, none⟩) n cap) n (vcells es)) :
    w2.heap[c]? = some (.cells #[vk, vv, .int .i64 most] 30 (0, 0)) ∧ (w2.setCell ⟨g, i, none⟩ (.string y)).heap[c]? = some (.cells #[vk, vv, .int .i64 most] 30 (0, 0)) ∧ RAfter w c vk vv most (es.set i (k, y)) ((w2.setCell ⟨g, i, none⟩ (.string y)).setCell ⟨c, 1, none⟩ (.slice (some ⟨g, 0, none⟩) n cap)) := by
  have hgl := (hown.lt g rfl).1
  have hlt := h.lt
  have hcg : c ≠ g := by omega
  have h1 := (hb.block c hlt).trans h.tab
  have h2 : (w2.setCell ⟨g, i, none⟩ (.string y)).heap[c]? = some (.cells #[vk, vv, .int .i64 most] 30 (0, 0)) := by rw [Below.heap_setCell _ _ _ _ hcg]; exact h1
  have h3 : ((w2.setCell ⟨g, i, none⟩ (.string y)).setCell ⟨c, 1, none⟩ (.slice (some ⟨g, 0, none⟩) n cap)).heap[c]? = some (.cells #[vk, .slice (some ⟨g, 0, none⟩) n cap, .int .i64 most] 30 (0, 0)) := by rw [set_block h2]; rfl
  have hlen : (es.set i (k, y)).length = n := by simp [hn]
  have hil : i < es.length := (List.getElem?_eq_some_iff.1 hz).1
  have hst := (hown.stored i (.string y)).1
  refine ⟨h1, h2, vk, .slice (some ⟨g, 0, none⟩) n cap, ⟨h3, ?_, ?_, h.nk, ?_, ?_⟩, ?_, ?_⟩
  · rw [kcells_set hz, hlen, ← hn]
    refine own_keep h.rk fun j hj => ?_
    have hjl := (h.rk.lt j hj).2
    have hjc : j ≠ c := fun e => h.nk (by rw [hj, e])
    rw [Below.heap_setCell _ _ _ _ hjc, Below.heap_setCell _ _ _ _ (show j ≠ g by omega)]
    exact hb.block j hjl
  · rw [vcells_set, hlen]
    refine own_keep (own_base hst (Nat.zero_le _)) fun j hj => ?_
    have : g = j := by simpa [Value.ownBlock] using hj
    subst this
    exact Below.heap_setCell _ _ _ _ (Ne.symm hcg)
  · intro e
    have : g = c := by simpa [Value.ownBlock] using e
    omega
  · intro e
    exfalso
    have : (es.set i (k, y)).length = 0 := by rw [e]; rfl
    simp at this
    rw [this] at hil
    simp at hil
  · rintro j (rfl | hj | hj)
    · exact .inl (.inl rfl)
    · exact .inl (.inr (.inl hj))
    · have : g = j := by simpa [Value.ownBlock] using hj
      right; omega
  · exact ((Chg.of_below (S := fun k => k = c) hb).set (b := g) (fun e => by omega) i _).set (b := c) (fun _ => rfl) 1 _

/-- What lies in memory behind Do's two boxes. -/
structure Front (w : World) (kind : Nat) (k : Int) (y : ByteArray) (X : World) : Prop where
  size : X.heap.size = w.heap.size + 2
  o0 : X.cell? ⟨w.heap.size, 0, none⟩ = some (.int .u8 kind)
  o1 : X.cell? ⟨w.heap.size, 1, none⟩ = some (.int .i64 k)
  o2 : X.cell? ⟨w.heap.size, 2, none⟩ = some (.string y)

theorem Front.of {w X : World} {kind : Nat} {k : Int} {y : ByteArray} (h : (w.alloc (opBox kind k y)).alloc (.cells told0 32) = X) : Front w kind k y X := by
  subst h
  have h0 : ((w.alloc (opBox kind k y)).alloc (.cells told0 32)).heap[w.heap.size]? = some (opBox kind k y) := by
    rw [Below.heap_alloc _ _ _ (by simp)]
    exact heap_alloc_new w _
  exact ⟨by simp, cell_of_row _ _ 0 _ _ _ h0, cell_of_row _ _ 1 _ _ _ h0, cell_of_row _ _ 2 _ _ _ h0⟩

theorem alloc_cell {w : World} {b i : Nat} {u : Value} (h : w.cell? ⟨b, i, none⟩ = some u) : ∀ o, (w.alloc o).cell? ⟨b, i, none⟩ = some u := fun o =>
  (((Below.refl w.heap.size w).alloc (Nat.le_refl _) o).cell (p := ⟨b, i, none⟩) (lt_of_cell h)).trans h

/-- The values' cells, as a source of append. -/
theorem vnews {w W : World} {c n cap : Nat} {g : Nat} {vk : Value} {most : Nat} {es : List (Int × ByteArray)} (h : RTab w c vk (.slice (some ⟨g, 0, none⟩) n cap) most es) (hb : Below w.heap.size w W) : ∀ j u, (vcells es)[j]? = some u → W.cell? ((⟨g, 0, none⟩ : Addr).add j) = some u := by
  intro j u hu
  obtain ⟨A', cap', hv, hc⟩ := own_form h.rv
  cases hv
  obtain ⟨g', e, hl, hcell⟩ := hc j u hu
  cases e
  rw [Addr.add_lit, Nat.zero_add]
  exact (hb.cell (p := ⟨g, j, none⟩) hl).trans hcell
theorem knews {w W : World} {c n cap : Nat} {g : Nat} {vv : Value} {most : Nat} {es : List (Int × ByteArray)} (h : RTab w c (.slice (some ⟨g, 0, none⟩) n cap) vv most es) (hb : Below w.heap.size w W) : ∀ j u, (kcells es)[j]? = some u → W.cell? ((⟨g, 0, none⟩ : Addr).add j) = some u := by
  intro j u hu
  obtain ⟨A', cap', hv, hc⟩ := own_form h.rk
  cases hv
  obtain ⟨g', e, hl, hcell⟩ := hc j u hu
  cases e
  rw [Addr.add_lit, Nat.zero_add]
  exact (hb.cell (p := ⟨g, j, none⟩) hl).trans hcell
theorem vone (es : List (Int × ByteArray)) : ∀ u ∈ vcells es, u.oneCell' = true := by
  intro u hu
  simp [vcells] at hu
  obtain ⟨a, b, _, rfl⟩ := hu
  rfl
theorem kone (es : List (Int × ByteArray)) : ∀ u ∈ kcells es, u.oneCell' = true := by
  intro u hu
  simp [kcells] at hu
  obtain ⟨a, ⟨b, _⟩, rfl⟩ := hu
  rfl

set_option maxHeartbeats 1000000 in
set_option maxRecDepth 100000 in
theorem do_put_hit {w : World} {c : Nat} {vk vv : Value} {most : Nat} {es : List (Int × ByteArray)} (kind : Nat) (k : Int) (y : ByteArray) (i : Nat) (h : RTab w c vk vv most es) (hk : (kind : Int) % 4 = 0) (hh : Hit es k i) (hn : es.length ≤ 1000) :
    Calls Try.prog 8 #[.pointer (some ⟨c, 0, none⟩), .agg #[.int .u8 kind, .int .i64 k, .string y]] w fun e w' => e = .returned (toldV ⟨#[]⟩ 0 true) ∧ RAfter w c vk vv most (es.set i (k, y)) w' := by
  obtain ⟨j0, hj0, hy0, hy1, hy2⟩ := info_parts infoStr
  have hlt := h.lt
  have hi := hh.lt
  have hb := h.boxes (opBox kind k y) (.cells told0 32)
  obtain ⟨B, cap', rfl, hform⟩ := own_form h.rv
  clear hform
  have ha := at_hit c vk _ most es k i _ hb hh hn
  obtain ⟨⟨z, hz⟩, hbef⟩ := hh
  clear hbef
  obtain ⟨gv, rfl, hgv, cv⟩ := h.vcell hz
  have HA := Lib.hid ha; clear ha
  have HT := Lib.hid h; clear h
  have HZ := Lib.hid hz; clear hz
  clear hb cv
  have hii : (i : Int) < (es.length : Int) := by omega
  have hig : decide ((i : Int) < 0) = false := by simp
  generalize hN : es.length = n at *
  have HN := Lib.hid hN; clear hN
  unfold opBox told0 at HA
  unfold toldV
  go_enter Try.func8, Try.ntmps8
  go_wp2_with fail
  refine HA.out.mono ?_
  rintro e w1 ⟨rfl, hX⟩
  have hfr := Front.of (kind := kind) (k := k) (y := y) hX
  have o0 := hfr.o0
  have o1 := hfr.o1
  have o2 := hfr.o2
  have ht : RTab w1 c vk (.slice (some ⟨gv, 0, none⟩) n cap') most es := by rw [← hX]; exact HT.out.boxes _ _
  have hsz : w.heap.size + 1 < w1.heap.size := by have := hfr.size; omega
  have hlt1 := ht.lt
  have c1 := ht.cell1
  have c1a := alloc_cell c1
  have hX' : (w.alloc (opBox kind k y)).alloc (.cells told0 32) = w1 := hX
  have HX := Lib.hid hX'; clear hX hX' hfr
  have HT1 := Lib.hid ht; clear ht
  go_wp2_with (at_builtin; refine wpList_append_lies _ rfl (.tmp 44) (.tmp 48) 28 rfl w1.heap.size 9 j0 _ 1 16 Try.underlying28 hj0 hy0 hy1 hy2 rfl (by decide) _ 0 [] rfl (World.ownsRow_lit (base := w1.heap.size) (e := 9) (size := 1) w1 #[] 0 (Nat.le_refl _) (by unfold maxLen; omega) rfl) ⟨gv, 0, none⟩ n cap' (vcells es) rfl ?o8 ?o2 (vone es) (by omega) ?o4 ?o5 ?o6 (w1.heap.size + 1) ?o7 ?_)
  case o8 => simp [vcells, HN.out]
  case o2 => exact vnews HT1.out ((Below.refl _ _).alloc (Nat.le_refl _) _)
  case o4 => unfold maxLen; omega
  case o5 => omega
  case o6 => simp
  case o7 => simp
  intro g cap2 w2 hown hgrow hat hgl
  have hb2 : Below w1.heap.size w1 w2 := ((Below.refl w1.heap.size w1).alloc (Nat.le_refl _) _).grown hgrow (by simp) (fun k hk => by simp [Value.ownBlock] at hk; omega)
  obtain ⟨h1, h2, haft⟩ := vals_after (y := y) HT1.out HN.out HZ.out hb2 hown
  obtain ⟨A', capX, hform, hcell⟩ := own_form hown
  obtain ⟨rfl, rfl⟩ : some ⟨g, 0, none⟩ = A' ∧ cap2 = capX := by simpa using hform
  obtain ⟨g', hg', hgl', cg⟩ := hcell i (.string z) (by simp [vcells, HZ.out])
  cases hg'
  have gf : w2.frozen? ⟨g, i, none⟩ = false := by
    rcases hown.2 with ⟨h', _⟩ | ⟨g', cap', cur, h', hb, hg, _⟩
    · cases h'
    · cases h'
      exact free_of_block hg i
  have o2' := (hb2.cell (p := ⟨w.heap.size, 2, none⟩) (show w.heap.size < w1.heap.size by omega)).trans o2
  have c1' : (w2.setCell ⟨g, i, none⟩ (.string y)).cell? ⟨c, 1, none⟩ = some (.slice (some ⟨gv, 0, none⟩) n cap') := cell_of_row _ _ 1 _ _ _ h2
  have f1' := free_of_block h2 1
  have hbox : Box w (fun k => k = c) ((w2.setCell ⟨g, i, none⟩ (.string y)).setCell ⟨c, 1, none⟩ (.slice (some ⟨g, 0, none⟩) n cap2)) := by
    refine Box.of (o := opBox kind k y) (by rintro _ rfl; exact hlt) ?_
    rw [HX.out]
    obtain ⟨vk', vv', t, ow, ch⟩ := haft
    exact ch
  obtain ⟨r0, r1, r2, fz⟩ := hbox.cells
  have HAF := Lib.hid haft; clear haft
  have HBX := Lib.hid hbox; clear hbox
  clear h1 h2 hown hgrow hat hcell hform c1a hb2
  go_wp2
  obtain ⟨⟨k0, k1, k2⟩, hch, hk⟩ := HBX.out.end_ (.string ⟨#[]⟩) (.int .i64 0) (.bool true) _ rfl
  refine bodyPost_ret (v := .agg #[.string ⟨#[]⟩, .int .i64 0, .bool true]) (by simp [results, Try.results8, go_sem, k0, k1, k2]) rfl ⟨rfl, RAfter.fin (o := opBox kind k y) (p := .cells told0 32) HT.out (by rw [HX.out]; exact HAF.out) hch hk⟩

set_option maxHeartbeats 1000000 in
set_option maxRecDepth 100000 in
theorem do_push_hit {w : World} {c : Nat} {vk vv : Value} {most : Nat} {es : List (Int × ByteArray)} (kind : Nat) (k : Int) (y : ByteArray) (i : Nat) (h : RTab w c vk vv most es) (hk : (kind : Int) % 4 = 3) (hh : Hit es k i) (hn : es.length ≤ 1000) :
    Calls Try.prog 8 #[.pointer (some ⟨c, 0, none⟩), .agg #[.int .u8 kind, .int .i64 k, .string y]] w fun e w' => e = .returned (toldV ⟨#[]⟩ 0 false) ∧ RAfter w c vk vv most (es.set i (k, y)) w' := by
  obtain ⟨j0, hj0, hy0, hy1, hy2⟩ := info_parts infoStr
  have hlt := h.lt
  have hi := hh.lt
  have hb := h.boxes (opBox kind k y) (.cells told0 32)
  obtain ⟨B, cap', rfl, hform⟩ := own_form h.rv
  clear hform
  have ha := at_hit c vk _ most es k i _ hb hh hn
  obtain ⟨⟨z, hz⟩, hbef⟩ := hh
  clear hbef
  obtain ⟨gv, rfl, hgv, cv⟩ := h.vcell hz
  have HA := Lib.hid ha; clear ha
  have HT := Lib.hid h; clear h
  have HZ := Lib.hid hz; clear hz
  clear hb cv
  have hii : (i : Int) < (es.length : Int) := by omega
  have hig : decide ((i : Int) < 0) = false := by simp
  generalize hN : es.length = n at *
  have HN := Lib.hid hN; clear hN
  unfold opBox told0 at HA
  unfold toldV
  go_enter Try.func8, Try.ntmps8
  go_wp2_with fail
  refine HA.out.mono ?_
  rintro e w1 ⟨rfl, hX⟩
  have hfr := Front.of (kind := kind) (k := k) (y := y) hX
  have o0 := hfr.o0
  have o1 := hfr.o1
  have o2 := hfr.o2
  have ht : RTab w1 c vk (.slice (some ⟨gv, 0, none⟩) n cap') most es := by rw [← hX]; exact HT.out.boxes _ _
  have hsz : w.heap.size + 1 < w1.heap.size := by have := hfr.size; omega
  have hlt1 := ht.lt
  have c1 := ht.cell1
  have c1a := alloc_cell c1
  have hX' : (w.alloc (opBox kind k y)).alloc (.cells told0 32) = w1 := hX
  have HX := Lib.hid hX'; clear hX hX' hfr
  have HT1 := Lib.hid ht; clear ht
  go_wp2_with (at_builtin; refine wpList_append_lies _ rfl (.tmp 44) (.tmp 48) 28 rfl w1.heap.size 9 j0 _ 1 16 Try.underlying28 hj0 hy0 hy1 hy2 rfl (by decide) _ 0 [] rfl (World.ownsRow_lit (base := w1.heap.size) (e := 9) (size := 1) w1 #[] 0 (Nat.le_refl _) (by unfold maxLen; omega) rfl) ⟨gv, 0, none⟩ n cap' (vcells es) rfl ?o8 ?o2 (vone es) (by omega) ?o4 ?o5 ?o6 (w1.heap.size + 1) ?o7 ?_)
  case o8 => simp [vcells, HN.out]
  case o2 => exact vnews HT1.out ((Below.refl _ _).alloc (Nat.le_refl _) _)
  case o4 => unfold maxLen; omega
  case o5 => omega
  case o6 => simp
  case o7 => simp
  intro g cap2 w2 hown hgrow hat hgl
  have hb2 : Below w1.heap.size w1 w2 := ((Below.refl w1.heap.size w1).alloc (Nat.le_refl _) _).grown hgrow (by simp) (fun k hk => by simp [Value.ownBlock] at hk; omega)
  obtain ⟨h1, h2, haft⟩ := vals_after (y := y) HT1.out HN.out HZ.out hb2 hown
  obtain ⟨A', capX, hform, hcell⟩ := own_form hown
  obtain ⟨rfl, rfl⟩ : some ⟨g, 0, none⟩ = A' ∧ cap2 = capX := by simpa using hform
  obtain ⟨g', hg', hgl', cg⟩ := hcell i (.string z) (by simp [vcells, HZ.out])
  cases hg'
  have gf : w2.frozen? ⟨g, i, none⟩ = false := by
    rcases hown.2 with ⟨h', _⟩ | ⟨g', cap', cur, h', hb, hg, _⟩
    · cases h'
    · cases h'
      exact free_of_block hg i
  have o2' := (hb2.cell (p := ⟨w.heap.size, 2, none⟩) (show w.heap.size < w1.heap.size by omega)).trans o2
  have c1' : (w2.setCell ⟨g, i, none⟩ (.string y)).cell? ⟨c, 1, none⟩ = some (.slice (some ⟨gv, 0, none⟩) n cap') := cell_of_row _ _ 1 _ _ _ h2
  have f1' := free_of_block h2 1
  have hbox : Box w (fun k => k = c) ((w2.setCell ⟨g, i, none⟩ (.string y)).setCell ⟨c, 1, none⟩ (.slice (some ⟨g, 0, none⟩) n cap2)) := by
    refine Box.of (o := opBox kind k y) (by rintro _ rfl; exact hlt) ?_
    rw [HX.out]
    obtain ⟨vk', vv', t, ow, ch⟩ := haft
    exact ch
  obtain ⟨r0, r1, r2, fz⟩ := hbox.cells
  have HAF := Lib.hid haft; clear haft
  have HBX := Lib.hid hbox; clear hbox
  clear h1 h2 hown hgrow hat hcell hform c1a hb2
  go_wp2
  obtain ⟨⟨k0, k1, k2⟩, hch, hk⟩ := HBX.out.end_ (.string ⟨#[]⟩) (.int .i64 0) (.bool false) _ rfl
  refine bodyPost_ret (v := .agg #[.string ⟨#[]⟩, .int .i64 0, .bool false]) (by simp [results, Try.results8, go_sem, k0, k1, k2]) rfl ⟨rfl, RAfter.fin (o := opBox kind k y) (p := .cells told0 32) HT.out (by rw [HX.out]; exact HAF.out) hch hk⟩

end Go.Proofs.Ytelgglnamojegaa
