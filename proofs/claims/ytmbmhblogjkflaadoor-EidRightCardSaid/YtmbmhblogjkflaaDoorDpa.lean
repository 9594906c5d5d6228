/-
  Contracts of item.Num, and of item.List at a leaf and an item whose lists are a tree. Conditions: none.
-/
import Derived.Test.YtmbmhblogjkflaaDoorTm
import Derived.Test.YtmbmhblogjkflaaDoorEiu
import Derived.Test.YtmbmhblogjkflaaDoorEiv
namespace Go.Proofs.YtmbmhblogjkflaaDoor
namespace Eid
open Go.ChangeShapes Go.WideShapes Go.ChangeAt Go.RowKit
open Tree Tree.Nd
set_option linter.unusedVariables false
set_option linter.unusedSimpArgs false
set_option maxRecDepth 100000

theorem num_any (n : Nat) (w : World) : Calls Tryd.prog 24 #[.int .u64 n] w fun e w' => e = .returned (.agg #[.int .i64 0, .int .u64 n, .string ⟨#[]⟩, .slice none 0 0, .bool false]) ∧ Below w.heap.size w w' := by
  go_enter Tryd.func24, Tryd.ntmps24
  go_wp2
  exact bodyPost_ret (v := .agg #[.int .i64 0, .int .u64 n, .string ⟨#[]⟩, .slice none 0 0, .bool false]) (by simp [results, Tryd.results24, go_sem]) rfl ⟨rfl, (Below.refl _ _).alloc (Nat.le_refl _) _⟩

theorem cel_same {w w' : World} {g i : Nat} {k : Int} {n : Nat} {s : ByteArray} {v : Value} {o : Bool} (h : Cel w g i k n s v o) (hb : w'.heap[g]? = w.heap[g]?) : Cel w' g i k n s v o := by
  have e : ∀ o, w'.cell? ⟨g, o, none⟩ = w.cell? ⟨g, o, none⟩ := fun o => World.cell?_of_block (w := w) (a := ⟨g, o, none⟩) hb
  exact ⟨(e _).trans h.c0, (e _).trans h.c1, (e _).trans h.c2, (e _).trans h.c3, (e _).trans h.c4⟩
theorem lst_same {w w' : World} {x : Nd} (h : Lst w x) (hb : w'.heap[x.g]? = w.heap[x.g]?) : Lst w' x :=
  ⟨h.row.keep hb, h.pos, h.few, fun i y hy => by
    obtain ⟨k, n, s, v, o, h1, h2⟩ := h.els i y hy
    exact ⟨k, n, s, v, o, cel_same h1 hb, h2⟩⟩
theorem mt_same {w w' : World} {x : Nd} {l : List It} (h : Mt w x l) : (∀ q ∈ gs x, w'.heap[q]? = w.heap[q]?) → Mt w' x l := by
  induction h with
  | no => intro _; exact .no
  | «at» q zs l hl he hr ih =>
    intro hs
    refine .at q zs l hl (fun i z y hz hy => ?_) (fun i z y hz hy => ih i z y hz hy (fun p hp => hs p ?_))
    · obtain ⟨hf, v, hc, hsh⟩ := he i z y hz hy
      exact ⟨hf, v, cel_same hc (hs q (by rw [gs_at]; exact List.mem_cons_self)), hsh⟩
    · rw [gs_at]
      refine List.mem_cons_of_mem _ ?_
      obtain ⟨b, hb, rfl⟩ := List.mem_map.1 hp
      exact List.mem_map_of_mem (mem_allOf.2 ⟨z, List.mem_of_getElem? hz, hb⟩)

/-- An item whose lists are a tree, in blocks from B on. -/
structure Tr (X : World) (B c : Nat) (y : It) (root : Nd) (v : Value) : Prop where
  shp : Shp root v
  lst : ∀ z ∈ root.all, Lst X z
  nodup : (gs root).Nodup
  few : cnt root ≤ c
  mt : Mt X root y.l
  lo : ∀ q ∈ gs root, B ≤ q
  fit : Fits y
theorem Tr.leaf (X : World) (B c : Nat) {y : It} (h : y.l = []) (hf : Fits y) : Tr X B c y .no (.slice none 0 0) :=
  ⟨⟨none, 0, rfl⟩, fun z hz => by simp [Nd.all] at hz, by simp [gs, Nd.all], Nat.zero_le _, by rw [h]; exact .no, fun q hq => by simp [gs, Nd.all] at hq, hf⟩
theorem Tr.lt {X : World} {B c : Nat} {y : It} {root : Nd} {v : Value} (h : Tr X B c y root v) {q : Nat} (hq : q ∈ gs root) : q < X.heap.size := by
  obtain ⟨z, hz, rfl⟩ := List.mem_map.1 hq
  exact (h.lst z hz).row.lt
theorem Tr.same {X Y : World} {B c : Nat} {y : It} {root : Nd} {v : Value} (h : Tr X B c y root v) (hs : ∀ q, B ≤ q → q < X.heap.size → Y.heap[q]? = X.heap[q]?) : Tr Y B c y root v := by
  have hq : ∀ q ∈ gs root, Y.heap[q]? = X.heap[q]? := fun q hq => hs q (h.lo q hq) (h.lt hq)
  exact ⟨h.shp, fun z hz => lst_same (h.lst z hz) (hq _ (List.mem_map_of_mem hz)), h.nodup, h.few, mt_same h.mt hq, h.lo, h.fit⟩
theorem Tr.below {X Y : World} {B c : Nat} {y : It} {root : Nd} {v : Value} (h : Tr X B c y root v) (hb : Below X.heap.size X Y) : Tr Y B c y root v := h.same fun q _ hq => hb.block q hq
theorem Tr.mono {X : World} {B B' c : Nat} {y : It} {root : Nd} {v : Value} (h : Tr X B c y root v) (hB : B' ≤ B) : Tr X B' c y root v := ⟨h.shp, h.lst, h.nodup, h.few, h.mt, fun q hq => Nat.le_trans hB (h.lo q hq), h.fit⟩
theorem Tr.lies {X : World} {B c : Nat} {y : It} {root : Nd} {v : Value} (h : Tr X B c y root v) : Lies X X.heap.size y (itV y v) := by
  obtain ⟨k, n, s, l, o⟩ := y
  have := h.mt.lies (Q := fun q => q < X.heap.size) v k n s o h.shp (fun q hq => h.lt hq) h.fit
  exact this.lies fun k hk => hk

/-- item.List at a leaf and an item. -/
theorem list_pair {X Y : World} {B c g : Nat} {a y : It} {root : Nd} {v : Value} (cap : Nat) (ha : a.l = []) (hfa : Fits a) (h : Tr X B c y root v) (hc : c ≤ 1000) (hb : Below X.heap.size X Y) (hgX : X.heap.size ≤ g)
    (hg : Y.heap[g]? = some (.cells #[.int .i64 a.kind, .int .u64 (a.n : Nat), .string a.s, .slice none 0 0, .bool a.opn, .int .i64 y.kind, .int .u64 (y.n : Nat), .string y.s, v, .bool y.opn] 29 (0, 0))) :
    Calls Tryd.prog 23 #[.slice (some ⟨g, 0, none⟩) 2 cap] Y fun e w' => ∃ root' v', e = .returned (itV (pairI a y) v') ∧ Tr w' Y.heap.size (c + 2) (pairI a y) root' v' ∧ Below Y.heap.size Y w' := by
  have hY := h.below hb
  have hcel : ∀ (i : Nat) (z : Nd) (u : It), [Nd.no, root][i]? = some z → [a, y][i]? = some u → Fits u ∧ ∃ v, Cel Y g i u.kind u.n u.s v u.opn ∧ Shp z v := by
    intro i z u hz hu
    match i, hz, hu with
    | 0, hz, hu =>
      obtain rfl : Nd.no = z := by simpa using hz
      obtain rfl : a = u := by simpa using hu
      exact ⟨hfa, .slice none 0 0, ⟨cell_of_row Y _ 0 _ _ _ hg, cell_of_row Y _ 1 _ _ _ hg, cell_of_row Y _ 2 _ _ _ hg, cell_of_row Y _ 3 _ _ _ hg, cell_of_row Y _ 4 _ _ _ hg⟩, none, 0, rfl⟩
    | 1, hz, hu =>
      obtain rfl : root = z := by simpa using hz
      obtain rfl : y = u := by simpa using hu
      exact ⟨h.fit, v, ⟨cell_of_row Y _ 5 _ _ _ hg, cell_of_row Y _ 6 _ _ _ hg, cell_of_row Y _ 7 _ _ _ hg, cell_of_row Y _ 8 _ _ _ hg, cell_of_row Y _ 9 _ _ _ hg⟩, h.shp⟩
    | i + 2, hz, _ => simp at hz
  have hall : (Nd.at g [.no, root]).all = Nd.at g [.no, root] :: root.all := by simp [Nd.all, Nd.allOf]
  have hgs : gs (.at g [.no, root]) = g :: gs root := by rw [gs, hall]; rfl
  have hn : (Nd.at g [.no, root]).n = 2 := rfl
  have hF : Forest Y (.at g [.no, root]) := by
    refine ⟨fun z hz => ?_, ?_, ?_, rfl⟩
    · rw [hall] at hz
      rcases List.mem_cons.1 hz with rfl | hz
      · refine ⟨⟨_, hg⟩, by rw [hn]; decide, by rw [hn]; decide, fun i z hz => ?_⟩
        have hi : i < 2 := (List.getElem?_eq_some_iff.1 hz).1
        have hu : ∃ u, [a, y][i]? = some u := ⟨_, List.getElem?_eq_getElem (by simpa using hi)⟩
        obtain ⟨u, hu⟩ := hu
        obtain ⟨-, v, h1, h2⟩ := hcel i z u hz hu
        exact ⟨_, _, _, v, _, h1, h2⟩
      · exact hY.lst z hz
    · rw [hgs, List.nodup_cons]
      exact ⟨fun hm => by have := h.lt hm; omega, h.nodup⟩
    · have := h.few
      simp only [cnt, cntOf, List.length_cons, List.length_nil]
      omega
  have hM : Mt Y (.at g [.no, root]) [a, y] := by
    refine .at g _ _ rfl hcel fun i z u hz hu => ?_
    match i, hz, hu with
    | 0, hz, hu =>
      obtain rfl : Nd.no = z := by simpa using hz
      obtain rfl : a = u := by simpa using hu
      rw [ha]; exact .no
    | 1, hz, hu =>
      obtain rfl : root = z := by simpa using hz
      obtain rfl : y = u := by simpa using hu
      exact hY.mt
    | i + 2, hz, _ => simp at hz
  refine (list_items hF hM (fits_pair a y) cap).mono ?_
  rintro e w' ⟨root', v', rfl, h1, h2, h3, h4, h5, h6, -⟩
  refine ⟨root', v', rfl, ⟨h1, h2.lst, h2.nodup, ?_, h3, h4, fits_pair a y⟩, h6⟩
  rw [h5]
  have := h.few
  simp only [cnt, cntOf, List.length_cons, List.length_nil]
  omega
end Eid
end Go.Proofs.YtmbmhblogjkflaaDoor
