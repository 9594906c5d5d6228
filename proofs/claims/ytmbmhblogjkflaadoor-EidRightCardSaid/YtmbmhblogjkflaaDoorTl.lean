/-
  The copy of a tree of lists is a tree of lists; contract of item.List at any tree. Conditions: as copyList's.
-/
import Derived.Test.YtmbmhblogjkflaaDoorTk
namespace Go.Proofs.YtmbmhblogjkflaaDoor
namespace Tree
open Go.ChangeShapes Go.WideShapes Go.ChangeAt Go.RowKit Go.MapKept
open Nd
set_option linter.unusedVariables false
set_option maxRecDepth 100000

mutual
/-- The tree at other places. -/
def ren (C : Nat → Nat) : Nd → Nd
  | .no => .no
  | .at q l => .at (C q) (renL C l)
def renL (C : Nat → Nat) : List Nd → List Nd
  | [] => []
  | x :: r => ren C x :: renL C r
end
theorem renL_map (C : Nat → Nat) (l : List Nd) : renL C l = l.map (ren C) := by
  induction l with
  | nil => rfl
  | cons x r ih => simp [renL, ih]
theorem ren_isAt (C : Nat → Nat) (x : Nd) : (ren C x).isAt = x.isAt := by cases x <;> rfl
theorem ren_g (C : Nat → Nat) {x : Nd} (h : x.isAt = true) : (ren C x).g = C x.g := by
  cases x with
  | no => cases h
  | «at» q l => rfl
theorem ren_els (C : Nat → Nat) (x : Nd) : (ren C x).els = x.els.map (ren C) := by
  cases x with
  | no => rfl
  | «at» q l => exact renL_map C l
theorem ren_n (C : Nat → Nat) (x : Nd) : (ren C x).n = x.n := by
  show (ren C x).els.length = x.els.length
  rw [ren_els, List.length_map]
theorem ren_cnt (C : Nat → Nat) (x : Nd) : cnt (ren C x) = cnt x := by
  refine ind (P := fun x => cnt (ren C x) = cnt x) rfl ?_ x
  intro q l ih
  have h : cntOf (renL C l) = cntOf l := by
    induction l with
    | nil => rfl
    | cons a r ih2 =>
      simp only [renL, cntOf]
      rw [ih a List.mem_cons_self, ih2 fun y hy => ih y (List.mem_cons_of_mem _ hy)]
  simp only [ren, cnt]
  rw [h, renL_map, List.length_map]
theorem ren_all (C : Nat → Nat) (x : Nd) : all (ren C x) = (all x).map (ren C) := by
  refine ind (P := fun x => all (ren C x) = (all x).map (ren C)) rfl ?_ x
  intro q l ih
  have h : allOf (renL C l) = (allOf l).map (ren C) := by
    induction l with
    | nil => rfl
    | cons a r ih2 =>
      simp only [renL, allOf, List.map_append]
      rw [ih a List.mem_cons_self, ih2 fun y hy => ih y (List.mem_cons_of_mem _ hy)]
  simp only [ren, all, List.map_cons, h]
theorem ren_gs (C : Nat → Nat) (x : Nd) : gs (ren C x) = (gs x).map C := by
  unfold gs
  rw [ren_all, List.map_map, List.map_map]
  exact List.map_congr_left fun y hy => ren_g C (all_at hy)

/-- The copy is a tree in memory. -/
theorem Copied.forest {w w' : World} {root : Nd} {C : Nat → Nat} (h : Copied w root C w') (hF : Forest w root) : Forest w' (ren C root) := by
  refine ⟨fun y' hy' => ?_, ?_, by rw [ren_cnt]; exact hF.few, by rw [ren_isAt]; exact hF.isAt⟩
  · rw [ren_all] at hy'
    obtain ⟨y, hy, rfl⟩ := List.mem_map.1 hy'
    have hb := h.blk y hy
    have hL := hF.lst y hy
    have hg := ren_g C (all_at hy)
    refine ⟨by rw [hg]; exact hb.row, by rw [ren_n]; exact hL.pos, by rw [ren_n]; exact hL.few, fun i z' hz' => ?_⟩
    rw [ren_els, List.getElem?_map] at hz'
    obtain ⟨z, hz, rfl⟩ := Option.map_eq_some_iff.1 hz'
    obtain ⟨k, n, s, v, o, v', h1, h2, h3, h4, h5⟩ := hb.els i z hz
    refine ⟨k, n, s, v', o, by rw [hg]; exact h3, ?_⟩
    have hnw := h4 (List.getElem?_eq_some_iff.1 hz).1
    cases z with
    | no => exact ⟨none, 0, hnw⟩
    | «at» q l =>
      obtain ⟨⟨cap, e⟩, hp, -⟩ := hnw
      exact ⟨cap, by rw [e, renL_map, List.length_map], by rw [renL_map, List.length_map]; exact hp⟩
  · rw [ren_gs]
    refine List.pairwise_map.2 (List.Pairwise.imp_of_mem ?_ hF.nodup)
    intro a b ha hb hne e
    obtain ⟨y, hy, rfl⟩ := List.mem_map.1 ha
    obtain ⟨z, hz, rfl⟩ := List.mem_map.1 hb
    exact hne (h.inj y hy z hz e)
/-- All its blocks are new. -/
theorem Copied.news {w w' : World} {root : Nd} {C : Nat → Nat} (h : Copied w root C w') : ∀ q ∈ gs (ren C root), w.heap.size ≤ q := by
  intro q hq
  rw [ren_gs] at hq
  obtain ⟨p, hp, rfl⟩ := List.mem_map.1 hq
  obtain ⟨y, hy, rfl⟩ := List.mem_map.1 hp
  exact h.new y hy
/-- Each element's items are the source's. -/
theorem Copied.items {w w' : World} {root : Nd} {C : Nat → Nat} (h : Copied w root C w') {y z : Nd} (hy : y ∈ root.all) {i : Nat} (hz : y.els[i]? = some z) {k : Int} {n : Nat} {s : ByteArray} {v : Value} {o : Bool} (hc : Cel w y.g i k n s v o) : ∃ v', Cel w' (C y.g) i k n s v' o ∧ Nw C root.all z v' := by
  obtain ⟨k', n', s', v0, o', v', h1, h2, h3, h4, h5⟩ := (h.blk y hy).els i z hz
  have e0 := h1.c0.symm.trans hc.c0
  have e1 := h1.c1.symm.trans hc.c1
  have e2 := h1.c2.symm.trans hc.c2
  have e4 := h1.c4.symm.trans hc.c4
  simp at e0 e1 e2 e4
  obtain rfl := e0
  obtain rfl : n' = n := by omega
  obtain rfl := e2
  obtain rfl := e4
  exact ⟨v', h3, h4 (List.getElem?_eq_some_iff.1 hz).1⟩

theorem Forest.below {w w' : World} {B : Nat} {root : Nd} (h : Forest w root) (hb : Below B w w') (hB : w.heap.size ≤ B) : Forest w' root :=
  ⟨fun y hy => (h.lst y hy).below hb hB, h.nodup, h.few, h.isAt⟩
/-- The copy made behind new memory. -/
theorem Copied.back {w w1 w' : World} {root : Nd} {C : Nat → Nat} (hF : Forest w root) (hb : Below w.heap.size w w1) (h : Copied w1 root C w') : Copied w root C w' := by
  refine ⟨hb.trans (h.below.mono hb.size), fun y hy => Nat.le_trans hb.size (h.new y hy), h.inj, fun y hy => ?_⟩
  refine ⟨(h.blk y hy).row, fun i z hz => ?_⟩
  obtain ⟨k, n, s, v, o, h1, h2⟩ := (hF.lst y hy).els i z hz
  obtain ⟨v', h3, h4⟩ := h.items hy hz (h1.below hb (hF.lst y hy).row.lt)
  have hlt := (List.getElem?_eq_some_iff.1 hz).1
  exact ⟨k, n, s, v, o, v', h1, h2, h3, fun _ => h4, fun hle => absurd hlt (Nat.not_lt.2 hle)⟩
theorem Copied.other {w w1 w' : World} {root : Nd} {C : Nat → Nat} (h : Copied w root C w1) (hb : Below w.heap.size w w') (hk : ∀ y ∈ root.all, w'.heap[C y.g]? = w1.heap[C y.g]?) : Copied w root C w' :=
  ⟨hb, h.new, h.inj, fun y hy => (h.blk y hy).kept (hk y hy)⟩
theorem set5 {w1 : World} {p : Nat} {t : TypeId} {a0 a1 a2 a3 a4 : Value} (h : w1.heap[p]? = some (.cells #[a0, a1, a2, a3, a4] t (0, 0))) (b0 b1 b2 b3 b4 : Value) :
    (((((w1.setCell ⟨p, 0, none⟩ b0).setCell ⟨p, 1, none⟩ b1).setCell ⟨p, 2, none⟩ b2).setCell ⟨p, 3, none⟩ b3).setCell ⟨p, 4, none⟩ b4).heap[p]? = some (.cells #[b0, b1, b2, b3, b4] t (0, 0)) := by
  rw [set_at (set_at (set_at (set_at (set_at h))))]; rfl
theorem set5_other (w1 : World) (p q : Nat) (hq : q ≠ p) (b0 b1 b2 b3 b4 : Value) :
    (((((w1.setCell ⟨p, 0, none⟩ b0).setCell ⟨p, 1, none⟩ b1).setCell ⟨p, 2, none⟩ b2).setCell ⟨p, 3, none⟩ b3).setCell ⟨p, 4, none⟩ b4).heap[q]? = w1.heap[q]? := by
  rw [Below.heap_setCell _ _ _ _ hq, Below.heap_setCell _ _ _ _ hq, Below.heap_setCell _ _ _ _ hq, Below.heap_setCell _ _ _ _ hq, Below.heap_setCell _ _ _ _ hq]

set_option maxHeartbeats 1000000 in
/-- item.List. -/
theorem list_any {w : World} {root : Nd} (hF : Forest w root) (cap : Nat) :
    Calls Tryd.prog 23 #[.slice (some ⟨root.g, 0, none⟩) root.n cap] w fun e w' => ∃ C cap', e = .returned (.agg #[.int .i64 4, .int .u64 0, .string ⟨#[]⟩, .slice (some ⟨C root.g, 0, none⟩) root.n cap', .bool false]) ∧ Copied w root C w' := by
  have hal := fun o => (Below.refl w.heap.size w).alloc (Nat.le_refl _) o
  have hcl : ∀ o, Calls Tryd.prog 38 #[.slice (some ⟨root.g, 0, none⟩) root.n cap] (w.alloc o) fun e w' => ∃ C cap', e = .returned (.slice (some ⟨C root.g, 0, none⟩) root.n cap') ∧ Below (w.alloc o).heap.size (w.alloc o) w' ∧ Copied w root C w' ∧ ∀ y ∈ root.all, C y.g ≠ w.heap.size := fun o => by
    refine (copyList_any (hF.below (hal o) (Nat.le_refl _)) cap).mono ?_
    rintro e w' ⟨C, cap', rfl, hc⟩
    exact ⟨C, cap', rfl, hc.below, hc.back hF (hal o), fun y hy e => by have := hc.new y hy; simp at this; omega⟩
  have HCL := Lib.hid hcl
  obtain ⟨gx, hgx⟩ : ∃ q, q = root.g := ⟨_, rfl⟩
  obtain ⟨n, hnn⟩ : ∃ n, n = root.n := ⟨_, rfl⟩
  rw [← hgx, ← hnn] at HCL
  rw [← hnn, ← hgx]
  clear hgx hnn hF hcl hal
  go_enter Tryd.func23, Tryd.ntmps23
  go_wp2_with fail
  refine (HCL.out _).mono ?_
  rintro e w1 ⟨C, cap', rfl, hb1, hc, hne⟩
  have hres : w1.heap[w.heap.size]? = some (.cells #[.int .i64 0, .int .u64 0, .string ⟨#[]⟩, .slice none 0 0, .bool false] 29 (0, 0)) := by
    rw [hb1.block _ (by simp)]
    exact heap_alloc_new w _
  have r0 := cell_of_row w1 _ 0 _ _ _ hres
  have r1 := cell_of_row w1 _ 1 _ _ _ hres
  have r2 := cell_of_row w1 _ 2 _ _ _ hres
  have r3 := cell_of_row w1 _ 3 _ _ _ hres
  have r4 := cell_of_row w1 _ 4 _ _ _ hres
  simp only [List.getElem?_toArray, List.getElem?_cons_zero, List.getElem?_cons_succ] at r0 r1 r2 r3 r4
  have rf : ∀ i, w1.frozen? ⟨w.heap.size, i, none⟩ = false := free_at hres
  have HX := Lib.hid (And.intro hc (And.intro hne hres)); clear hc hne hb1 hres HCL
  go_wp2
  generalize hF : ((((w1.setCell ⟨w.heap.size, 0, none⟩ (.int .i64 4)).setCell ⟨w.heap.size, 1, none⟩ (.int .u64 0)).setCell ⟨w.heap.size, 2, none⟩ (.string ⟨#[]⟩)).setCell ⟨w.heap.size, 3, none⟩ (.slice (some ⟨C gx, 0, none⟩) n cap')).setCell ⟨w.heap.size, 4, none⟩ (.bool false) = F
  have hrow : F.heap[w.heap.size]? = some (.cells #[.int .i64 4, .int .u64 0, .string ⟨#[]⟩, .slice (some ⟨C gx, 0, none⟩) n cap', .bool false] 29 (0, 0)) := by rw [← hF]; exact set5 HX.out.2.2 _ _ _ _ _
  have f0 := cell_of_row F _ 0 _ _ _ hrow
  have f1 := cell_of_row F _ 1 _ _ _ hrow
  have f2 := cell_of_row F _ 2 _ _ _ hrow
  have f3 := cell_of_row F _ 3 _ _ _ hrow
  have f4 := cell_of_row F _ 4 _ _ _ hrow
  simp only [List.getElem?_toArray, List.getElem?_cons_zero, List.getElem?_cons_succ] at f0 f1 f2 f3 f4
  have hoth : ∀ q, q ≠ w.heap.size → F.heap[q]? = w1.heap[q]? := fun q hq => by rw [← hF]; exact set5_other w1 _ q hq _ _ _ _ _
  have hbel : Below w.heap.size w F := by
    rw [← hF]
    exact ((((HX.out.1.below.setCell (p := ⟨w.heap.size, 0, none⟩) (Nat.le_refl _) _).setCell (p := ⟨w.heap.size, 1, none⟩) (Nat.le_refl _) _).setCell (p := ⟨w.heap.size, 2, none⟩) (Nat.le_refl _) _).setCell (p := ⟨w.heap.size, 3, none⟩) (Nat.le_refl _) _).setCell (p := ⟨w.heap.size, 4, none⟩) (Nat.le_refl _) _
  clear hF
  refine bodyPost_ret (v := .agg #[.int .i64 4, .int .u64 0, .string ⟨#[]⟩, .slice (some ⟨C gx, 0, none⟩) n cap', .bool false]) (by simp [results, Tryd.results23, go_sem, f0, f1, f2, f3, f4]) rfl ⟨C, cap', ?_, HX.out.1.other hbel fun y hy => hoth _ (HX.out.2.1 y hy)⟩
  rfl
end Tree
end Go.Proofs.YtmbmhblogjkflaaDoor
