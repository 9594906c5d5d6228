/-
  Items whose lists are a tree in memory, and their copies. Conditions: as copyList's.
-/
import Derived.Test.YtmbmhblogjkflaaDoorTl
import Derived.Test.YtmbmhblogjkflaaDoorNew
namespace Go.Proofs.YtmbmhblogjkflaaDoor
namespace Tree
open Go.ChangeShapes Go.WideShapes Go.ChangeAt Go.RowKit Go.MapKept
open Nd
set_option linter.unusedVariables false
set_option maxRecDepth 100000

/-- The lists of the items l are the tree x. -/
inductive Mt (w : World) : Nd → List It → Prop where
  | no : Mt w .no []
  | at (q : Nat) (zs : List Nd) (l : List It) (hl : zs.length = l.length)
      (he : ∀ (i : Nat) (z : Nd) (y : It), zs[i]? = some z → l[i]? = some y → Fits y ∧ ∃ v, Cel w q i y.kind y.n y.s v y.opn ∧ Shp z v)
      (hr : ∀ (i : Nat) (z : Nd) (y : It), zs[i]? = some z → l[i]? = some y → Mt w z y.l) : Mt w (.at q zs) l

theorem Nw.shp {C : Nat → Nat} {live : List Nd} {z : Nd} {v : Value} (h : Nw C live z v) : Shp (ren C z) v := by
  cases z with
  | no => exact ⟨none, 0, h⟩
  | «at» q l =>
    obtain ⟨⟨cap, e⟩, hp, -⟩ := h
    exact ⟨cap, by rw [e, renL_map, List.length_map], by rw [renL_map, List.length_map]; exact hp⟩

/-- The copy bears the same items. -/
theorem Copied.mt {w w' : World} {root : Nd} {C : Nat → Nat} (h : Copied w root C w') {x : Nd} {l : List It} (hm : Mt w x l) : (x.isAt = true → x ∈ root.all) → Mt w' (ren C x) l := by
  induction hm with
  | no => intro _; exact .no
  | «at» q zs l hl he hr ih =>
    intro hx
    have hx' := hx rfl
    refine .at (C q) (renL C zs) l (by rw [renL_map, List.length_map]; exact hl) ?_ ?_
    · intro i z' y hz' hy
      rw [renL_map, List.getElem?_map] at hz'
      obtain ⟨z, hz, rfl⟩ := Option.map_eq_some_iff.1 hz'
      obtain ⟨hf, v, hc, hs⟩ := he i z y hz hy
      obtain ⟨v', h3, h4⟩ := h.items hx' hz hc
      exact ⟨hf, v', h3, h4.shp⟩
    · intro i z' y hz' hy
      rw [renL_map, List.getElem?_map] at hz'
      obtain ⟨z, hz, rfl⟩ := Option.map_eq_some_iff.1 hz'
      exact ih i z y hz hy fun ha => all_sub hx' (List.mem_filter.2 ⟨List.mem_of_getElem? hz, ha⟩)

/-- Such an item lies in the tree's blocks. -/
theorem Mt.lies {w : World} {Q : Nat → Prop} {x : Nd} {l : List It} (hm : Mt w x l) : ∀ (v : Value) (k : Int) (n : Nat) (s : ByteArray) (o : Bool), Shp x v → (∀ q ∈ gs x, Q q) → Fits (.mk k n s l o) → LiesIn w Q (.mk k n s l o) (itV (.mk k n s l o) v) := by
  induction hm with
  | no =>
    intro v k n s o hv _ hf
    obtain ⟨A, cap, rfl⟩ := hv
    exact .mk (.mk k n s [] o) A cap (fun _ => .slice none 0 0) hf (fun i y h => by simp [It.l] at h) (fun i y h => by simp [It.l] at h)
  | «at» q zs l hl he hr ih =>
    intro v k n s o hv hQ hf
    obtain ⟨cap, rfl, hp⟩ := hv
    have hch : ∀ i, ∃ v, ∀ z y, zs[i]? = some z → l[i]? = some y → Cel w q i y.kind y.n y.s v y.opn ∧ Shp z v := fun i => by
      rcases hz : zs[i]? with _ | z
      · exact ⟨.slice none 0 0, fun z y h => by cases h⟩
      · rcases hy : l[i]? with _ | y
        · exact ⟨.slice none 0 0, fun z y _ h => by cases h⟩
        · obtain ⟨_, v, h1, h2⟩ := he i z y hz hy
          exact ⟨v, fun z' y' h h' => by cases h; cases h'; exact ⟨h1, h2⟩⟩
    have hzof : ∀ i y, l[i]? = some y → ∃ z, zs[i]? = some z := fun i y hy => by
      have := (List.getElem?_eq_some_iff.1 hy).1
      exact ⟨_, List.getElem?_eq_getElem (by omega)⟩
    have hQq : Q q := hQ q (by rw [gs_at]; exact List.mem_cons_self)
    rw [show zs.length = (It.mk k n s l o).l.length from hl]
    refine .mk (.mk k n s l o) (some ⟨q, 0, none⟩) cap (fun i => Classical.choose (hch i)) hf ?_ ?_
    · intro i y hy
      obtain ⟨z, hz⟩ := hzof i y hy
      obtain ⟨hc, -⟩ := Classical.choose_spec (hch i) z y hz hy
      exact ⟨q, 0, rfl, hQq, by rw [Nat.zero_add]; exact ⟨hc.c0, hc.c1, hc.c2, hc.c3, hc.c4⟩⟩
    · intro i y hy
      obtain ⟨z, hz⟩ := hzof i y hy
      obtain ⟨-, hs⟩ := Classical.choose_spec (hch i) z y hz hy
      have hfy := (he i z y hz hy).1
      have := ih i z y hz hy (Classical.choose (hch i)) y.kind y.n y.s y.opn hs (fun p hp => hQ p (by
        rw [gs_at]
        refine List.mem_cons_of_mem _ ?_
        obtain ⟨b, hb, rfl⟩ := List.mem_map.1 hp
        exact List.mem_map_of_mem (mem_allOf.2 ⟨z, List.mem_of_getElem? hz, hb⟩)))
      cases y with
      | mk k' n' s' l' o' => exact this hfy

/-- item.List at items whose lists are a tree: the array of the same items, in new blocks, and again such a tree. -/
theorem list_items {w : World} {root : Nd} {l : List It} (hF : Forest w root) (hm : Mt w root l) (hfit : Fits (.mk 4 0 ⟨#[]⟩ l false)) (cap : Nat) :
    Calls Tryd.prog 23 #[.slice (some ⟨root.g, 0, none⟩) root.n cap] w fun e w' => ∃ root' v, e = .returned (itV (.mk 4 0 ⟨#[]⟩ l false) v) ∧ Shp root' v ∧ Forest w' root' ∧ Mt w' root' l ∧ (∀ q ∈ gs root', w.heap.size ≤ q) ∧ cnt root' = cnt root ∧
      Below w.heap.size w w' ∧ LiesIn w' (News w w') (.mk 4 0 ⟨#[]⟩ l false) (itV (.mk 4 0 ⟨#[]⟩ l false) v) := by
  refine (list_any hF cap).mono ?_
  rintro e w' ⟨C, cap', rfl, hc⟩
  have hat := hF.isAt
  have hFr := hc.forest hF
  have hmt := hc.mt hm fun h => self_mem h
  have hshp : Shp (ren C root) (.slice (some ⟨C root.g, 0, none⟩) root.n cap') := by
    have hp := (hF.lst root (self_mem hat)).pos
    revert hat hp
    cases root with
    | no => intro h; cases h
    | «at» q zs =>
      intro _ hp
      have e : (Nd.at q zs).n = (renL C zs).length := by rw [renL_map, List.length_map]; rfl
      exact ⟨cap', by rw [e]; rfl, by rw [← e]; exact hp⟩
  refine ⟨ren C root, .slice (some ⟨C root.g, 0, none⟩) root.n cap', rfl, hshp, hFr, hmt, hc.news, ren_cnt C root, hc.below, ?_⟩
  refine hmt.lies _ 4 0 ⟨#[]⟩ false hshp (fun q hq => ⟨hc.news q hq, ?_⟩) hfit
  obtain ⟨y, hy, rfl⟩ := List.mem_map.1 hq
  exact (hFr.lst y hy).row.lt
end Tree
end Go.Proofs.YtmbmhblogjkflaaDoor
