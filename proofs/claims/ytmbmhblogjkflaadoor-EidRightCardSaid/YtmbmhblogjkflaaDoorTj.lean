/-
  Contract of item's copyList at any tree of lists. Conditions: the tree lies in memory, each list at a block's head, no two in one block.
-/
import Derived.Test.YtmbmhblogjkflaaDoorTi
import Derived.Maps.Own
namespace Go.Proofs.YtmbmhblogjkflaaDoor
namespace Tree
open Go.ChangeShapes Go.WideShapes Go.ChangeAt Go.RowKit Go.MapKept
open Nd
set_option linter.unusedVariables false
set_option maxRecDepth 100000

/-- The slices of copies. -/
def CShps (C : Nat → Nat) : List Nd → List Value → Prop
  | [], [] => True
  | x :: r, v :: s => (∃ cap, v = .slice (some ⟨C x.g, 0, none⟩) x.n cap) ∧ CShps C r s
  | _, _ => False
theorem CShps.length {C : Nat → Nat} : ∀ {l : List Nd} {vs : List Value}, CShps C l vs → vs.length = l.length
  | [], [], _ => rfl
  | _ :: _, _ :: _, h => by simp [CShps.length h.2]
  | [], _ :: _, h => h.elim
  | _ :: _, [], h => h.elim
theorem CShps.append {C : Nat → Nat} : ∀ {l : List Nd} {vs : List Value} {m : List Nd} {ws : List Value}, CShps C l vs → CShps C m ws → CShps C (l ++ m) (vs ++ ws)
  | [], [], _, _, _, k => k
  | _ :: _, _ :: _, _, _, h, k => ⟨h.1, CShps.append h.2 k⟩
  | [], _ :: _, _, _, h, _ => h.elim
  | _ :: _, [], _, _, h, _ => h.elim
theorem CShps.split {C : Nat → Nat} : ∀ {l m : List Nd} {vs : List Value}, CShps C (l ++ m) vs → ∃ a b, vs = a ++ b ∧ CShps C l a ∧ CShps C m b
  | [], m, vs, h => ⟨[], vs, rfl, trivial, h⟩
  | x :: l, m, v :: vs, h => by
    obtain ⟨a, b, e, h1, h2⟩ := CShps.split (l := l) (m := m) h.2
    exact ⟨v :: a, b, by rw [e]; rfl, ⟨h.1, h1⟩, h2⟩
  | x :: l, m, [], h => h.elim
theorem CShps.more {C C' : Nat → Nat} : ∀ {l : List Nd} {vs : List Value}, CShps C l vs → (∀ y ∈ l, C' y.g = C y.g) → CShps C' l vs
  | [], [], _, _ => trivial
  | x :: l, v :: vs, h, e => by
    obtain ⟨⟨cap, hv⟩, h2⟩ := h
    exact ⟨⟨cap, by rw [hv, e x List.mem_cons_self]⟩, CShps.more h2 fun y hy => e y (List.mem_cons_of_mem _ hy)⟩
  | [], _ :: _, h, _ => h.elim
  | _ :: _, [], h, _ => h.elim
theorem CShps.last {C : Nat → Nat} {r : List Nd} {x : Nd} {vs : List Value} (h : CShps C (x :: r).reverse vs) : ∃ ws cap, vs = ws ++ [.slice (some ⟨C x.g, 0, none⟩) x.n cap] ∧ CShps C r.reverse ws := by
  rw [List.reverse_cons] at h
  obtain ⟨a, b, e, h1, h2⟩ := h.split
  cases b with
  | nil => exact h2.elim
  | cons v b =>
    obtain ⟨⟨cap, hv⟩, h3⟩ := h2
    cases b with
    | nil => exact ⟨a, cap, by rw [e, hv], h1⟩
    | cons u b => exact h3.elim

theorem Wx.live {W X : World} {M : Nat} {root : Nd} {K : Nat → Nat} {ent : List Nd} {tot : Nat} {C J : Nat → Nat} {P : List Nat} {live live' : List Nd} {xs : List Value} (h : Wx W M root K ent tot C J P live xs X) (he : ∀ y, y ∈ live ↔ y ∈ live') : Wx W M root K ent tot C J P live' xs X := by
  refine ⟨h.pq, h.kn, fun y hy => h.cin y ((he y).2 hy), fun y hy => h.cK y ((he y).2 hy), fun y hy z hz => h.inj y ((he y).2 hy) z ((he z).2 hz), fun y hy => h.sub y ((he y).2 hy), fun y hy => ?_⟩
  have hb := h.blk y ((he y).2 hy)
  refine ⟨hb.row, fun i z hz => ?_⟩
  obtain ⟨k, n, s, v, o, v', h1, h2, h3, h4, h5⟩ := hb.els i z hz
  exact ⟨k, n, s, v, o, v', h1, h2, h3, fun hlt => (h4 hlt).more (fun a ha => (he a).1 ha) (fun _ _ => rfl), h5⟩

theorem Cp.made (W : World) : Cp W W.heap.size #[] 0 (.slice none 0 0) [] 0 ((W.alloc (.map #[] 0)).alloc (.cells #[.map (some W.heap.size), .slice none 0 0, .int .u64 (0 : Nat)] 65)) := by
  refine ⟨((Below.refl _ _).alloc (Nat.le_refl _) _).alloc (by simp) _, ?_, ?_, ⟨rfl, .inl ⟨rfl, rfl⟩⟩⟩
  · rw [Below.heap_alloc _ _ _ (by simp)]; exact heap_alloc_new W _
  · have := heap_alloc_new (W.alloc (.map #[] 0)) (.cells #[.map (some W.heap.size), .slice none 0 0, .int .u64 (0 : Nat)] 65)
    simpa using this
theorem Sx.made (W : World) (root : Nd) : Sx W W.heap.size root (fun _ => 0) [] [] [] 0 ((W.alloc (.map #[] 0)).alloc (.cells #[.map (some W.heap.size), .slice none 0 0, .int .u64 (0 : Nat)] 65)) :=
  ⟨⟨_, Cp.made W, fun y hy => by cases hy⟩, fun y hy => (by cases hy), fun y hy => (by cases hy), fun y hy => (by cases hy), fun y hy => (by cases hy)⟩

/-- Behind the count: no copy yet. -/
theorem Sx.begin {W X : World} {M : Nat} {root : Nd} {K : Nat → Nat} {ent : List Nd} {done : List Nat} {tot : Nat} (h : Sx W M root K ent done [] tot X) (hd : ∀ y ∈ ent, y.g ∈ done) (C J : Nat → Nat) :
    Wx W M root K ent tot C J (ent.map fun y => K y.g) [] [] X := by
  have hk := fun y hy => h.done_known (y := y) hy (hd y hy)
  obtain ⟨st, c, hs⟩ := h.cp
  refine ⟨⟨st, c, fun k hk' => ?_⟩, fun y hy => ⟨List.mem_map_of_mem (f := fun y : Nd => K y.g) hy, hk y hy⟩, fun y hy => (by cases hy), fun y hy => (by cases hy), fun y hy => (by cases hy), fun y hy => (by cases hy), fun y hy => (by cases hy)⟩
  obtain ⟨y, hy, rfl⟩ := List.mem_map.1 hk'
  exact ⟨h.lo y hy, lt_of_obj (h.known y hy), hs y hy⟩

/-- The states that copying goes through. -/
def Walking (W : World) (M : Nat) (root : Nd) (K : Nat → Nat) (ent : List Nd) (tot h0 : Nat) (t : Wk) (B n : Nat) (w : World) : Prop :=
  ∃ s C J P xs, Walks B s t n ∧ Wx W M root K ent tot C J P (s.stack ++ s.fin) xs w ∧ CShps C s.stack.reverse xs ∧ (∀ y ∈ s.fin, J y.g = y.n) ∧ (∀ y ∈ s.stack, J y.g = 0) ∧ C root.g = h0 ∧ root ∈ s.stack ++ s.fin

/-- The states within one list. -/
def Within (W : World) (M : Nat) (root : Nd) (K : Nat → Nat) (ent : List Nd) (tot h0 : Nat) (x : Nd) (r fin : List Nd) (ws : List Value) (q j : Nat) (w : World) : Prop :=
  ∃ C J P vs, Wx W M root K ent tot C J P (((x.els.take j).filter isAt).reverse ++ x :: (r ++ fin)) (ws ++ vs) w ∧ CShps C r.reverse ws ∧ CShps C ((x.els.take j).filter isAt) vs ∧ (∀ y ∈ fin, J y.g = y.n) ∧ (∀ y ∈ r, J y.g = 0) ∧ (∀ y ∈ (x.els.take j).filter isAt, J y.g = 0) ∧ J x.g = j ∧ C x.g = q ∧ C root.g = h0 ∧ root ∈ x :: (r ++ fin)

theorem Within.alloc {W X : World} {M : Nat} {root : Nd} {K : Nat → Nat} {ent : List Nd} {tot h0 : Nat} {x : Nd} {r fin : List Nd} {ws : List Value} {q j : Nat} (h : Within W M root K ent tot h0 x r fin ws q j X) (o : Obj) : Within W M root K ent tot h0 x r fin ws q j (X.alloc o) := by
  obtain ⟨C, J, P, vs, h1, h2⟩ := h
  exact ⟨C, J, P, vs, h1.alloc o, h2⟩
theorem mem_take_sub {x y : Nd} {j : Nat} (h : y ∈ (x.els.take j).filter isAt) : y ∈ x.subs := by
  obtain ⟨h1, h2⟩ := List.mem_filter.1 h
  exact List.mem_filter.2 ⟨List.mem_of_mem_take h1, h2⟩
theorem nod_apart {x : Nd} {m : List Nd} (hn : ((x.subs ++ x :: m).map g).Nodup) : (∀ y ∈ x.subs, y.g ≠ x.g ∧ y.g ∉ m.map g) ∧ ∀ y ∈ m, y.g ≠ x.g := by
  rw [List.map_append, List.map_cons] at hn
  obtain ⟨h1, h2, h3⟩ := List.nodup_append.1 hn
  refine ⟨fun y hy => ⟨h3 _ (List.mem_map_of_mem hy) _ List.mem_cons_self, fun hm => h3 _ (List.mem_map_of_mem hy) _ (List.mem_cons_of_mem _ hm) rfl⟩, fun y hy e => ?_⟩
  exact (List.nodup_cons.1 h2).1 (e ▸ List.mem_map_of_mem hy)
theorem nod_fresh {x z : Nd} {m : List Nd} (hn : ((x.subs ++ x :: m).map g).Nodup) {j : Nat} (hz : x.els[j]? = some z) (ha : z.isAt = true) : z.g ∉ (((x.els.take j).filter isAt).reverse ++ x :: m).map g := by
  have hsp : x.subs = (x.els.take j).filter isAt ++ z :: (x.els.drop (j + 1)).filter isAt := by
    have h1 : x.els.drop j = z :: x.els.drop (j + 1) := by
      obtain ⟨hj, e⟩ := List.getElem?_eq_some_iff.1 hz
      rw [List.drop_eq_getElem_cons hj, e]
    unfold subs
    conv => lhs; rw [← List.take_append_drop j x.els, h1]
    rw [List.filter_append, List.filter_cons_of_pos ha]
  rw [hsp] at hn
  have hp : ((((x.els.take j).filter isAt ++ z :: (x.els.drop (j + 1)).filter isAt) ++ x :: m).map g).Perm (z.g :: ((((x.els.take j).filter isAt).reverse ++ x :: m).map g ++ ((x.els.drop (j + 1)).filter isAt).map g)) := by
    rw [List.perm_iff_count]
    intro q
    simp only [List.map_append, List.map_cons, List.map_reverse, List.count_append, List.count_cons, List.count_reverse]
    omega
  have := (List.nodup_cons.1 (hp.nodup_iff.1 hn)).1
  exact fun h => this (List.mem_append_left _ h)
/-- An element without a list. -/
theorem Within.bare {W X : World} {M : Nat} {root : Nd} {K : Nat → Nat} {ent : List Nd} {tot h0 : Nat} {x : Nd} {r fin : List Nd} {ws : List Value} {q j : Nat} (h : Within W M root K ent tot h0 x r fin ws q j X) (hF : Forest W root)
    (hn : ((x.subs ++ x :: (r ++ fin)).map g).Nodup) (hy : x.els[j]? = some .no) : Within W M root K ent tot h0 x r fin ws q (j + 1) (X.setCell ⟨q, j * 5 + 3, none⟩ (.slice none 0 0)) := by
  obtain ⟨C, J, P, vs, h1, h2, h3, h4, h5, h6, rfl, rfl, h8, h9⟩ := h
  have ht : (x.els.take (J x.g + 1)).filter isAt = (x.els.take (J x.g)).filter isAt := by rw [filter_take_next _ _ _ hy]; simp [isAt]
  have hx : x ∈ ((x.els.take (J x.g)).filter isAt).reverse ++ x :: (r ++ fin) := List.mem_append_right _ List.mem_cons_self
  have hput := h1.put hF hx hy (u := .slice none 0 0) rfl
  have hne : ∀ y ∈ ((x.els.take (J x.g)).filter isAt) ++ (r ++ fin), y.g ≠ x.g := fun y hy => by
    obtain ⟨a1, a2⟩ := nod_apart hn
    rcases List.mem_append.1 hy with hy | hy
    · exact (a1 y (mem_take_sub hy)).1
    · exact a2 y hy
  have hJ : ∀ y ∈ ((x.els.take (J x.g)).filter isAt) ++ (r ++ fin), updK J x.g (J x.g + 1) y.g = J y.g := fun y hy => if_neg (hne y hy)
  refine ⟨C, updK J x.g (J x.g + 1), P, vs, by rw [ht]; exact hput, h2, by rw [ht]; exact h3, ?_, ?_, ?_, if_pos rfl, rfl, h8, h9⟩
  · intro y hy; rw [hJ y (by simp [hy])]; exact h4 y hy
  · intro y hy; rw [hJ y (by simp [hy])]; exact h5 y hy
  · rw [ht]; intro y hy; rw [hJ y (List.mem_append_left _ hy)]; exact h6 y hy
/-- An element with a list. -/
theorem Within.full {W X Y : World} {M : Nat} {root : Nd} {K : Nat → Nat} {ent : List Nd} {tot h0 : Nat} {x : Nd} {r fin : List Nd} {ws : List Value} {q j : Nat} (hF : Forest W root)
    (hn : ((x.subs ++ x :: (r ++ fin)).map g).Nodup) {p : Nat} {l : List Nd} (hy : x.els[j]? = some (.at p l)) (hpos : 0 < l.length)
    {C J : Nat → Nat} {P : List Nat} {vs : List Value} (h1 : Wx W M root K ent tot C J P (((x.els.take j).filter isAt).reverse ++ x :: (r ++ fin)) (ws ++ vs) X) (h2 : CShps C r.reverse ws) (h3 : CShps C ((x.els.take j).filter isAt) vs) (h4 : ∀ y ∈ fin, J y.g = y.n) (h5 : ∀ y ∈ r, J y.g = 0) (h6 : ∀ y ∈ (x.els.take j).filter isAt, J y.g = 0) (h7 : J x.g = j) (hC : C x.g = q) (h8 : C root.g = h0) (h9 : root ∈ x :: (r ++ fin))
    {h cap : Nat} {cur : Array Value} (hq : X.heap.size ≤ h) (hp : Pq W M K ent (h :: P) ((ws ++ vs) ++ [.slice (some ⟨h, 0, none⟩) l.length cap]) tot Y) (hk : ∀ k ∈ P, Y.heap[k]? = X.heap[k]?)
    (hcur : Y.heap[h]? = some (.cells cur 29 (0, 0))) (hc : ∀ (i : Nat) (u : Value), (src W p l.length)[i]? = some u → cur[i]? = some u) :
    Row q Y ∧ Within W M root K ent tot h0 x r fin ws q (j + 1) (Y.setCell ⟨q, j * 5 + 3, none⟩ (.slice (some ⟨h, 0, none⟩) l.length cap)) := by
  obtain ⟨z, hz⟩ : ∃ z, z = Nd.at p l := ⟨_, rfl⟩
  have hzg : z.g = p := by rw [hz]; rfl
  have hzn : z.n = l.length := by rw [hz]; rfl
  have hza : z.isAt = true := by rw [hz]; rfl
  have hfr := nod_fresh hn hy (by rfl)
  obtain ⟨a1, a2⟩ := nod_apart hn
  have ht : (x.els.take (j + 1)).filter isAt = (x.els.take j).filter isAt ++ [z] := by rw [filter_take_next _ _ _ hy, hz]; rfl
  rw [← hz] at hy hfr
  have hxl : x ∈ ((x.els.take j).filter isAt).reverse ++ x :: (r ++ fin) := List.mem_append_right _ List.mem_cons_self
  have hxr := h1.sub x hxl
  have hzr : z ∈ root.all := all_sub hxr (List.mem_filter.2 ⟨List.mem_of_getElem? hy, hza⟩)
  have hadd := h1.add hF hzr hfr hq hp hk hcur (by rw [hzg, hzn]; exact hc)
  have hold : ∀ y ∈ ((x.els.take j).filter isAt).reverse ++ x :: (r ++ fin), y.g ≠ z.g := fun y hy' e => hfr (by rw [← e]; exact List.mem_map_of_mem hy')
  have hCo : ∀ y ∈ ((x.els.take j).filter isAt).reverse ++ x :: (r ++ fin), updK C z.g h y.g = C y.g := fun y hy' => if_neg (hold y hy')
  have hJo : ∀ y ∈ ((x.els.take j).filter isAt).reverse ++ x :: (r ++ fin), updK J z.g 0 y.g = J y.g := fun y hy' => if_neg (hold y hy')
  have hJx : updK J z.g 0 x.g = j := (hJo x hxl).trans h7
  have hCx : updK C z.g h x.g = q := (hCo x hxl).trans hC
  have hCz : updK C z.g h z.g = h := if_pos rfl
  have hput := hadd.put hF (List.mem_cons_of_mem _ hxl) (z := z) (by rw [hJx]; exact hy) (u := .slice (some ⟨h, 0, none⟩) l.length cap) (by
    have : Nw (updK C z.g h) (z :: (((x.els.take j).filter isAt).reverse ++ x :: (r ++ fin))) (Nd.at p l) (.slice (some ⟨h, 0, none⟩) l.length cap) := by
      refine ⟨⟨cap, ?_⟩, hpos, by rw [← hz]; exact List.mem_cons_self⟩
      rw [← hzg, hCz]
    rw [← hz] at this
    exact this)
  have hrow : Row q Y := by
    have := (hadd.blk x (List.mem_cons_of_mem _ hxl)).row
    rwa [hCx] at this
  rw [hCx, hJx] at hput
  have hne : ∀ y ∈ ((x.els.take j).filter isAt) ++ (r ++ fin), y.g ≠ x.g := fun y hy => by
    rcases List.mem_append.1 hy with hy | hy
    · exact (a1 y (mem_take_sub hy)).1
    · exact a2 y hy
  have hJJ : ∀ y ∈ ((x.els.take j).filter isAt) ++ (r ++ fin), updK (updK J z.g 0) x.g (j + 1) y.g = J y.g := fun y hy => by
    refine (if_neg (hne y hy)).trans (hJo y ?_)
    rcases List.mem_append.1 hy with hy | hy
    · exact List.mem_append_left _ (List.mem_reverse.2 hy)
    · exact List.mem_append_right _ (List.mem_cons_of_mem _ hy)
  have hzx : z.g ≠ x.g := (a1 z (List.mem_filter.2 ⟨List.mem_of_getElem? hy, hza⟩)).1
  refine ⟨hrow, updK C z.g h, updK (updK J z.g 0) x.g (j + 1), h :: P, vs ++ [.slice (some ⟨h, 0, none⟩) l.length cap], ?_, ?_, ?_, ?_, ?_, ?_, if_pos rfl, hCx, ?_, h9⟩
  · rw [ht, List.reverse_append, ← List.append_assoc]
    exact hput
  · exact h2.more fun y hy => hCo y (by simp at hy; simp [hy])
  · rw [ht]
    refine (h3.more fun y hy => hCo y (List.mem_append_left _ (List.mem_reverse.2 hy))).append ⟨⟨cap, by rw [hCz, hzn]⟩, trivial⟩
  · intro y hy; rw [hJJ y (by simp [hy])]; exact h4 y hy
  · intro y hy; rw [hJJ y (by simp [hy])]; exact h5 y hy
  · rw [ht]
    intro y hy
    rcases List.mem_append.1 hy with hy | hy
    · rw [hJJ y (List.mem_append_left _ hy)]; exact h6 y hy
    · obtain rfl := List.mem_singleton.1 hy
      exact (if_neg hzx).trans (if_pos rfl)
  · rw [hCo root (List.mem_append_right _ h9)]; exact h8
end Tree
end Go.Proofs.YtmbmhblogjkflaaDoor
