/-
  Copies in the making: blocks beside the copier, each with its list's items, some of whose own lists are copies already.
-/
import Derived.Test.YtmbmhblogjkflaaDoorTh
import Derived.Test.YtmbmhblogjkflaaDoorTreeWalk
namespace Go.Proofs.YtmbmhblogjkflaaDoor
namespace Tree
open Go.ChangeShapes Go.WideShapes Go.ChangeAt Go.RowKit Go.MapKept
open Nd
set_option linter.unusedVariables false
set_option maxRecDepth 100000

theorem cell_set_ne {X : World} {q i j : Nat} {u : Value} (hR : Row q X) (hij : i ≠ j) : (X.setCell ⟨q, i, none⟩ u).cell? ⟨q, j, none⟩ = X.cell? ⟨q, j, none⟩ := by
  obtain ⟨cs, h⟩ := hR
  rw [cell_of_row _ _ j _ _ _ (set_at h), cell_of_row _ _ j _ _ _ h]
  simp [hij]
theorem cell_set_eq {X : World} {q i : Nat} {u v : Value} (hR : Row q X) (hc : X.cell? ⟨q, i, none⟩ = some v) : (X.setCell ⟨q, i, none⟩ u).cell? ⟨q, i, none⟩ = some u := by
  obtain ⟨cs, h⟩ := hR
  rw [cell_of_row _ _ i _ _ _ h] at hc
  rw [cell_of_row _ _ i _ _ _ (set_at h)]
  obtain ⟨hi, -⟩ := Array.getElem?_eq_some_iff.1 hc
  simp [hi]
theorem Cel.kept {X X' : World} {q i : Nat} {k : Int} {n : Nat} {s : ByteArray} {v : Value} {o : Bool} (h : Cel X q i k n s v o) (e : X'.heap[q]? = X.heap[q]?) : Cel X' q i k n s v o :=
  ⟨(World.cell?_of_block (a := ⟨q, _, none⟩) e).trans h.c0, (World.cell?_of_block (a := ⟨q, _, none⟩) e).trans h.c1, (World.cell?_of_block (a := ⟨q, _, none⟩) e).trans h.c2, (World.cell?_of_block (a := ⟨q, _, none⟩) e).trans h.c3, (World.cell?_of_block (a := ⟨q, _, none⟩) e).trans h.c4⟩
/-- Another element's list is exchanged. -/
theorem Cel.set_ne {X : World} {q i j : Nat} {k : Int} {n : Nat} {s : ByteArray} {v u : Value} {o : Bool} (h : Cel X q i k n s v o) (hR : Row q X) (hij : j ≠ i) : Cel (X.setCell ⟨q, j * 5 + 3, none⟩ u) q i k n s v o :=
  ⟨(cell_set_ne hR (by omega)).trans h.c0, (cell_set_ne hR (by omega)).trans h.c1, (cell_set_ne hR (by omega)).trans h.c2, (cell_set_ne hR (by omega)).trans h.c3, (cell_set_ne hR (by omega)).trans h.c4⟩
/-- The element's own list is exchanged. -/
theorem Cel.set_eq {X : World} {q i : Nat} {k : Int} {n : Nat} {s : ByteArray} {v : Value} {o : Bool} (h : Cel X q i k n s v o) (hR : Row q X) (u : Value) : Cel (X.setCell ⟨q, i * 5 + 3, none⟩ u) q i k n s u o :=
  ⟨(cell_set_ne hR (by omega)).trans h.c0, (cell_set_ne hR (by omega)).trans h.c1, (cell_set_ne hR (by omega)).trans h.c2, cell_set_eq hR h.c3, (cell_set_ne hR (by omega)).trans h.c4⟩

/-- An element's list, copied. -/
def Nw (C : Nat → Nat) (live : List Nd) : Nd → Value → Prop
  | .no, v => v = .slice none 0 0
  | .at q l, v => (∃ cap, v = .slice (some ⟨C q, 0, none⟩) l.length cap) ∧ 0 < l.length ∧ Nd.at q l ∈ live
/-- A copy in the making: of the first j elements the lists are copied. -/
structure Blk (W X : World) (C : Nat → Nat) (live : List Nd) (y : Nd) (j : Nat) : Prop where
  row : Row (C y.g) X
  els : ∀ i z, y.els[i]? = some z → ∃ k n s v o v', Cel W y.g i k n s v o ∧ Shp z v ∧ Cel X (C y.g) i k n s v' o ∧ (i < j → Nw C live z v') ∧ (j ≤ i → v' = v)

/-- The copier while it copies. -/
structure Wx (W : World) (M : Nat) (root : Nd) (K : Nat → Nat) (ent : List Nd) (tot : Nat) (C J : Nat → Nat) (P : List Nat) (live : List Nd) (xs : List Value) (X : World) : Prop where
  pq : Pq W M K ent P xs tot X
  kn : ∀ y ∈ ent, K y.g ∈ P ∧ X.heap[K y.g]? = some (knownV false (cnt y))
  cin : ∀ y ∈ live, C y.g ∈ P
  cK : ∀ y ∈ live, ∀ z ∈ ent, C y.g ≠ K z.g
  inj : ∀ y ∈ live, ∀ z ∈ live, C y.g = C z.g → y.g = z.g
  sub : ∀ y ∈ live, y ∈ root.all
  blk : ∀ y ∈ live, Blk W X C live y (J y.g)

section
variable {W X Y : World} {M : Nat} {root : Nd} {K : Nat → Nat} {ent : List Nd} {tot : Nat} {C J : Nat → Nat} {P : List Nat} {live : List Nd} {xs ys : List Value}
theorem Blk.kept {y : Nd} {j : Nat} (h : Blk W X C live y j) (e : Y.heap[C y.g]? = X.heap[C y.g]?) : Blk W Y C live y j := by
  refine ⟨h.row.keep e, fun i z hz => ?_⟩
  obtain ⟨k, n, s, v, o, v', h1, h2, h3, h4, h5⟩ := h.els i z hz
  exact ⟨k, n, s, v, o, v', h1, h2, h3.kept e, h4, h5⟩
/-- Behind a call that keeps the blocks beside. -/
theorem Wx.kept (h : Wx W M root K ent tot C J P live xs X) (hp : Pq W M K ent P ys tot Y) (hk : ∀ k ∈ P, Y.heap[k]? = X.heap[k]?) : Wx W M root K ent tot C J P live ys Y :=
  ⟨hp, fun y hy => ⟨(h.kn y hy).1, (hk _ (h.kn y hy).1).trans (h.kn y hy).2⟩, h.cin, h.cK, h.inj, h.sub, fun y hy => (h.blk y hy).kept (hk _ (h.cin y hy))⟩
theorem Wx.next (h : Wx W M root K ent tot C J P live xs X) (hb : Below X.heap.size X Y) : Wx W M root K ent tot C J P live xs Y := by
  refine h.kept (h.pq.next hb) fun k hk => hb.block k ?_
  obtain ⟨st, c, hp⟩ := h.pq
  exact (hp k hk).2.1
theorem Wx.alloc (h : Wx W M root K ent tot C J P live xs X) (o : Obj) : Wx W M root K ent tot C J P live xs (X.alloc o) := h.next ((Below.refl _ _).alloc (Nat.le_refl _) o)
theorem Wx.lt (h : Wx W M root K ent tot C J P live xs X) {k : Nat} (hk : k ∈ P) : M + 2 ≤ k ∧ k < X.heap.size := by
  obtain ⟨st, c, hp⟩ := h.pq
  exact ⟨(hp k hk).1, (hp k hk).2.1⟩
theorem Nw.more {C' : Nat → Nat} {live' : List Nd} {z : Nd} {v : Value} (h : Nw C live z v) (hl : ∀ y ∈ live, y ∈ live') (hC : ∀ y ∈ live, C' y.g = C y.g) : Nw C' live' z v := by
  cases z with
  | no => exact h
  | «at» q l =>
    obtain ⟨⟨cap, e⟩, h1, h2⟩ := h
    exact ⟨⟨cap, by rw [e]; exact congrArg (fun b => Value.slice (some ⟨b, 0, none⟩) l.length cap) (hC _ h2).symm⟩, h1, hl _ h2⟩
/-- A list is cloned. -/
theorem Wx.add (h : Wx W M root K ent tot C J P live xs X) (hF : Forest W root) {z : Nd} (hz : z ∈ root.all) (hn : z.g ∉ live.map g) {q : Nat} {cur : Array Value} (hq : X.heap.size ≤ q) (hp : Pq W M K ent (q :: P) ys tot Y) (hk : ∀ k ∈ P, Y.heap[k]? = X.heap[k]?)
    (hcur : Y.heap[q]? = some (.cells cur 29 (0, 0))) (hc : ∀ (i : Nat) (u : Value), (src W z.g z.n)[i]? = some u → cur[i]? = some u) :
    Wx W M root K ent tot (updK C z.g q) (updK J z.g 0) (q :: P) (z :: live) ys Y := by
  have hC : ∀ y ∈ live, updK C z.g q y.g = C y.g := fun y hy => if_neg (fun e => hn (List.mem_map.2 ⟨y, hy, e⟩))
  have hJ : ∀ y ∈ live, updK J z.g 0 y.g = J y.g := fun y hy => if_neg (fun e => hn (List.mem_map.2 ⟨y, hy, e⟩))
  have hCz : updK C z.g q z.g = q := if_pos rfl
  have hJz : updK J z.g 0 z.g = 0 := if_pos rfl
  refine ⟨hp, fun y hy => ⟨List.mem_cons_of_mem _ (h.kn y hy).1, (hk _ (h.kn y hy).1).trans (h.kn y hy).2⟩, ?_, ?_, ?_, ?_, ?_⟩
  · intro y hy
    rcases List.mem_cons.1 hy with rfl | hy
    · rw [hCz]; exact List.mem_cons_self
    · rw [hC y hy]; exact List.mem_cons_of_mem _ (h.cin y hy)
  · intro y hy a ha
    rcases List.mem_cons.1 hy with rfl | hy
    · rw [hCz]; have := (h.lt (h.kn a ha).1).2; omega
    · rw [hC y hy]; exact h.cK y hy a ha
  · intro y hy a ha e
    rcases List.mem_cons.1 hy with e1 | hy1 <;> rcases List.mem_cons.1 ha with e2 | ha1
    · rw [e1, e2]
    · rw [e1, hCz, hC a ha1] at e
      have := (h.lt (h.cin a ha1)).2; omega
    · rw [e2, hCz, hC y hy1] at e
      have := (h.lt (h.cin y hy1)).2; omega
    · rw [hC y hy1, hC a ha1] at e
      exact h.inj y hy1 a ha1 e
  · intro y hy
    rcases List.mem_cons.1 hy with rfl | hy
    · exact hz
    · exact h.sub y hy
  · intro y hy
    rcases List.mem_cons.1 hy with rfl | hy
    · rw [hJz]
      refine ⟨by rw [hCz]; exact ⟨cur, hcur⟩, fun i a ha => ?_⟩
      obtain ⟨k, n, s, v, o, h1, h2⟩ := (hF.lst y hz).els i a ha
      have hin : i < y.n := (List.getElem?_eq_some_iff.1 ha).1
      have hcell : ∀ (m : Nat) (u : Value), m < 5 → W.cell? ⟨y.g, i * 5 + m, none⟩ = some u → Y.cell? ⟨q, i * 5 + m, none⟩ = some u := fun m u hm hu => by
        rw [cell_of_row Y q _ _ _ _ hcur]
        refine hc _ u ?_
        unfold src
        rw [List.getElem?_map, List.getElem?_range (by omega)]
        simp [hu]
      refine ⟨k, n, s, v, o, v, h1, h2, ?_, fun hlt => absurd hlt (Nat.not_lt_zero _), fun _ => rfl⟩
      rw [hCz]
      exact ⟨hcell 0 _ (by omega) h1.c0, hcell 1 _ (by omega) h1.c1, hcell 2 _ (by omega) h1.c2, hcell 3 _ (by omega) h1.c3, hcell 4 _ (by omega) h1.c4⟩
    · rw [hJ y hy]
      have hb := (h.blk y hy).kept (Y := Y) (hk _ (h.cin y hy))
      refine ⟨by rw [hC y hy]; exact hb.row, fun i a ha => ?_⟩
      obtain ⟨k, n, s, v, o, v', h1, h2, h3, h4, h5⟩ := hb.els i a ha
      exact ⟨k, n, s, v, o, v', h1, h2, by rw [hC y hy]; exact h3, fun hlt => (h4 hlt).more (fun _ hm => List.mem_cons_of_mem _ hm) hC, h5⟩
/-- The list of a copy's element is exchanged for its copy. -/
theorem Wx.put (h : Wx W M root K ent tot C J P live xs X) (hF : Forest W root) {y z : Nd} (hy : y ∈ live) (hi : y.els[J y.g]? = some z) {u : Value} (hu : Nw C live z u) :
    Wx W M root K ent tot C (updK J y.g (J y.g + 1)) P live xs (X.setCell ⟨C y.g, J y.g * 5 + 3, none⟩ u) := by
  have hrow := (h.blk y hy).row
  refine ⟨h.pq.set (h.cin y hy) _ _, fun a ha => ⟨(h.kn a ha).1, ?_⟩, h.cin, h.cK, h.inj, h.sub, ?_⟩
  · rw [Below.heap_setCell _ _ _ _ (by have := h.cK y hy a ha; simpa using fun e => this e.symm)]
    exact (h.kn a ha).2
  · intro a ha
    by_cases e : a.g = y.g
    · obtain rfl := nodup_inj hF.nodup (h.sub a ha) (h.sub y hy) e
      have hJ : updK J a.g (J a.g + 1) a.g = J a.g + 1 := if_pos rfl
      rw [hJ]
      have hb := h.blk a ha
      refine ⟨?_, fun i b hb' => ?_⟩
      · obtain ⟨cs, hcs⟩ := hb.row
        exact ⟨_, set_at hcs⟩
      · obtain ⟨k, n, s, v, o, v', h1, h2, h3, h4, h5⟩ := hb.els i b hb'
        by_cases hij : i = J a.g
        · obtain rfl : z = b := by rw [← hij, hb'] at hi; exact (Option.some.inj hi).symm
          rw [← hij] at hi ⊢
          exact ⟨k, n, s, v, o, u, h1, h2, h3.set_eq hb.row u, fun _ => hu, fun hle => by omega⟩
        · exact ⟨k, n, s, v, o, v', h1, h2, h3.set_ne hb.row (fun e' => hij e'.symm), fun hlt => h4 (by omega), fun hle => h5 (by omega)⟩
    · have hJ : updK J y.g (J y.g + 1) a.g = J a.g := if_neg e
      rw [hJ]
      exact (h.blk a ha).kept (Below.heap_setCell _ _ _ _ (by have : C a.g ≠ C y.g := fun e' => e (h.inj a ha y hy e'); simpa using this))
end
end Tree
end Go.Proofs.YtmbmhblogjkflaaDoor
