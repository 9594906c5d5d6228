/-
  Contracts of the reference's Do: Put or Push of a key that is not there, where there is room. Conditions: the table is in order, and it has no more than a thousand entries.
-/
import Derived.Test.YtelgglnamojegaaDoFull
import Derived.Deep.RegionLaw
import Derived.BigRegion
import Derived.Deep.DeepCutAuto
namespace Go.Proofs.Ytelgglnamojegaa
open Go.ChangeShapes Go.WideShapes Go.ChangeAt Go.RowKit
set_option linter.unusedVariables false
open Ia (opBox)

/-- The table's block and the keys' row, once the key is appended. -/
structure RMid (X : World) (c : Nat) (vk' vv : Value) (most : Nat) (es : List (Int × ByteArray)) (k : Int) (Y : World) : Prop where
  tab : Y.heap[c]? = some (.cells #[vk', vv, .int .i64 most] 30 (0, 0))
  rk : Y.ownsRow X.heap.size 3 1 vk' (es.length + 1) (kcells es ++ [.int .i64 k])
  chg : Chg (fun k => k = c) X Y

theorem RMid.of {X Z : World} {c : Nat} {vk vk' vv : Value} {most : Nat} {es : List (Int × ByteArray)} {k : Int} (h : RTab X c vk vv most es) (hb : Below X.heap.size X Z) (hr : Z.ownsRow X.heap.size 3 1 vk' (es.length + 1) (kcells es ++ [.int .i64 k])) : RMid X c vk' vv most es k (Z.setCell ⟨c, 0, none⟩ vk') := by
  have hlt := h.lt
  have h1 := (hb.block c hlt).trans h.tab
  refine ⟨?_, ?_, ?_⟩
  · rw [set_block h1]; rfl
  · refine own_keep hr fun j hj => ?_
    have := (hr.lt j hj).1
    exact Below.heap_setCell _ _ _ _ (show j ≠ c by omega)
  · exact (Chg.of_below (S := fun k => k = c) hb).set (fun _ => rfl) 0 _

theorem RMid.fin {X Y Z : World} {c : Nat} {vk vk' vv vv' : Value} {most : Nat} {es : List (Int × ByteArray)} {k : Int} {y : ByteArray} (h : RTab X c vk vv most es) (hm : RMid X c vk' vv most es k Y) (hb : Below Y.heap.size Y Z) (hr : Z.ownsRow Y.heap.size 9 1 vv' (es.length + 1) (vcells es ++ [.string y])) :
    RAfter X c vk vv most (es ++ [(k, y)]) (Z.setCell ⟨c, 1, none⟩ vv') := by
  have hlt := h.lt
  have hz := hm.chg.size
  have h1 := (hb.block c (lt_of_block hm.tab)).trans hm.tab
  have hlen : (es ++ [(k, y)]).length = es.length + 1 := by simp
  refine ⟨vk', vv', ⟨?_, ?_, ?_, ?_, ?_, fun e => by simp at e⟩, ?_, ?_⟩
  · rw [set_block h1]; rfl
  · rw [hlen, show kcells (es ++ [(k, y)]) = kcells es ++ [.int .i64 k] by simp [kcells]]
    refine own_keep (own_base hm.rk (Nat.zero_le _)) fun j hj => ?_
    have := hm.rk.lt j hj
    rw [Below.heap_setCell _ _ _ _ (show j ≠ c by omega)]
    exact hb.block j this.2
  · rw [hlen, show vcells (es ++ [(k, y)]) = vcells es ++ [.string y] by simp [vcells]]
    refine own_keep (own_base hr (Nat.zero_le _)) fun j hj => ?_
    have := hr.lt j hj
    exact Below.heap_setCell _ _ _ _ (show j ≠ c by omega)
  · intro e
    have := hm.rk.lt c e
    omega
  · intro e
    have := hr.lt c e
    omega
  · rintro j (rfl | hj | hj)
    · exact .inl (.inl rfl)
    · have := hm.rk.lt j hj
      right; omega
    · have := hr.lt j hj
      right; omega
  · exact (hm.chg.trans (Chg.of_below (S := fun k => k = c) hb) (fun _ _ e => e)).set (fun _ => rfl) 1 _

theorem below_drewN' {n : Nat} {w w' : World} (h : Below n w w') (m : Nat) : Below n w (w'.drewN m) := ⟨h.os, h.tape, h.output, h.size, h.block⟩

theorem own_news {Y W : World} {g n cap : Nat} {e : TypeId} {xs : List Value} (h : Y.ownsRow 0 e 1 (.slice (some ⟨g, 0, none⟩) n cap) n xs) (hb : Below Y.heap.size Y W) : ∀ j u, xs[j]? = some u → W.cell? ((⟨g, 0, none⟩ : Addr).add j) = some u := by
  intro j u hu
  obtain ⟨A', cap', hv, hc⟩ := own_form h
  cases hv
  obtain ⟨g', e, hl, hcell⟩ := hc j u hu
  cases e
  rw [Addr.add_lit, Nat.zero_add]
  exact (hb.cell (p := ⟨g, j, none⟩) hl).trans hcell

theorem RMid.vrow {X Y : World} {c : Nat} {vk vk' vv : Value} {most : Nat} {es : List (Int × ByteArray)} {k : Int} (h : RTab X c vk vv most es) (hm : RMid X c vk' vv most es k Y) : Y.ownsRow 0 9 1 vv es.length (vcells es) :=
  own_keep h.rv fun j hj => hm.chg.block j (h.rv.lt j hj).2 (fun e => h.nv (by rw [← e]; exact hj))

theorem RMid.cell1 {X Y : World} {c : Nat} {vk' vv : Value} {most : Nat} {es : List (Int × ByteArray)} {k : Int} (hm : RMid X c vk' vv most es k Y) : Y.cell? ⟨c, 1, none⟩ = some vv := cell_of_row Y c 1 _ _ _ hm.tab

theorem chg_cell {X Y : World} {c b i : Nat} {u : Value} (h : Chg (fun k => k = c) X Y) (hc : X.cell? ⟨b, i, none⟩ = some u) (hne : b ≠ c) : Y.cell? ⟨b, i, none⟩ = some u :=
  (World.cell?_of_block (a := ⟨b, i, none⟩) (h.block b (lt_of_cell hc) hne)).trans hc

/-- What is left of Do's boxes, and what Do leaves. -/
theorem Out.end_ {w X Y : World} {c : Nat} {kind : Nat} {k : Int} {y : ByteArray} {vk vv : Value} {most : Nat} {es fs : List (Int × ByteArray)} (hlt : c < w.heap.size) (hb : Chg (fun k => k = c) ((w.alloc (opBox kind k y)).alloc (.cells told0 32)) X) (ho : ∀ j, Own3 c vk vv j → j < w.heap.size ∨ w.heap.size + 2 ≤ j) (ha : RAfter X c vk vv most fs Y) : Box w (fun k => k = c) Y := by
  refine Box.of (o := opBox kind k y) (by rintro _ rfl; exact hlt) ?_
  obtain ⟨_, _, _, _, ch⟩ := ha
  exact hb.trans ch (fun _ _ e => e)

theorem bl_alloc {X Z : World} {o : Obj} (h : Below X.heap.size X Z) : Below X.heap.size X (Z.alloc o) := h.alloc h.size o
theorem bl_drew {X Z : World} (h : Below X.heap.size X Z) : Below X.heap.size X Z.drew := h.drew
theorem bl_grown {X Z Z' : World} {row : Option Nat} (h : Below X.heap.size X Z) (hg : Z.grownBy Z' row) (hr : ∀ k, row = some k → X.heap.size ≤ k) : Below X.heap.size X Z' := h.grown hg h.size hr

theorem lit0 (X : World) (e : TypeId) : (X.alloc (.cells #[] e)).ownsRow X.heap.size e 1 (.slice (some ⟨X.heap.size, 0, none⟩) 0 0) 0 [] := World.ownsRow_lit (base := X.heap.size) (e := e) (size := 1) X #[] 0 (Nat.le_refl _) (by unfold maxLen; omega) rfl
theorem lit2 (X : World) (e : TypeId) (o : Obj) : ((X.alloc o).alloc (.cells #[] e)).ownsRow X.heap.size e 1 (.slice (some ⟨X.heap.size + 1, 0, none⟩) 0 0) 0 [] := by
  have h := lit0 (X.alloc o) e
  rw [World.size_alloc] at h
  exact own_base h (by omega)

/-- One cell in a block of its own, as a source of append. -/
theorem one_new {Z : World} {B : Nat} {u : Value} {e : TypeId} (h : Z.heap[B]? = some (.cells #[u] e (0, 0))) : ∀ j x, [u][j]? = some x → Z.cell? ((⟨B, 0, none⟩ : Addr).add j) = some x := World.news_of_block h

theorem kept_block {Z w1 : World} {row : Option Nat} {B : Nat} {cs : Array Value} {e : TypeId} (hg : Z.grownBy w1 row) (hz : Z.heap[B]? = some (.cells cs e (0, 0))) (hr : row ≠ some B) : w1.heap[B]? = some (.cells cs e (0, 0)) := (hg.block B (lt_of_block hz) (Ne.symm hr)).trans hz
theorem second_at (X : World) (o : Obj) (u : Value) (e : TypeId) : ((X.alloc o).alloc (.cells #[u] e)).heap[X.heap.size + 1]? = some (.cells #[u] e (0, 0)) := by
  have := heap_alloc_new (X.alloc o) (.cells #[u] e)
  rw [World.size_alloc] at this
  exact this
theorem first_at (X : World) (o : Obj) (u : Value) (e : TypeId) : ((X.alloc (.cells #[u] e)).alloc o).heap[X.heap.size]? = some (.cells #[u] e (0, 0)) := by
  rw [Below.heap_alloc _ _ _ (by simp)]
  exact heap_alloc_new X _

end Go.Proofs.Ytelgglnamojegaa
