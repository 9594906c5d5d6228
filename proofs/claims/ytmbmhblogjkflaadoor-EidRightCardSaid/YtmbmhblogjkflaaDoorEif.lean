/-
  A name's block in memory. Conditions: none.
-/
import Derived.Test.YtmbmhblogjkflaaDoorEie
import Derived.Deep.RegionHeld3
import Derived.Deep.DeepCutAuto
namespace Go.Proofs.YtmbmhblogjkflaaDoor
namespace Eid
open Go.ChangeShapes Go.WideShapes Go.ChangeAt Go.RowKit
set_option linter.unusedVariables false
set_option maxRecDepth 100000

/-- A name's cells. -/
def eCells (e : Nm) : Array Value := #[.int .i64 e.scheme, .string e.name, .int .u64 (e.node : Nat), .int .u64 (e.service : Nat)]
def zeroE : Nm := ⟨0, ⟨#[]⟩, 0, 0⟩
/-- A name lies in a block. -/
def EB (X : World) (b : Nat) (e : Nm) : Prop := X.heap[b]? = some (.cells (eCells e) 24 (0, 0))
theorem EB.cells {X : World} {b : Nat} {e : Nm} (h : EB X b e) : X.cell? ⟨b, 0, none⟩ = some (.int .i64 e.scheme) ∧ X.cell? ⟨b, 1, none⟩ = some (.string e.name) ∧ X.cell? ⟨b, 2, none⟩ = some (.int .u64 (e.node : Nat)) ∧ X.cell? ⟨b, 3, none⟩ = some (.int .u64 (e.service : Nat)) :=
  ⟨cell_of_row X _ 0 _ _ _ h, cell_of_row X _ 1 _ _ _ h, cell_of_row X _ 2 _ _ _ h, cell_of_row X _ 3 _ _ _ h⟩
theorem EB.free {X : World} {b : Nat} {e : Nm} (h : EB X b e) (i : Nat) : X.frozen? ⟨b, i, none⟩ = false := by
  unfold EB at h
  simp [World.frozen?, h]
theorem EB.below {X Y : World} {b B : Nat} {e : Nm} (h : EB X b e) (hb : Below B X Y) (hB : b < B) : EB Y b e := (hb.block b hB).trans h
theorem EB.new (w : World) (e : Nm) : EB (w.alloc (.cells (eCells e) 24 (0, 0))) w.heap.size e := heap_alloc_new w _
theorem EB.alloc {X : World} {b : Nat} {e : Nm} (h : EB X b e) (o : Obj) : EB (X.alloc o) b e := by
  have hlt : b < X.heap.size := by
    rcases Nat.lt_or_ge b X.heap.size with h1 | h1
    · exact h1
    · unfold EB at h; rw [Array.getElem?_eq_none h1] at h; cases h
  exact h.below ((Below.refl X.heap.size X).alloc (Nat.le_refl _) o) hlt
theorem EB.lt {X : World} {b : Nat} {e : Nm} (h : EB X b e) : b < X.heap.size := by
  rcases Nat.lt_or_ge b X.heap.size with h1 | h1
  · exact h1
  · unfold EB at h; rw [Array.getElem?_eq_none h1] at h; cases h
theorem EB.set {X : World} {b : Nat} {e : Nm} (h : EB X b e) (f : Nm) : EB ((((X.setCell ⟨b, 0, none⟩ (.int .i64 f.scheme)).setCell ⟨b, 1, none⟩ (.string f.name)).setCell ⟨b, 2, none⟩ (.int .u64 (f.node : Nat))).setCell ⟨b, 3, none⟩ (.int .u64 (f.service : Nat))) b f := by
  unfold EB eCells at h ⊢
  simp [World.setCell, Array.getElem?_modify, h]
theorem EB.set_end {X : World} {b B : Nat} {e f : Nm} (h : EB X b e) (hB : B ≤ b) (F : World)
    (hF : ((((X.setCell ⟨b, 0, none⟩ (.int .i64 f.scheme)).setCell ⟨b, 1, none⟩ (.string f.name)).setCell ⟨b, 2, none⟩ (.int .u64 (f.node : Nat))).setCell ⟨b, 3, none⟩ (.int .u64 (f.service : Nat))) = F) : EB F b f ∧ Below B X F ∧ ∀ i, i ≠ b → F.heap[i]? = X.heap[i]? := by
  refine ⟨by rw [← hF]; exact h.set f, ?_, fun i hi => ?_⟩
  · rw [← hF]
    exact ((((Below.refl B X).setCell (p := ⟨b, 0, none⟩) hB _).setCell (p := ⟨b, 1, none⟩) hB _).setCell (p := ⟨b, 2, none⟩) hB _).setCell (p := ⟨b, 3, none⟩) hB _
  · rw [← hF, Below.heap_setCell _ _ _ _ (by dsimp only; omega), Below.heap_setCell _ _ _ _ (by dsimp only; omega), Below.heap_setCell _ _ _ _ (by dsimp only; omega), Below.heap_setCell _ _ _ _ (by dsimp only; omega)]

/-- Behind two boxes. -/
theorem EB.box2 (w : World) (e f : Nm) {w1 : World} (hb : Below ((w.alloc (.cells (eCells e) 24 (0, 0))).alloc (.cells (eCells f) 24 (0, 0))).heap.size ((w.alloc (.cells (eCells e) 24 (0, 0))).alloc (.cells (eCells f) 24 (0, 0))) w1) :
    EB w1 w.heap.size e ∧ EB w1 (w.heap.size + 1) f ∧ Below w.heap.size w w1 := by
  have h1 := EB.new w e
  have h2 := EB.new (w.alloc (.cells (eCells e) 24 (0, 0))) f
  rw [World.size_alloc] at h2
  exact ⟨(h1.alloc _).below hb (by simp; omega), h2.below hb (by simp), (((Below.refl w.heap.size w).alloc (Nat.le_refl _) _).alloc (by simp) _).trans (hb.mono (by simp; omega))⟩
theorem EB.box1 (w : World) (e : Nm) {w1 : World} (hb : Below (w.alloc (.cells (eCells e) 24 (0, 0))).heap.size (w.alloc (.cells (eCells e) 24 (0, 0))) w1) :
    EB w1 w.heap.size e ∧ Below w.heap.size w w1 :=
  ⟨(EB.new w e).below hb (by simp), ((Below.refl w.heap.size w).alloc (Nat.le_refl _) _).trans (hb.mono (by simp))⟩

theorem EB.set1 {X : World} {b : Nat} {e : Nm} (h : EB X b e) (n : ByteArray) : EB (X.setCell ⟨b, 1, none⟩ (.string n)) b ⟨e.scheme, n, e.node, e.service⟩ := by
  unfold EB eCells at h ⊢
  simp [World.setCell, Array.getElem?_modify, h]
theorem EB.set3 {X : World} {b : Nat} {e : Nm} (h : EB X b e) (n : Nat) : EB (X.setCell ⟨b, 3, none⟩ (.int .u64 (n : Nat))) b ⟨e.scheme, e.name, e.node, n⟩ := by
  unfold EB eCells at h ⊢
  simp [World.setCell, Array.getElem?_modify, h]
theorem EB.other {X : World} {b c : Nat} {e : Nm} (h : EB X b e) (hc : b ≠ c) (i : Nat) (v : Value) : EB (X.setCell ⟨c, i, none⟩ v) b e := by
  unfold EB at h ⊢
  rw [Below.heap_setCell _ _ _ _ hc, h]

end Eid
end Go.Proofs.YtmbmhblogjkflaaDoor
