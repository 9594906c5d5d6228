/-
  What lies in memory once Do has overwritten its third box. Conditions: none.
-/
import Derived.Test.YtelgglnamojegaaDoMid
namespace Go.Proofs.Ytelgglnamojegaa
open Go.ChangeShapes Go.WideShapes Go.ChangeAt Go.RowKit
set_option linter.unusedVariables false
open Ia (opBox)

theorem Out.over {w X Y : World} {c n h1 : Nat} {kind : Nat} {k x : Int} {y : ByteArray} {p : Bool} (h : Out w c kind k y p X) (hz : h1 = w.heap.size + 2) (hY : Y = ((((X.drewN n).setCell ⟨h1, 0, none⟩ (.string ⟨#[]⟩)).setCell ⟨h1, 1, none⟩ (.int .i64 x)).setCell ⟨h1, 2, none⟩ (.bool true))) :
    Below ((w.alloc (opBox kind k y)).alloc (.cells told0 32)).heap.size ((w.alloc (opBox kind k y)).alloc (.cells told0 32)) Y ∧ Y.heap[w.heap.size + 2]? = some (.cells #[.string ⟨#[]⟩, .int .i64 x, .bool true] 32 (0, 0)) ∧ Box w (fun k => k = c) Y ∧
      Y.cell? ⟨w.heap.size, 1, none⟩ = some (.int .i64 k) ∧ Y.cell? ⟨w.heap.size, 2, none⟩ = some (.string y) := by
  subst hz
  have hb : Below (w.heap.size + 2) X Y := by
    rw [hY]
    exact (((below_drewN' (Below.refl _ _) n).setCell (p := ⟨w.heap.size + 2, 0, none⟩) (Nat.le_refl _) _).setCell (p := ⟨w.heap.size + 2, 1, none⟩) (Nat.le_refl _) _).setCell (p := ⟨w.heap.size + 2, 2, none⟩) (Nat.le_refl _) _
  have hbw : Below (w.heap.size + 2) ((w.alloc (opBox kind k y)).alloc (.cells told0 32)) Y := h.below.trans hb
  refine ⟨by simpa using hbw, ?_, ?_, ?_, ?_⟩
  · rw [hY]
    exact set_block (i := 2) (u := .bool true) (set_block (i := 1) (u := .int .i64 x) (set_block (w := X.drewN n) (i := 0) (u := .string ⟨#[]⟩) h.out))
  · exact Box.of (o := opBox kind k y) h.box.lt (Chg.of_below (by simpa using hbw))
  · exact (hb.cell (p := ⟨w.heap.size, 1, none⟩) (by dsimp only; omega)).trans h.o1
  · exact (hb.cell (p := ⟨w.heap.size, 2, none⟩) (by dsimp only; omega)).trans h.o2

end Go.Proofs.Ytelgglnamojegaa
