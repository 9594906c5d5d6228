/-
  Contracts of the reference's Do: Put or Push of a key that is not there, without room. Conditions: the table is in order, and it has no more than a thousand entries.
-/
import Derived.Test.YtelgglnamojegaaDoHit
import Derived.Deep.QuietTactic
import Derived.BigQuiet
namespace Go.Proofs.Ytelgglnamojegaa
open Go.ChangeShapes Go.WideShapes Go.ChangeAt Go.RowKit
set_option linter.unusedVariables false
open Ia (opBox)

/-- What lies in memory once Do has made its third box. -/
structure Out (w : World) (c : Nat) (kind : Nat) (k : Int) (y : ByteArray) (p : Bool) (X : World) : Prop where
  box : Box w (fun k => k = c) X
  o0 : X.cell? ⟨w.heap.size, 0, none⟩ = some (.int .u8 kind)
  o1 : X.cell? ⟨w.heap.size, 1, none⟩ = some (.int .i64 k)
  o2 : X.cell? ⟨w.heap.size, 2, none⟩ = some (.string y)
  out : X.heap[w.heap.size + 2]? = some (.cells #[.string ⟨#[]⟩, .int .i64 0, .bool p] 32 (0, 0))
  size : X.heap.size = w.heap.size + 3
  below : Below (w.heap.size + 2) ((w.alloc (opBox kind k y)).alloc (.cells told0 32)) X

theorem Out.of {w X Y : World} {c : Nat} {kind : Nat} {k : Int} {y : ByteArray} {p : Bool} (hc : c < w.heap.size) (h : (w.alloc (opBox kind k y)).alloc (.cells told0 32) = X) (hY : X.alloc (.cells #[.string ⟨#[]⟩, .int .i64 0, .bool p] 32) = Y) : Out w c kind k y p Y := by
  have hf := Front.of h
  have hz := hf.size
  have hb : Below X.heap.size X Y := by rw [← hY]; exact (Below.refl _ _).alloc (Nat.le_refl _) _
  have hbx : Below (w.heap.size + 2) ((w.alloc (opBox kind k y)).alloc (.cells told0 32)) Y := by rw [h, ← hz]; exact hb
  refine ⟨Box.of (o := opBox kind k y) (by rintro _ rfl; exact hc) (Chg.of_below (by simpa using hbx)), ?_, ?_, ?_, ?_, ?_, hbx⟩
  · exact (hb.cell (p := ⟨w.heap.size, 0, none⟩) (by dsimp only; omega)).trans hf.o0
  · exact (hb.cell (p := ⟨w.heap.size, 1, none⟩) (by dsimp only; omega)).trans hf.o1
  · exact (hb.cell (p := ⟨w.heap.size, 2, none⟩) (by dsimp only; omega)).trans hf.o2
  · rw [← hY, ← hz]; exact heap_alloc_new X _
  · rw [← hY]; simp [hz]

theorem Box.drewN {w X : World} {S : Nat → Prop} (h : Box w S X) (n : Nat) : Box w S (X.drewN n) := ⟨h.box, ⟨h.chg.os, h.chg.tape, h.chg.output, h.chg.size, h.chg.block⟩, h.lt⟩

theorem Out.tab {w X : World} {c : Nat} {kind : Nat} {k : Int} {y : ByteArray} {p : Bool} {vk vv : Value} {most : Nat} {es : List (Int × ByteArray)} (h : Out w c kind k y p X) (ht : RTab w c vk vv most es) : RTab X c vk vv most es :=
  (ht.boxes (opBox kind k y) (.cells told0 32)).below (by simpa using h.below)

theorem Out.fin {w X F : World} {c : Nat} {kind : Nat} {k : Int} {y : ByteArray} {p : Bool} {vk vv : Value} {most : Nat} {es : List (Int × ByteArray)} (h : Out w c kind k y p X) (ht : RTab w c vk vv most es) (hc : Chg (fun k => k = c) w F) (hk : ∀ k, k ≠ w.heap.size + 1 → F.heap[k]? = X.heap[k]?) : RAfter w c vk vv most es F :=
  RAfter.fin (o := opBox kind k y) (p := .cells told0 32) ht (RAfter.same (ht.boxes _ _) (by simpa using h.below)) hc hk

set_option maxHeartbeats 1000000 in
set_option maxRecDepth 100000 in
theorem do_put_full {w : World} {c : Nat} {vk vv : Value} {most : Nat} {es : List (Int × ByteArray)} (kind : Nat) (k : Int) (y : ByteArray) (h : RTab w c vk vv most es) (hk : (kind : Int) % 4 = 0) (hh : Miss es k) (hn : es.length ≤ 1000) (hfull : es.length = most) :
    Calls Try.prog 8 #[.pointer (some ⟨c, 0, none⟩), .agg #[.int .u8 kind, .int .i64 k, .string y]] w fun e w' => e = .returned (toldV ⟨#[]⟩ 0 false) ∧ RAfter w c vk vv most es w' := by
  have hlt := h.lt
  have hb := h.boxes (opBox kind k y) (.cells told0 32)
  obtain ⟨A, cap, rfl, hform⟩ := own_form h.rk
  clear hform
  have ha := at_miss c _ vv most es k _ hb hh hn
  have HA := Lib.hid ha; clear ha
  have HT := Lib.hid h; clear h
  clear hb hh
  rw [hfull] at HT ⊢
  have HU := Lib.hid hfull; clear hfull
  have hle : decide ((most : Int) ≤ (most : Int)) = true := by simp
  unfold opBox told0 at HA
  unfold toldV
  go_enter Try.func8, Try.ntmps8
  go_wp2_with fail
  refine HA.out.mono ?_
  rintro e w1 ⟨rfl, hX⟩
  have hfr := Front.of (kind := kind) (k := k) (y := y) hX
  have o0 := hfr.o0
  have o1 := hfr.o1
  have o2 := hfr.o2
  have hsz : w1.heap.size = w.heap.size + 2 := hfr.size
  have HSZ := Lib.hid hsz; clear hsz
  have hX' : (w.alloc (opBox kind k y)).alloc (.cells told0 32) = w1 := hX
  have HX := Lib.hid hX'; clear hX hX' hfr
  go_wp2
  generalize hY : w1.alloc _ = w2
  have hout := Out.of (c := c) hlt HX.out hY
  have ht := hout.tab HT.out
  have c0 := ht.cell0
  have c2 := ht.cell2
  obtain ⟨r0, r1, r2, fz⟩ := hout.box.cells
  have HO := Lib.hid hout; clear hout hY ht o0 o1 o2
  go_quiet (fail)
  go_wp2
  obtain ⟨⟨k0, k1, k2⟩, hch, hk⟩ := (HO.out.box.drewN nq).end_ (.string ⟨#[]⟩) (.int .i64 0) (.bool false) _ rfl
  refine bodyPost_ret (v := .agg #[.string ⟨#[]⟩, .int .i64 0, .bool false]) (by simp [results, Try.results8, go_sem, k0, k1, k2]) rfl ⟨rfl, HO.out.fin HT.out hch hk⟩

set_option maxHeartbeats 1000000 in
set_option maxRecDepth 100000 in
theorem do_push_zero {w : World} {c : Nat} {vk vv : Value} (kind : Nat) (k : Int) (y : ByteArray) (h : RTab w c vk vv 0 []) (hk : (kind : Int) % 4 = 3) :
    Calls Try.prog 8 #[.pointer (some ⟨c, 0, none⟩), .agg #[.int .u8 kind, .int .i64 k, .string y]] w fun e w' => e = .returned (toldV ⟨#[]⟩ 0 false) ∧ RAfter w c vk vv 0 [] w' := by
  have hlt := h.lt
  have hb := h.boxes (opBox kind k y) (.cells told0 32)
  obtain ⟨A, cap, rfl, hform⟩ := own_form h.rk
  clear hform
  have ha := at_miss c _ vv 0 [] k _ hb (by intro j e he; simp at he) (by simp)
  have HA := Lib.hid ha; clear ha
  have HT := Lib.hid h; clear h
  clear hb
  unfold opBox told0 at HA
  unfold toldV
  go_enter Try.func8, Try.ntmps8
  go_wp2_with fail
  refine HA.out.mono ?_
  rintro e w1 ⟨rfl, hX⟩
  have hfr := Front.of (kind := kind) (k := k) (y := y) hX
  have o0 := hfr.o0
  have o1 := hfr.o1
  have o2 := hfr.o2
  have hsz : w1.heap.size = w.heap.size + 2 := hfr.size
  have HSZ := Lib.hid hsz; clear hsz
  have hX' : (w.alloc (opBox kind k y)).alloc (.cells told0 32) = w1 := hX
  have HX := Lib.hid hX'; clear hX hX' hfr
  go_wp2
  generalize hY : w1.alloc _ = w2
  have hout := Out.of (c := c) hlt HX.out hY
  have ht := hout.tab HT.out
  have c0 := ht.cell0
  have c2 := ht.cell2
  obtain ⟨r0, r1, r2, fz⟩ := hout.box.cells
  have HO := Lib.hid hout; clear hout hY ht o0 o1 o2
  go_quiet (fail)
  go_wp2
  obtain ⟨⟨k0, k1, k2⟩, hch, hk⟩ := (HO.out.box.drewN nq).end_ (.string ⟨#[]⟩) (.int .i64 0) (.bool false) _ rfl
  refine bodyPost_ret (v := .agg #[.string ⟨#[]⟩, .int .i64 0, .bool false]) (by simp [results, Try.results8, go_sem, k0, k1, k2]) rfl ⟨rfl, HO.out.fin HT.out hch hk⟩

end Go.Proofs.Ytelgglnamojegaa
