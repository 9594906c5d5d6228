/-
  Contracts of the reference's Do: Get, Drop, and Put or Push of a key that is there. Conditions: the table is in order, and it has no more than a thousand entries.
-/
import Derived.Test.YtelgglnamojegaaCall
namespace Go.Proofs.Ytelgglnamojegaa
open Go.ChangeShapes Go.WideShapes Go.ChangeAt Go.RowKit
set_option linter.unusedVariables false

/-- From behind the boxes to behind the call. -/
theorem RAfter.fin {w X F : World} {c : Nat} {vk vv : Value} {most : Nat} {es fs : List (Int × ByteArray)} {o p : Obj} (h : RTab w c vk vv most es) (ha : RAfter ((w.alloc o).alloc p) c vk vv most fs X) (hc : Chg (fun k => k = c) w F) (hk : ∀ k, k ≠ w.heap.size + 1 → F.heap[k]? = X.heap[k]?) : RAfter w c vk vv most fs F := by
  obtain ⟨vk', vv', t, ow, _⟩ := ha
  have hz : ((w.alloc o).alloc p).heap.size = w.heap.size + 2 := by simp
  refine ⟨vk', vv', t.keep fun k hk' => hk k ?_, fun k hk' => ?_, hc⟩
  · rcases ow k hk' with h' | h'
    · have := h.own_lt k h'; omega
    · omega
  · rcases ow k hk' with h' | h'
    · exact .inl h'
    · right; omega

theorem RTab.boxes {w : World} {c : Nat} {vk vv : Value} {most : Nat} {es : List (Int × ByteArray)} (h : RTab w c vk vv most es) (o p : Obj) : RTab ((w.alloc o).alloc p) c vk vv most es :=
  h.below (((Below.refl _ _).alloc (Nat.le_refl _) _).alloc (by simp) _)

open Ia (opBox)

set_option maxHeartbeats 1000000 in
set_option maxRecDepth 100000 in
theorem do_get_hit {w : World} {c : Nat} {vk vv : Value} {most : Nat} {es : List (Int × ByteArray)} (kind : Nat) (k : Int) (y z : ByteArray) (i : Nat) (h : RTab w c vk vv most es) (hk : (kind : Int) % 4 = 1) (hh : Hit es k i) (hz : es[i]? = some (k, z)) (hn : es.length ≤ 1000) :
    Calls Try.prog 8 #[.pointer (some ⟨c, 0, none⟩), .agg #[.int .u8 kind, .int .i64 k, .string y]] w fun e w' => e = .returned (toldV z 0 true) ∧ RAfter w c vk vv most es w' := by
  have hlt := h.lt
  have hi := hh.lt
  have hb := h.boxes (opBox kind k y) (.cells told0 32)
  obtain ⟨B, cap', rfl, _⟩ := own_form h.rv
  have ha := at_hit c vk _ most es k i _ hb hh hn
  have c1 := hb.cell1
  obtain ⟨gv, rfl, hgv, cv⟩ := hb.vcell hz
  have HA := Lib.hid ha; clear ha
  have HT := Lib.hid h; clear h
  clear hh hz hb
  have hii : (i : Int) < (es.length : Int) := by omega
  have hig : decide ((i : Int) < 0) = false := by simp
  generalize hN : es.length = n at *
  have HN := Lib.hid hN; clear hN
  unfold opBox told0 at HA c1 cv
  unfold toldV
  go_enter Try.func8, Try.ntmps8
  go_wp2_with fail
  refine HA.out.mono ?_
  rintro e w1 ⟨rfl, rfl⟩
  go_wp2
  refine bodyPost_ret (v := .agg #[.string z, .int .i64 0, .bool true]) (by simp [results, Try.results8, go_sem]) rfl ⟨rfl, RAfter.same HT.out (((Below.refl _ _).alloc (Nat.le_refl _) _).alloc (by simp) _)⟩

set_option maxHeartbeats 1000000 in
set_option maxRecDepth 100000 in
theorem do_miss_zero {w : World} {c : Nat} {vk vv : Value} {most : Nat} {es : List (Int × ByteArray)} (kind : Nat) (k : Int) (y : ByteArray) (h : RTab w c vk vv most es) (hk : (kind : Int) % 4 = 1 ∨ (kind : Int) % 4 = 2) (hh : Miss es k) (hn : es.length ≤ 1000) :
    Calls Try.prog 8 #[.pointer (some ⟨c, 0, none⟩), .agg #[.int .u8 kind, .int .i64 k, .string y]] w fun e w' => e = .returned (toldV ⟨#[]⟩ 0 false) ∧ RAfter w c vk vv most es w' := by
  have hlt := h.lt
  have hb := h.boxes (opBox kind k y) (.cells told0 32)
  have ha := at_miss c vk _ most es k _ hb hh hn
  have HA := Lib.hid ha; clear ha
  have HT := Lib.hid h; clear h
  clear hh hb
  unfold opBox told0 at HA
  unfold toldV
  rcases hk with hk | hk
  · go_enter Try.func8, Try.ntmps8
    go_wp2_with fail
    refine HA.out.mono ?_
    rintro e w1 ⟨rfl, rfl⟩
    go_wp2
    refine bodyPost_ret (v := .agg #[.string ⟨#[]⟩, .int .i64 0, .bool false]) (by simp [results, Try.results8, go_sem]) rfl ⟨rfl, RAfter.same HT.out (((Below.refl _ _).alloc (Nat.le_refl _) _).alloc (by simp) _)⟩
  · go_enter Try.func8, Try.ntmps8
    go_wp2_with fail
    refine HA.out.mono ?_
    rintro e w1 ⟨rfl, rfl⟩
    go_wp2
    refine bodyPost_ret (v := .agg #[.string ⟨#[]⟩, .int .i64 0, .bool false]) (by simp [results, Try.results8, go_sem]) rfl ⟨rfl, RAfter.same HT.out (((Below.refl _ _).alloc (Nat.le_refl _) _).alloc (by simp) _)⟩

set_option maxHeartbeats 1000000 in
set_option maxRecDepth 100000 in
theorem do_drop_hit {w : World} {c : Nat} {vk vv : Value} {most : Nat} {es : List (Int × ByteArray)} (kind : Nat) (k : Int) (y : ByteArray) (i : Nat) (h : RTab w c vk vv most es) (hk : (kind : Int) % 4 = 2) (hh : Hit es k i) (hn : es.length ≤ 1000) :
    Calls Try.prog 8 #[.pointer (some ⟨c, 0, none⟩), .agg #[.int .u8 kind, .int .i64 k, .string y]] w fun e w' => e = .returned (toldV ⟨#[]⟩ 0 true) ∧ RAfter w c vk vv most (es.eraseIdx i) w' := by
  have hlt := h.lt
  have hi := hh.lt
  have hb := h.boxes (opBox kind k y) (.cells told0 32)
  have ha := at_hit c vk _ most es k i _ hb hh hn
  have hd := rdrop_any c vk vv most es i _ hb hi hn
  have HA := Lib.hid ha; clear ha
  have HD := Lib.hid hd; clear hd
  have HT := Lib.hid h; clear h
  clear hh hb
  have hig : decide ((i : Int) < 0) = false := by simp
  unfold opBox told0 at HA HD
  unfold toldV
  go_enter Try.func8, Try.ntmps8
  go_wp2_with fail
  refine HA.out.mono ?_
  rintro e w1 ⟨rfl, rfl⟩
  go_wp2_with fail
  refine HD.out.mono ?_
  rintro e w1 ⟨rfl, ha⟩
  have hbox := Box.of (o := opBox kind k y) (w := w) (S := fun k => k = c) (by rintro _ rfl; exact hlt) (X := w1) (by obtain ⟨vk', vv', t, ow, ch⟩ := ha; exact ch)
  obtain ⟨r0, r1, r2, fz⟩ := hbox.cells
  have HAF := Lib.hid ha; clear ha
  have HX := Lib.hid hbox; clear hbox
  go_wp2
  obtain ⟨⟨k0, k1, k2⟩, hch, hk⟩ := HX.out.end_ (.string ⟨#[]⟩) (.int .i64 0) (.bool true) _ rfl
  refine bodyPost_ret (v := .agg #[.string ⟨#[]⟩, .int .i64 0, .bool true]) (by simp [results, Try.results8, go_sem, k0, k1, k2]) rfl ⟨rfl, RAfter.fin HT.out HAF.out hch hk⟩

end Go.Proofs.Ytelgglnamojegaa
