/-
  The contract of the statement's own call on a reader. Conditions: the reader lies in one block, its text is no longer than memory allows, and its offset lies within it.
-/
import Derived.Test.YtkaeklcmhoidjaaU
namespace Go.Proofs.Ytkaeklcmhoidjaa
open Go.ChangeShapes Go.WideShapes Go.ChangeAt Go.RowKit
open Plain
set_option linter.unusedVariables false

theorem Ok.alloc {w : World} {b : Nat} {s : ByteArray} {p : Nat} {c : Int} (h : Ok w b s p c) (o : Obj) : Ok (w.alloc o) b s p c := ⟨h.rd.alloc o, h.fits, h.within⟩

/-- The zero of what a call tells. -/
def told0 : Array Value := #[.int .i64 0, .int .u64 0, .bool false, .string ⟨#[]⟩, .int .i64 0]

/-- The result's block behind a method of the reader. -/
structure Box (w : World) (b : Nat) (X : World) (s : ByteArray) (p : Nat) (c : Int) : Prop where
  box : X.heap[w.heap.size + 1]? = some (.cells told0 38 (0, 0))
  rd : Rd X b s p c
  only : Only b w X
  lt : b < w.heap.size
  size : w.heap.size + 1 < X.heap.size

section
variable {w X : World} {b : Nat} {s : ByteArray} {p : Nat} {c : Int}
theorem Box.of {o : Obj} (hlt : b < w.heap.size) (hrd : Rd X b s p c) (ho : Only b ((w.alloc o).alloc (.cells told0 38)) X) : Box w b X s p c := by
  have hz := ho.size
  rw [World.size_alloc, World.size_alloc] at hz
  refine ⟨?_, hrd, ?_, hlt, by omega⟩
  · rw [ho.block _ (by rw [World.size_alloc, World.size_alloc]; omega) (by omega)]
    have := heap_alloc_new (w.alloc o) (.cells told0 38)
    rw [World.size_alloc] at this
    exact this
  · exact ((Only.refl b w).alloc o |>.alloc _).trans ho

theorem Box.cells (h : Box w b X s p c) : X.cell? ⟨w.heap.size + 1, 0, none⟩ = some (.int .i64 0) ∧ X.cell? ⟨w.heap.size + 1, 1, none⟩ = some (.int .u64 0) ∧ X.cell? ⟨w.heap.size + 1, 2, none⟩ = some (.bool false) ∧
    X.cell? ⟨w.heap.size + 1, 3, none⟩ = some (.string ⟨#[]⟩) ∧ X.cell? ⟨w.heap.size + 1, 4, none⟩ = some (.int .i64 0) ∧ ∀ i, X.frozen? ⟨w.heap.size + 1, i, none⟩ = false :=
  ⟨cell_of_row X _ 0 _ _ _ h.box, cell_of_row X _ 1 _ _ _ h.box, cell_of_row X _ 2 _ _ _ h.box, cell_of_row X _ 3 _ _ _ h.box, cell_of_row X _ 4 _ _ _ h.box, free4 h.box⟩

theorem Only.far (h : Only b w X) {g : Nat} (hg : w.heap.size ≤ g) (i : Nat) (u : Value) : Only b w (X.setCell ⟨g, i, none⟩ u) :=
  ⟨h.os, h.tape, h.output, by rw [size_set]; exact h.size, fun k hk hkb => (Below.heap_setCell _ _ _ _ (by dsimp only; omega)).trans (h.block k hk hkb)⟩

/-- The result, stored. -/
theorem Box.end_ (h : Box w b X s p c) (v0 v1 v2 v3 v4 : Value) (F : World)
    (hF : F = (((((X.setCell ⟨w.heap.size + 1, 0, none⟩ v0).setCell ⟨w.heap.size + 1, 1, none⟩ v1).setCell ⟨w.heap.size + 1, 2, none⟩ v2).setCell ⟨w.heap.size + 1, 3, none⟩ v3).setCell ⟨w.heap.size + 1, 4, none⟩ v4)) :
    (F.cell? ⟨w.heap.size + 1, 0, none⟩ = some v0 ∧ F.cell? ⟨w.heap.size + 1, 1, none⟩ = some v1 ∧ F.cell? ⟨w.heap.size + 1, 2, none⟩ = some v2 ∧ F.cell? ⟨w.heap.size + 1, 3, none⟩ = some v3 ∧ F.cell? ⟨w.heap.size + 1, 4, none⟩ = some v4) ∧ Rd F b s p c ∧ Only b w F := by
  have hlt := h.lt
  have h1 : F.heap[w.heap.size + 1]? = some (.cells #[v0, v1, v2, v3, v4] 38 (0, 0)) := by rw [hF]; exact set5 _ _ _ _ _ h.box
  refine ⟨⟨cell_of_row F _ 0 _ _ _ h1, cell_of_row F _ 1 _ _ _ h1, cell_of_row F _ 2 _ _ _ h1, cell_of_row F _ 3 _ _ _ h1, cell_of_row F _ 4 _ _ _ h1⟩, ?_, ?_⟩
  · have hr := h.rd
    unfold Rd at hr ⊢
    rw [hF, Below.heap_setCell _ _ _ _ (by dsimp only; omega), Below.heap_setCell _ _ _ _ (by dsimp only; omega), Below.heap_setCell _ _ _ _ (by dsimp only; omega), Below.heap_setCell _ _ _ _ (by dsimp only; omega), Below.heap_setCell _ _ _ _ (by dsimp only; omega)]
    exact hr
  · have ho := h.only
    rw [hF]
    exact ((((ho.far (by omega) 0 v0).far (by omega) 1 v1).far (by omega) 2 v2).far (by omega) 3 v3).far (by omega) 4 v4
end

set_option maxHeartbeats 1000000 in
theorem call_0 {w : World} {b : Nat} {s : ByteArray} {p : Nat} {c : Int} (kind : Nat) (k : Int) (h : Ok w b s p c) (hk : (kind : Int) % 6 = 0) (hk1 : -9223372036854775808 ≤ k) (hk2 : k ≤ 9223372036854775807) :
    Calls Try.prog 20 #[.pointer (some ⟨b, 0, none⟩), .agg #[.int .u8 kind, .int .i64 k]] w fun e w' => e = .returned (stepOf s p c 0 k).1 ∧ Rd w' b s (stepOf s p c 0 k).2.1 (stepOf s p c 0 k).2.2 ∧ Only b w w' := by
  have hlt := h.rd.lt
  have hok := (h.alloc (.cells #[.int .u8 kind, .int .i64 k] 42)).alloc (.cells told0 38)
  have hct := readHead_any hok
  have HCT := Lib.hid hct; clear hct
  clear h hok
  unfold stepOf toldV
  generalize peekOf s p c = y at *
  go_enter Try.func20, Try.ntmps20
  go_wp2_with fail
  refine HCT.out.mono ?_
  rintro e w1 ⟨rfl, hrd, ho⟩
  have hbox := Box.of hlt hrd ho
  clear hrd ho
  obtain ⟨r0, r1, r2, r3, r4, fz⟩ := hbox.cells
  have HX := Lib.hid hbox; clear hbox
  go_wp2
  obtain ⟨⟨k0, k1, k2, k3, k4⟩, hfin⟩ := HX.out.end_ (.int .i64 y.1.major) (.int .u64 y.1.n) (.bool y.1.op) (.string ⟨#[]⟩) (.int .i64 0) _ rfl
  refine bodyPost_ret (v := .agg #[.int .i64 y.1.major, .int .u64 y.1.n, .bool y.1.op, .string ⟨#[]⟩, .int .i64 0]) (by simp [results, Try.results20, go_sem, k0, k1, k2, k3, k4]) rfl ⟨rfl, hfin⟩

set_option maxHeartbeats 1000000 in
theorem call_1 {w : World} {b : Nat} {s : ByteArray} {p : Nat} {c : Int} (kind : Nat) (k : Int) (h : Ok w b s p c) (hk : (kind : Int) % 6 = 1) (hk1 : -9223372036854775808 ≤ k) (hk2 : k ≤ 9223372036854775807) :
    Calls Try.prog 20 #[.pointer (some ⟨b, 0, none⟩), .agg #[.int .u8 kind, .int .i64 k]] w fun e w' => e = .returned (stepOf s p c 1 k).1 ∧ Rd w' b s (stepOf s p c 1 k).2.1 (stepOf s p c 1 k).2.2 ∧ Only b w w' := by
  have hlt := h.rd.lt
  have hok := (h.alloc (.cells #[.int .u8 kind, .int .i64 k] 42)).alloc (.cells told0 38)
  have hct := uint_any hok
  have HCT := Lib.hid hct; clear hct
  clear h hok
  unfold stepOf toldV
  generalize uintOf s p c = y at *
  go_enter Try.func20, Try.ntmps20
  go_wp2_with fail
  refine HCT.out.mono ?_
  rintro e w1 ⟨rfl, hrd, ho⟩
  have hbox := Box.of hlt hrd ho
  clear hrd ho
  obtain ⟨r0, r1, r2, r3, r4, fz⟩ := hbox.cells
  have HX := Lib.hid hbox; clear hbox
  go_wp2
  obtain ⟨⟨k0, k1, k2, k3, k4⟩, hfin⟩ := HX.out.end_ (.int .i64 0) (.int .u64 y.1) (.bool false) (.string ⟨#[]⟩) (.int .i64 0) _ rfl
  refine bodyPost_ret (v := .agg #[.int .i64 0, .int .u64 y.1, .bool false, .string ⟨#[]⟩, .int .i64 0]) (by simp [results, Try.results20, go_sem, k0, k1, k2, k3, k4]) rfl ⟨rfl, hfin⟩

set_option maxHeartbeats 1000000 in
theorem call_2 {w : World} {b : Nat} {s : ByteArray} {p : Nat} {c : Int} (kind : Nat) (k : Int) (h : Ok w b s p c) (hk : (kind : Int) % 6 = 2) (hk1 : -9223372036854775808 ≤ k) (hk2 : k ≤ 9223372036854775807) :
    Calls Try.prog 20 #[.pointer (some ⟨b, 0, none⟩), .agg #[.int .u8 kind, .int .i64 k]] w fun e w' => e = .returned (stepOf s p c 2 k).1 ∧ Rd w' b s (stepOf s p c 2 k).2.1 (stepOf s p c 2 k).2.2 ∧ Only b w w' := by
  have hlt := h.rd.lt
  have hok := (h.alloc (.cells #[.int .u8 kind, .int .i64 k] 42)).alloc (.cells told0 38)
  have hct := readBytes_any k hok hk1 hk2
  have HCT := Lib.hid hct; clear hct
  clear h hok
  unfold stepOf toldV
  generalize strOf s p c 2 k = y at *
  go_enter Try.func20, Try.ntmps20
  go_wp2_with fail
  refine HCT.out.mono ?_
  rintro e w1 ⟨rfl, hrd, ho⟩
  have hbox := Box.of hlt hrd ho
  clear hrd ho
  obtain ⟨r0, r1, r2, r3, r4, fz⟩ := hbox.cells
  have HX := Lib.hid hbox; clear hbox
  go_wp2
  obtain ⟨⟨k0, k1, k2, k3, k4⟩, hfin⟩ := HX.out.end_ (.int .i64 0) (.int .u64 0) (.bool false) (.string y.1) (.int .i64 0) _ rfl
  refine bodyPost_ret (v := .agg #[.int .i64 0, .int .u64 0, .bool false, .string y.1, .int .i64 0]) (by simp [results, Try.results20, go_sem, k0, k1, k2, k3, k4]) rfl ⟨rfl, hfin⟩

set_option maxHeartbeats 1000000 in
theorem call_3 {w : World} {b : Nat} {s : ByteArray} {p : Nat} {c : Int} (kind : Nat) (k : Int) (h : Ok w b s p c) (hk : (kind : Int) % 6 = 3) (hk1 : -9223372036854775808 ≤ k) (hk2 : k ≤ 9223372036854775807) :
    Calls Try.prog 20 #[.pointer (some ⟨b, 0, none⟩), .agg #[.int .u8 kind, .int .i64 k]] w fun e w' => e = .returned (stepOf s p c 3 k).1 ∧ Rd w' b s (stepOf s p c 3 k).2.1 (stepOf s p c 3 k).2.2 ∧ Only b w w' := by
  have hlt := h.rd.lt
  have hok := (h.alloc (.cells #[.int .u8 kind, .int .i64 k] 42)).alloc (.cells told0 38)
  have hct := readText_any k hok hk1 hk2
  have HCT := Lib.hid hct; clear hct
  clear h hok
  unfold stepOf toldV
  generalize strOf s p c 3 k = y at *
  go_enter Try.func20, Try.ntmps20
  go_wp2_with fail
  refine HCT.out.mono ?_
  rintro e w1 ⟨rfl, hrd, ho⟩
  have hbox := Box.of hlt hrd ho
  clear hrd ho
  obtain ⟨r0, r1, r2, r3, r4, fz⟩ := hbox.cells
  have HX := Lib.hid hbox; clear hbox
  go_wp2
  obtain ⟨⟨k0, k1, k2, k3, k4⟩, hfin⟩ := HX.out.end_ (.int .i64 0) (.int .u64 0) (.bool false) (.string y.1) (.int .i64 0) _ rfl
  refine bodyPost_ret (v := .agg #[.int .i64 0, .int .u64 0, .bool false, .string y.1, .int .i64 0]) (by simp [results, Try.results20, go_sem, k0, k1, k2, k3, k4]) rfl ⟨rfl, hfin⟩

set_option maxHeartbeats 1000000 in
theorem call_4 {w : World} {b : Nat} {s : ByteArray} {p : Nat} {c : Int} (kind : Nat) (k : Int) (h : Ok w b s p c) (hk : (kind : Int) % 6 = 4) (hk1 : -9223372036854775808 ≤ k) (hk2 : k ≤ 9223372036854775807) :
    Calls Try.prog 20 #[.pointer (some ⟨b, 0, none⟩), .agg #[.int .u8 kind, .int .i64 k]] w fun e w' => e = .returned (stepOf s p c 4 k).1 ∧ Rd w' b s (stepOf s p c 4 k).2.1 (stepOf s p c 4 k).2.2 ∧ Only b w w' := by
  have hlt := h.rd.lt
  have hok := (h.alloc (.cells #[.int .u8 kind, .int .i64 k] 42)).alloc (.cells told0 38)
  have hct := readArray_any hok
  have HCT := Lib.hid hct; clear hct
  clear h hok
  unfold stepOf toldV
  generalize arrOf s p c = y at *
  go_enter Try.func20, Try.ntmps20
  go_wp2_with fail
  refine HCT.out.mono ?_
  rintro e w1 ⟨rfl, hrd, ho⟩
  have hbox := Box.of hlt hrd ho
  clear hrd ho
  obtain ⟨r0, r1, r2, r3, r4, fz⟩ := hbox.cells
  have HX := Lib.hid hbox; clear hbox
  go_wp2
  obtain ⟨⟨k0, k1, k2, k3, k4⟩, hfin⟩ := HX.out.end_ (.int .i64 0) (.int .u64 0) (.bool false) (.string ⟨#[]⟩) (.int .i64 y.1) _ rfl
  refine bodyPost_ret (v := .agg #[.int .i64 0, .int .u64 0, .bool false, .string ⟨#[]⟩, .int .i64 y.1]) (by simp [results, Try.results20, go_sem, k0, k1, k2, k3, k4]) rfl ⟨rfl, hfin⟩

set_option maxHeartbeats 1000000 in
theorem call_5 {w : World} {b : Nat} {s : ByteArray} {p : Nat} {c : Int} (kind : Nat) (k : Int) (h : Ok w b s p c) (hk : (kind : Int) % 6 = 5) (hk1 : -9223372036854775808 ≤ k) (hk2 : k ≤ 9223372036854775807) :
    Calls Try.prog 20 #[.pointer (some ⟨b, 0, none⟩), .agg #[.int .u8 kind, .int .i64 k]] w fun e w' => e = .returned (stepOf s p c 5 k).1 ∧ Rd w' b s (stepOf s p c 5 k).2.1 (stepOf s p c 5 k).2.2 ∧ Only b w w' := by
  have hlt := h.rd.lt
  have hok := (h.alloc (.cells #[.int .u8 kind, .int .i64 k] 42)).alloc (.cells told0 38)
  have hct := fail_any 9 hok.rd
  have HCT := Lib.hid hct; clear hct
  clear h hok
  unfold stepOf toldV
  go_enter Try.func20, Try.ntmps20
  go_wp2_with fail
  refine HCT.out.mono ?_
  rintro e w1 ⟨rfl, hrd, ho⟩
  have hbox := Box.of hlt hrd ho
  clear hrd ho
  obtain ⟨r0, r1, r2, r3, r4, fz⟩ := hbox.cells
  have HX := Lib.hid hbox; clear hbox
  go_wp2
  obtain ⟨⟨k0, k1, k2, k3, k4⟩, hfin⟩ := HX.out.end_ (.int .i64 0) (.int .u64 0) (.bool false) (.string ⟨#[]⟩) (.int .i64 0) _ rfl
  refine bodyPost_ret (v := .agg #[.int .i64 0, .int .u64 0, .bool false, .string ⟨#[]⟩, .int .i64 0]) (by simp [results, Try.results20, go_sem, k0, k1, k2, k3, k4]) rfl ⟨rfl, hfin⟩

theorem call_any {w : World} {b : Nat} {s : ByteArray} {p : Nat} {c : Int} (kind : Nat) (k : Int) (h : Ok w b s p c) (hk1 : -9223372036854775808 ≤ k) (hk2 : k ≤ 9223372036854775807) :
    Calls Try.prog 20 #[.pointer (some ⟨b, 0, none⟩), .agg #[.int .u8 kind, .int .i64 k]] w fun e w' => e = .returned (stepOf s p c (kind % 6) k).1 ∧ Rd w' b s (stepOf s p c (kind % 6) k).2.1 (stepOf s p c (kind % 6) k).2.2 ∧ Only b w w' := by
  rcases j_cases kind with hj | hj | hj | hj | hj | hj
  · rw [hj]; exact call_0 kind k h (by omega) hk1 hk2
  · rw [hj]; exact call_1 kind k h (by omega) hk1 hk2
  · rw [hj]; exact call_2 kind k h (by omega) hk1 hk2
  · rw [hj]; exact call_3 kind k h (by omega) hk1 hk2
  · rw [hj]; exact call_4 kind k h (by omega) hk1 hk2
  · rw [hj]; exact call_5 kind k h (by omega) hk1 hk2

end Go.Proofs.Ytkaeklcmhoidjaa
