/-
  Contract of dromondref02.Deep. Conditions: the item lies in memory.
-/
import Derived.Test.YtmbmhblogjkflaaDoorIt
namespace Go.Proofs.YtmbmhblogjkflaaDoor
open Go.ChangeShapes Go.WideShapes Go.ChangeAt Go.RowKit
open Plain
set_option linter.unusedVariables false

mutual
/-- How deep an item is, as far as so many levels are looked at. -/
def deepOf : It → Nat → Nat
  | .mk _ _ _ _ _, 0 => 1
  | .mk _ _ _ l _, m + 1 => deepL l m + 1
def deepL : List It → Nat → Nat
  | [], _ => 0
  | x :: r, m => max (deepOf x m) (deepL r m)
end

theorem deepOf_zero (x : It) : deepOf x 0 = 1 := by cases x; rfl
theorem deepOf_succ (x : It) (m : Nat) : deepOf x (m + 1) = deepL x.l m + 1 := by cases x; rfl
theorem deepL_append (a b : List It) (m : Nat) : deepL (a ++ b) m = max (deepL a m) (deepL b m) := by
  induction a with
  | nil => simp [deepL]
  | cons x r ih => simp only [List.cons_append, deepL, ih]; omega

theorem deepOf_le : ∀ (x : It) (m : Nat), deepOf x m ≤ m + 1 := by
  intro x
  induction x using It.ind with
  | h k n s l o ih =>
    intro m
    cases m with
    | zero => simp [deepOf]
    | succ m =>
      simp only [deepOf]
      have : deepL l m ≤ m + 1 := by
        clear k n s o
        induction l with
        | nil => simp [deepL]
        | cons x r ihr =>
          simp only [deepL]
          have h1 := ih x List.mem_cons_self m
          have h2 := ihr (fun y hy => ih y (List.mem_cons_of_mem _ hy))
          omega
      omega

theorem deepL_le (l : List It) (m : Nat) : deepL l m ≤ m + 1 := by
  induction l with
  | nil => simp [deepL]
  | cons x r ih => simp only [deepL]; have := deepOf_le x m; omega

theorem take_next {α : Type} {l : List α} {j : Nat} {y : α} (h : l[j]? = some y) : l.take (j + 1) = l.take j ++ [y] := by
  obtain ⟨hj, rfl⟩ := List.getElem?_eq_some_iff.1 h
  rw [List.take_add_one, List.getElem?_eq_getElem hj]
  rfl

/-- The item that a call has boxed. -/
def boxOf (x : It) (sl : Value) : Obj := .cells #[.int .i64 x.kind, .int .u64 x.n, .string x.s, sl, .bool x.opn] 29

/-- Behind the box. -/
structure Boxed (w : World) (x : It) (sl : Value) (wr : World) : Prop where
  box : wr.heap[w.heap.size]? = some (boxOf x sl)
  below : Below w.heap.size w wr

theorem Boxed.new (w : World) (x : It) (sl : Value) : Boxed w x sl (w.alloc (boxOf x sl)) := ⟨heap_alloc_new w _, (Below.refl _ _).alloc (Nat.le_refl _) _⟩

theorem Boxed.lt {w : World} {x : It} {sl : Value} {wr : World} (h : Boxed w x sl wr) : w.heap.size < wr.heap.size := by
  rcases Nat.lt_or_ge w.heap.size wr.heap.size with h1 | h1
  · exact h1
  · have := h.box
    rw [Array.getElem?_eq_none h1] at this
    cases this

theorem Boxed.next {w : World} {x : It} {sl : Value} {wr w' : World} (h : Boxed w x sl wr) (hb : Below wr.heap.size wr w') : Boxed w x sl w' :=
  ⟨(hb.block _ h.lt).trans h.box, h.below.trans (hb.mono (Nat.le_of_lt h.lt))⟩

theorem Boxed.alloc {w : World} {x : It} {sl : Value} {wr : World} (h : Boxed w x sl wr) (o : Obj) : Boxed w x sl (wr.alloc o) :=
  h.next ((Below.refl _ _).alloc (Nat.le_refl _) o)

theorem Boxed.drew {w : World} {x : It} {sl : Value} {wr : World} (h : Boxed w x sl wr) : Boxed w x sl wr.drew :=
  h.next (Below.refl _ _).drew

section
variable {w : World} {x : It} {sl : Value} {wr : World}
theorem Boxed.c0 (h : Boxed w x sl wr) : wr.cell? ⟨w.heap.size, 0, none⟩ = some (.int .i64 x.kind) := cell_of_row wr _ 0 _ _ _ h.box
theorem Boxed.c1 (h : Boxed w x sl wr) : wr.cell? ⟨w.heap.size, 1, none⟩ = some (.int .u64 x.n) := cell_of_row wr _ 1 _ _ _ h.box
theorem Boxed.c2 (h : Boxed w x sl wr) : wr.cell? ⟨w.heap.size, 2, none⟩ = some (.string x.s) := cell_of_row wr _ 2 _ _ _ h.box
theorem Boxed.c3 (h : Boxed w x sl wr) : wr.cell? ⟨w.heap.size, 3, none⟩ = some sl := cell_of_row wr _ 3 _ _ _ h.box
theorem Boxed.c4 (h : Boxed w x sl wr) : wr.cell? ⟨w.heap.size, 4, none⟩ = some (.bool x.opn) := cell_of_row wr _ 4 _ _ _ h.box
end

set_option maxHeartbeats 1000000 in
set_option maxRecDepth 100000 in
theorem deep_any (x : It) : ∀ (m : Nat) (w : World) (B : Nat) (v : Value), m ≤ 9 → B ≤ w.heap.size → Lies w B x v →
    Calls Tryd.prog 29 #[v, .int .i64 m] w fun e w' => e = .returned (.int .i64 (deepOf x m)) ∧ Below w.heap.size w w' := by
  induction x using It.ind with
  | h k n s l o ih =>
  intro m w B v hm hB hx
  have IH := Lib.hid ih; clear ih
  obtain ⟨A, cap, rfl, hf, he⟩ := hx.out
  have HE := Lib.hid he; clear he
  have HX := Lib.hid hx; clear hx
  have hll : l.length ≤ 140737488355328 := hf.l
  have HF := Lib.hid hf; clear hf
  simp only [itV, It.kind, It.n, It.s, It.l, It.opn]
  rcases m with _ | m
  · go_enter Tryd.func29, Tryd.ntmps29
    go_wp2
    go_ret
    rw [deepOf_zero]
    exact ⟨rfl, (Below.refl _ _).alloc (Nat.le_refl _) _⟩
  · have hlI : (l.length : Int) ≤ 140737488355328 := by omega
    have HL := Lib.hid hll; clear hll
    obtain ⟨M, hM⟩ : ∃ M : Nat, M = m + 1 := ⟨_, rfl⟩
    rw [← hM]
    have gm : decide ((M : Int) < 1) = false := by simp; omega
    have gm1 : (M : Int) - 1 = (m : Int) := by omega
    have HM := Lib.hid hM; clear hM
    go_enter Tryd.func29, Tryd.ntmps29
    go_wp2
    go_loopw [5, 6] (fun a i wr => ∃ j : Nat, j ≤ l.length ∧ i = .int .i64 j ∧ a = .int .i64 (deepL (l.take j) m) ∧ Boxed w (.mk k n s l o) (.slice A l.length cap) wr) (fun _ i _ => l.length - (intOf i).toNat)
    case atStart => exact ⟨0, Nat.zero_le _, rfl, rfl, Boxed.new w _ _⟩
    case round =>
      obtain ⟨j, hj, rfl, rfl, hbx⟩ := hrel
      have c3 := hbx.c3
      by_cases hlt : j < l.length
      · obtain ⟨b, off, sl, rfl, hb, h5, hy⟩ := HE.out j _ (List.getElem?_eq_getElem hlt)
        have hd := deepOf_le l[j] m
        have hd2 := deepL_le (l.take j) m
        have hnext : deepL (l.take (j + 1)) m = max (deepL (l.take j) m) (deepOf l[j] m) := by
          rw [take_next (List.getElem?_eq_getElem hlt), deepL_append]
          simp [deepL]
        have hcall := fun W (h : Boxed w (.mk k n s l o) (.slice (some ⟨b, off, none⟩) l.length cap) W) => IH.out l[j] (List.getElem_mem hlt) m W B (itV l[j] sl) (by omega) (Nat.le_trans hB (Nat.le_of_lt h.lt)) (hy.keep (h.below.mono hB))
        have a5 := h5.below (hbx.below.mono hB) hb
        have l0 := a5.c0
        have l1 := a5.c1
        have l2 := a5.c2
        have l3 := a5.c3
        have l4 := a5.c4
        generalize l[j] = y at *
        generalize hq : deepL (l.take j) m = q at *
        generalize hp : deepOf y m = p at *
        have HQ := Lib.hid hq; clear hq
        have HP := Lib.hid hp; clear hp
        have HN := Lib.hid hnext; clear hnext
        have HC := Lib.hid hcall; clear hcall
        have HB := Lib.hid hbx; clear hbx
        simp only [itV] at HC
        clear a5 h5 hy
        go_wp2_with fail
        refine (HC.out _ HB.out).mono ?_
        rintro e w' ⟨rfl, hb'⟩
        by_cases hqp : q < p
        · have hmax : max q p = p := by omega
          have HX := Lib.hid hmax; clear hmax
          go_wp2
          go_roundw
          case rel =>
            refine ⟨j + 1, by omega, by go_num, ?_, HB.out.next hb'⟩
            rw [HN.out, HX.out]
          case measure => simp [intOf]; omega
        · have hmax : max q p = q := by omega
          have HX := Lib.hid hmax; clear hmax
          go_wp2
          go_roundw
          case rel =>
            refine ⟨j + 1, by omega, by go_num, ?_, HB.out.next hb'⟩
            rw [HN.out, HX.out]
          case measure => simp [intOf]; omega
      · obtain rfl : j = l.length := by omega
        have hd2 := deepL_le (l.take l.length) m
        rw [List.take_length] at *
        go_wp2
        go_ret
        refine ⟨?_, hbx.below⟩
        rw [HM.out, deepOf_succ]
        rfl

end Go.Proofs.YtmbmhblogjkflaaDoor
