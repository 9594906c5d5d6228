/-
  Contract of item.Build. Conditions: the item lies in memory, and its bytes are at most 70000.
-/
import Derived.Test.YtpmepnejjjlodaaPut
namespace Go.Proofs.Ytpmepnejjjlodaa
open Go.ChangeShapes Go.WideShapes Go.ChangeAt Go.RowKit
open Plain
set_option linter.unusedVariables false

theorem headOf_ne (m n : Nat) : headOf m n ≠ [] := by
  unfold headOf
  repeat' split
  all_goals simp

theorem bytesOf_ne (x : It) : bytesOf x ≠ [] := by
  obtain ⟨k, n, s, l, o⟩ := x
  simp only [bytesOf]
  split
  · exact headOf_ne _ _
  · split
    · intro h
      rw [List.append_eq_nil_iff] at h
      exact headOf_ne _ _ h.1
    · intro h
      rw [List.append_eq_nil_iff, List.append_eq_nil_iff] at h
      cases o
      · exact headOf_ne _ _ (by simpa using h.1.1)
      · simp at h

theorem valid_plain {x : It} {m : Nat} (h : validB x m = true) : plainB x = true := by
  rw [valid_deep] at h
  simp at h
  exact h.2

theorem put_new (w : World) (B : Nat) (hB : B ≤ w.heap.size) : Put B w.heap.size [] (w.alloc (.cells #[.pointer none, .slice none 0 0] 49)) (w.alloc (.cells #[.pointer none, .slice none 0 0] 49)) := by
  refine ⟨.inl ⟨hB, .slice none 0 0, heap_alloc_new w _, World.ownsRowF_nil _ _ _ _, by simp [Value.ownBlock]⟩, Below.refl _ _, Lib.OthersKept.refl _ _ _⟩

set_option maxHeartbeats 2000000 in
set_option maxRecDepth 100000 in
theorem build_yes (x : It) (w : World) (B : Nat) (v : Value) (hB : B ≤ w.heap.size) (hx : Lies w B x v) (hv : validB x 8 = true) (hN : (bytesOf x).length ≤ 70000) :
    Calls Try.prog 11 #[v] w fun e w' => e = .returned (.tuple #[.string ⟨(bytesOf x).toArray⟩, .int .i64 0]) ∧ Below w.heap.size w w' := by
  have hp := valid_plain hv
  have hne := bytesOf_ne x
  obtain ⟨A, cap, rfl, hf, he⟩ := hx.out
  have hc1 := fun W (h : Boxed w x (.slice A x.l.length cap) W) => right_any x W B _ (Nat.le_trans hB (Nat.le_of_lt h.lt)) (hx.keep (h.below.mono hB))
  rw [hv] at hc1
  have hc2 := fun (W : World) (b : Nat) (h : Put w.heap.size b [] W W) (hb : Below w.heap.size w W) => write_any x W w.heap.size b [] _ h ((hx.mono hB).keep hb) hp (by simpa using hN)
  simp only [itV, List.nil_append] at hc1 hc2
  have HC1 := Lib.hid hc1; clear hc1
  have HC2 := Lib.hid hc2; clear hc2
  clear he hf hx hv
  simp only [itV]
  go_enter Try.func11, Try.ntmps11
  go_wp2_with fail
  refine (HC1.out _ (Boxed.new w _ _)).mono ?_
  rintro e w1 ⟨rfl, hb1⟩
  have hbx := (Boxed.new w x (.slice A x.l.length cap)).next hb1
  have c0 := hbx.c0
  have c1 := hbx.c1
  have c2 := hbx.c2
  have c3 := hbx.c3
  have c4 := hbx.c4
  have hlt1 := hbx.lt
  have HB := Lib.hid hbx; clear hbx
  go_wp2_with fail
  refine (HC2.out _ _ (put_new w1 w.heap.size (Nat.le_of_lt HB.out.lt)) (HB.out.alloc _).below).mono ?_
  rintro e w2 ⟨rfl, hput⟩
  have HPUT := Lib.hid hput; clear hput
  go_wp2_with fail
  refine (builderString_any w.heap.size w1.heap.size (bytesOf x) _ HPUT.out.at_ hne).mono ?_
  rintro e w3 ⟨rfl, hb3⟩
  have hfin : Below w.heap.size w w3 := ((HB.out.alloc _).below.trans HPUT.out.below).trans hb3
  have HFIN := Lib.hid hfin; clear hfin
  go_wp2
  go_ret2
  exact ⟨rfl, HFIN.out⟩

set_option maxHeartbeats 2000000 in
set_option maxRecDepth 100000 in
theorem build_no (x : It) (w : World) (B : Nat) (v : Value) (hB : B ≤ w.heap.size) (hx : Lies w B x v) (hv : validB x 8 = false) :
    Calls Try.prog 11 #[v] w fun e w' => e = .returned (.tuple #[.string ⟨#[]⟩, .int .i64 1]) ∧ Below w.heap.size w w' := by
  obtain ⟨A, cap, rfl, hf, he⟩ := hx.out
  have hc1 := fun W (h : Boxed w x (.slice A x.l.length cap) W) => right_any x W B _ (Nat.le_trans hB (Nat.le_of_lt h.lt)) (hx.keep (h.below.mono hB))
  rw [hv] at hc1
  simp only [itV] at hc1
  have HC1 := Lib.hid hc1; clear hc1
  clear he hf hx hv
  simp only [itV]
  go_enter Try.func11, Try.ntmps11
  go_wp2_with fail
  refine (HC1.out _ (Boxed.new w _ _)).mono ?_
  rintro e w1 ⟨rfl, hb1⟩
  have hbx := (Boxed.new w x (.slice A x.l.length cap)).next hb1
  have HB := Lib.hid hbx; clear hbx
  go_wp2
  go_ret2
  exact ⟨rfl, HB.out.below⟩

end Go.Proofs.Ytpmepnejjjlodaa
