/-
  The item of a name; contracts of eid.isPair, isNumber, isText. Conditions: the item lies in memory.
-/
import Derived.Test.YtmbmhblogjkflaaDoorEie
import Derived.Test.YtmbmhblogjkflaaDoorValid
namespace Go.Proofs.YtmbmhblogjkflaaDoor
namespace Eid
open Go.ChangeShapes Go.WideShapes Go.ChangeAt Go.RowKit
set_option linter.unusedVariables false
set_option maxRecDepth 100000

def numI (n : Nat) : It := .mk 0 n ⟨#[]⟩ [] false
def textI (s : ByteArray) : It := .mk 3 0 s [] false
def pairI (a b : It) : It := .mk 4 0 ⟨#[]⟩ [a, b] false
def partI (e : Nm) : It := if e.scheme = 2 then pairI (numI e.node) (numI e.service) else if e.name = noneB then numI 0 else textI e.name
/-- A name's item. -/
def itE (e : Nm) : It := pairI (numI e.scheme.toNat) (partI e)

def isPairI (x : It) : Prop := x.kind = 4 ∧ x.l.length = 2 ∧ x.opn = false ∧ x.n = 0 ∧ x.s = ⟨#[]⟩
def isNumI (x : It) : Prop := x = numI x.n
def isTextI (x : It) : Prop := x = textI x.s
theorem empty_nil (s : ByteArray) : s.toList = [] ↔ s = ⟨#[]⟩ := by
  constructor
  · intro h
    rw [ByteArray.toList_eq] at h
    exact ByteArray.ext (Array.toList_eq_nil_iff.1 h)
  · rintro rfl
    rw [ByteArray.toList_eq]
theorem isPair_of {x : It} (h : isPairI x) : ∃ a b, x = pairI a b := by
  obtain ⟨k, n, s, l, o⟩ := x
  obtain ⟨h1, h2, h3, h4, h5⟩ := h
  simp only [It.kind, It.l, It.opn, It.n, It.s] at h1 h2 h3 h4 h5
  obtain ⟨a, b, rfl⟩ : ∃ a b, l = [a, b] := by
    match l, h2 with
    | [a, b], _ => exact ⟨a, b, rfl⟩
  exact ⟨a, b, by rw [h1, h3, h4, h5]; rfl⟩
theorem pair_is (a b : It) : isPairI (pairI a b) := ⟨rfl, rfl, rfl, rfl, rfl⟩
theorem num_valid (x : It) : (decide (x.kind = 0) && validB x 8) = true ↔ isNumI x := by
  obtain ⟨k, n, s, l, o⟩ := x
  unfold isNumI numI
  simp only [It.kind, It.n, Bool.and_eq_true, It.mk.injEq, true_and]
  constructor
  · rintro ⟨h0, h⟩
    obtain rfl := of_decide_eq_true h0
    simp [validB, topB] at h
    obtain ⟨⟨⟨h1, h2⟩, h3⟩, -⟩ := h
    exact ⟨rfl, (empty_nil s).1 h1, h2, h3⟩
  · rintro ⟨rfl, rfl, rfl, rfl⟩
    refine ⟨rfl, ?_⟩
    simp [validB, topB, validL, (empty_nil ⟨#[]⟩).2 rfl]
theorem text_valid (x : It) : (decide (x.kind = 3) && validB x 8) = true ↔ isTextI x := by
  obtain ⟨k, n, s, l, o⟩ := x
  unfold isTextI textI
  simp only [It.kind, It.s, Bool.and_eq_true, It.mk.injEq]
  constructor
  · rintro ⟨h0, h⟩
    obtain rfl := of_decide_eq_true h0
    simp [validB, topB] at h
    obtain ⟨⟨⟨h1, h2⟩, h3⟩, -⟩ := h
    exact ⟨rfl, h1, trivial, h2, h3⟩
  · rintro ⟨rfl, rfl, -, rfl, rfl⟩
    refine ⟨rfl, ?_⟩
    simp [validB, topB, validL]

set_option maxHeartbeats 4000000 in
theorem isPair_by (k : Int) (n : Nat) (s : ByteArray) (A : Option Addr) (len cap : Nat) (o : Bool) (w : World) :
    Calls Tryd.prog 32 #[.agg #[.int .i64 k, .int .u64 n, .string s, .slice A len cap, .bool o]] w fun e w' => e = .returned (.bool (decide (k = 4) && decide (len = 2) && !o && decide (n = 0) && decide (s = ⟨#[]⟩))) ∧ Below w.heap.size w w' := by
  have hbl := fun o : Obj => (Below.refl w.heap.size w).alloc (Nat.le_refl _) o
  have HBL := Lib.hid hbl; clear hbl
  by_cases h1 : k = 4
  · subst h1
    by_cases h2 : len = 2
    · subst h2
      cases o with
      | true =>
        go_enter Tryd.func32, Tryd.ntmps32
        go_wp2
        go_ret
        exact ⟨rfl, HBL.out _⟩
      | false =>
        by_cases h3 : n = 0
        · subst h3
          by_cases h4 : s = ⟨#[]⟩
          · subst h4
            go_enter Tryd.func32, Tryd.ntmps32
            go_wp2
            go_ret
            exact ⟨rfl, HBL.out _⟩
          · have q2 : ¬ s.toList = [] := fun h => h4 ((empty_nil s).1 h)
            have q1 : s.toList.isEmpty = false := by
              cases h : s.toList with
              | nil => exact absurd h q2
              | cons a l => rfl
            have q3 : decide (s = ⟨#[]⟩) = false := decide_eq_false h4
            have HQ := Lib.hid q3; clear q3
            go_enter Tryd.func32, Tryd.ntmps32
            go_wp2
            go_ret
            exact ⟨by rw [HQ.out]; rfl, HBL.out _⟩
        · have q1 : decide ((n : Int) = 0) = false := by simp; omega
          have q2 : ((n : Int) == 0) = false := by simp; omega
          have q3 : decide (n = 0) = false := decide_eq_false h3
          have HQ := Lib.hid q3; clear q3
          go_enter Tryd.func32, Tryd.ntmps32
          go_wp2
          go_ret
          exact ⟨by rw [HQ.out]; rfl, HBL.out _⟩
    · have q1 : decide ((len : Int) = 2) = false := by simp; omega
      have q2 : ((len : Int) == 2) = false := by simp; omega
      have q3 : decide (len = 2) = false := decide_eq_false h2
      have HQ := Lib.hid q3; clear q3
      go_enter Tryd.func32, Tryd.ntmps32
      go_wp2
      go_ret
      exact ⟨by rw [HQ.out]; rfl, HBL.out _⟩
  · have q3 : decide (k = 4) = false := decide_eq_false h1
    have q2 : (k == 4) = false := by simpa using h1
    have HQ := Lib.hid q3
    go_enter Tryd.func32, Tryd.ntmps32
    go_wp2
    go_ret
    exact ⟨by rw [HQ.out]; rfl, HBL.out _⟩

theorem isPair_any (x : It) (b : Bool) (hb : b = true ↔ isPairI x) (A : Option Addr) (cap : Nat) (w : World) :
    Calls Tryd.prog 32 #[itV x (.slice A x.l.length cap)] w fun e w' => e = .returned (.bool b) ∧ Below w.heap.size w w' := by
  refine (isPair_by x.kind x.n x.s A x.l.length cap x.opn w).mono ?_
  rintro e w' ⟨rfl, h⟩
  refine ⟨?_, h⟩
  rw [Ending.returned.injEq, Value.bool.injEq, Bool.eq_iff_iff, hb]
  unfold isPairI
  simp only [Bool.and_eq_true, decide_eq_true_eq, Bool.not_eq_true', and_assoc]

/-- A kind is asked first. -/
theorem isNumber_any (x : It) (b : Bool) (hb : b = true ↔ isNumI x) (w : World) (B : Nat) (v : Value) (hB : B ≤ w.heap.size) (hx : Lies w B x v) :
    Calls Tryd.prog 33 #[v] w fun e w' => e = .returned (.bool b) ∧ Below w.heap.size w w' := by
  rw [← num_valid] at hb
  obtain ⟨A, cap, rfl, hf, he⟩ := hx.out
  have hc := fun W (h : Boxed w x (.slice A x.l.length cap) W) => right_any x W B _ (Nat.le_trans hB (Nat.le_of_lt h.lt)) (hx.keep (h.below.mono hB))
  have HC := Lib.hid hc; clear hc he
  obtain ⟨k, n, s, l, o⟩ := x
  simp only [itV, It.kind, It.n, It.s, It.l, It.opn] at *
  by_cases h0 : k = 0
  · subst h0
    have hbv : b = validB (.mk 0 n s l o) 8 := by rw [Bool.eq_iff_iff, hb]; simp
    generalize validB (.mk 0 n s l o) 8 = r at *
    subst hbv
    have hnew := Boxed.new w (.mk 0 n s l o) (.slice A l.length cap)
    have HN := Lib.hid hnew; clear hnew hb
    go_enter Tryd.func33, Tryd.ntmps33
    go_wp2_with fail
    refine (HC.out _ HN.out).mono ?_
    rintro e w' ⟨rfl, hb⟩
    have HW := Lib.hid (HN.out.next hb).below; clear hb
    go_wp2
    go_ret
    exact ⟨rfl, HW.out⟩
  · have q1 : (k == 0) = false := by simpa using h0
    have q2 : decide (k = 0) = false := decide_eq_false h0
    have hbv : b = false := by rw [Bool.eq_iff_iff, hb]; simp [h0]
    subst hbv
    clear hb HC
    go_enter Tryd.func33, Tryd.ntmps33
    go_wp2
    go_ret
    exact ⟨rfl, (Below.refl _ _).alloc (Nat.le_refl _) _⟩

theorem isText_any (x : It) (b : Bool) (hb : b = true ↔ isTextI x) (w : World) (B : Nat) (v : Value) (hB : B ≤ w.heap.size) (hx : Lies w B x v) :
    Calls Tryd.prog 43 #[v] w fun e w' => e = .returned (.bool b) ∧ Below w.heap.size w w' := by
  rw [← text_valid] at hb
  obtain ⟨A, cap, rfl, hf, he⟩ := hx.out
  have hc := fun W (h : Boxed w x (.slice A x.l.length cap) W) => right_any x W B _ (Nat.le_trans hB (Nat.le_of_lt h.lt)) (hx.keep (h.below.mono hB))
  have HC := Lib.hid hc; clear hc he
  obtain ⟨k, n, s, l, o⟩ := x
  simp only [itV, It.kind, It.n, It.s, It.l, It.opn] at *
  by_cases h0 : k = 3
  · subst h0
    have hbv : b = validB (.mk 3 n s l o) 8 := by rw [Bool.eq_iff_iff, hb]; simp
    generalize validB (.mk 3 n s l o) 8 = r at *
    subst hbv
    have hnew := Boxed.new w (.mk 3 n s l o) (.slice A l.length cap)
    have HN := Lib.hid hnew; clear hnew hb
    go_enter Tryd.func43, Tryd.ntmps43
    go_wp2_with fail
    refine (HC.out _ HN.out).mono ?_
    rintro e w' ⟨rfl, hb⟩
    have HW := Lib.hid (HN.out.next hb).below; clear hb
    go_wp2
    go_ret
    exact ⟨rfl, HW.out⟩
  · have q1 : (k == 3) = false := by simpa using h0
    have q2 : decide (k = 3) = false := decide_eq_false h0
    have hbv : b = false := by rw [Bool.eq_iff_iff, hb]; simp [h0]
    subst hbv
    clear hb HC
    go_enter Tryd.func43, Tryd.ntmps43
    go_wp2
    go_ret
    exact ⟨rfl, (Below.refl _ _).alloc (Nat.le_refl _) _⟩
end Eid
end Go.Proofs.YtmbmhblogjkflaaDoor
