/-
  The walk of ItemBuilds. Conditions: the item lies in memory.
-/
import Derived.Test.YtpmepnejjjlodaaParse
namespace Go.Proofs.Ytpmepnejjjlodaa
open Go.ChangeShapes Go.WideShapes Go.ChangeAt Go.RowKit
open Plain
set_option linter.unusedVariables false

theorem parse_back {x : It} (hf : AllFit x) (hv : validB x 8 = true) : parseOf (bytesOf x) = (x, -1, 0) := by
  have h := read_back x 8 [] hf hv
  rw [List.append_nil] at h
  unfold parseOf
  rw [h]
  simp

theorem parse_bytes (x : It) (hf : AllFit x) (hv : validB x 8 = true) (hl : (bytesOf x).length ≤ 70000) (w : World) :
    Calls Try.prog 14 #[.string ⟨(bytesOf x).toArray⟩] w fun e w' => ∃ A cap, e = .returned (.tuple #[itV x (.slice A x.l.length cap), .int .i64 (-1), .int .i64 0]) ∧ Lies w' w'.heap.size x (itV x (.slice A x.l.length cap)) ∧ Below w.heap.size w w' := by
  have hsz : (⟨(bytesOf x).toArray⟩ : ByteArray).size = (bytesOf x).length := by show (bytesOf x).toArray.size = _; simp
  refine (parse_all ⟨(bytesOf x).toArray⟩ w (by rw [hsz]; omega)).mono ?_
  rintro e w' ⟨v, he, hl', hb⟩
  have hp : parseOf (⟨(bytesOf x).toArray⟩ : ByteArray).data.toList = (x, -1, 0) := parse_back hf hv
  rw [hp] at he hl'
  simp only [] at he hl'
  obtain ⟨A, cap, rfl, _⟩ := hl'.out
  exact ⟨A, cap, he, hl', hb⟩

/-- Two boxes apart: the item that came in, and one that was read. -/
structure Box2 (w : World) (x : It) (sl : Value) (w6 : World) (sl' : Value) (wr : World) : Prop where
  b1 : Boxed w x sl wr
  b2 : Boxed w6 x sl' wr

theorem Box2.next {w : World} {x : It} {sl : Value} {w6 : World} {sl' : Value} {wr w' : World} (h : Box2 w x sl w6 sl' wr) (hb : Below wr.heap.size wr w') : Box2 w x sl w6 sl' w' := ⟨h.b1.next hb, h.b2.next hb⟩

set_option maxHeartbeats 4000000 in
set_option maxRecDepth 100000 in
theorem builds_walk (x : It) (w : World) (B : Nat) (v : Value) (hB : B ≤ w.heap.size) (hx : Lies w B x v) :
    Calls Try.prog 3 #[v] w fun e w' => e = .returned (.bool true) ∧ Below w.heap.size w w' := by
  have hfit := hx.allFit
  obtain ⟨A, cap, rfl, hf, he⟩ := hx.out
  have f1 := fun W (h : Boxed w x (.slice A x.l.length cap) W) => few_any x 2000 W B _ (by omega) (by have := h.lt; omega) (hx.keep (h.below.mono hB))
  have r1 := fun W (h : Boxed w x (.slice A x.l.length cap) W) => refRight_any x W B _ (by have := h.lt; omega) (hx.keep (h.below.mono hB))
  have g1 := fun W (h : Boxed w x (.slice A x.l.length cap) W) => right_any x W B _ (by have := h.lt; omega) (hx.keep (h.below.mono hB))
  have s1 := fun W (h : Boxed w x (.slice A x.l.length cap) W) => same_any x x W B _ _ (by have := h.lt; omega) (hx.keep (h.below.mono hB)) (hx.keep (h.below.mono hB))
  have b1 := fun W (h : Boxed w x (.slice A x.l.length cap) W) (hp : plainB x = true) (hl : (bytesOf x).length ≤ 1000000) => bytesR_any x W B _ (by have := h.lt; omega) (hx.keep (h.below.mono hB)) hp hl
  have u1 := fun W (h : Boxed w x (.slice A x.l.length cap) W) (hv : validB x 8 = true) (hl : (bytesOf x).length ≤ 70000) => build_yes x W B _ (by have := h.lt; omega) (hx.keep (h.below.mono hB)) hv hl
  have u2 := fun W (h : Boxed w x (.slice A x.l.length cap) W) (hv : validB x 8 = false) => build_no x W B _ (by have := h.lt; omega) (hx.keep (h.below.mono hB)) hv
  have hsm : sameB x x = validB x 8 := by
    unfold sameB
    rw [eqB_refl]
    cases validB x 8 <;> rfl
  rw [hsm] at s1
  rw [right_valid] at r1
  simp only [itV] at f1 r1 g1 s1 b1 u1 u2 ⊢
  have F1 := Lib.hid f1; clear f1
  have R1 := Lib.hid r1; clear r1
  have G1 := Lib.hid g1; clear g1
  have S1 := Lib.hid s1; clear s1
  have B1 := Lib.hid b1; clear b1
  have U1 := Lib.hid u1; clear u1
  have U2 := Lib.hid u2; clear u2
  have HX := Lib.hid hx; clear hx he hf hsm
  have HFIT := Lib.hid hfit; clear hfit
  cases h1 : fewB x 2000
  · rw [h1] at F1
    have H1 := Lib.hid h1; clear h1
    go_enter Try.func3, Try.ntmps3
    go_wp2_with fail
    refine (awake_any _).mono ?_
    rintro e w1 ⟨rfl, hb1⟩
    have hbx := (Boxed.new w x (.slice A x.l.length cap)).next hb1
    have c0 := hbx.c0
    have c1 := hbx.c1
    have c2 := hbx.c2
    have c3 := hbx.c3
    have c4 := hbx.c4
    have HB := Lib.hid hbx; clear hbx hb1
    go_wp2_with fail
    refine (F1.out _ HB.out).mono ?_
    rintro e w2 ⟨rfl, hb2⟩
    have HB2 := Lib.hid (HB.out.next hb2); clear hb2
    go_wp2_with fail
    refine (awake_any _).mono ?_
    rintro e w3 ⟨rfl, hb3⟩
    have HB3 := Lib.hid (HB2.out.next hb3); clear hb3
    go_wp2
    go_ret
    exact ⟨rfl, HB3.out.below⟩
  rw [h1] at F1
  have hlx := few_len h1
  have H1 := Lib.hid h1; clear h1
  have HLX := Lib.hid hlx; clear hlx
  cases hv : validB x 8
  · rw [hv] at R1 G1 S1
    have hu := fun W h => U2.out W h hv
    have HU := Lib.hid hu; clear hu U1 U2 B1
    have HV := Lib.hid hv; clear hv
    go_enter Try.func3, Try.ntmps3
    go_wp2_with fail
    refine (awake_any _).mono ?_
    rintro e w1 ⟨rfl, hb1⟩
    have hbx := (Boxed.new w x (.slice A x.l.length cap)).next hb1
    have c0 := hbx.c0
    have c1 := hbx.c1
    have c2 := hbx.c2
    have c3 := hbx.c3
    have c4 := hbx.c4
    have HB := Lib.hid hbx; clear hbx hb1
    go_wp2_with fail
    refine (F1.out _ HB.out).mono ?_
    rintro e w2 ⟨rfl, hb2⟩
    clear c0 c1 c2 c3 c4
    have hbx := HB.out.next hb2
    have c0 := hbx.c0
    have c1 := hbx.c1
    have c2 := hbx.c2
    have c3 := hbx.c3
    have c4 := hbx.c4
    have HB2 := Lib.hid hbx; clear hbx hb2
    go_wp2_with fail
    refine (R1.out _ HB2.out).mono ?_
    rintro e w3 ⟨rfl, hb3⟩
    clear c0 c1 c2 c3 c4
    have hbx := HB2.out.next hb3
    have c0 := hbx.c0
    have c1 := hbx.c1
    have c2 := hbx.c2
    have c3 := hbx.c3
    have c4 := hbx.c4
    have HB3 := Lib.hid hbx; clear hbx hb3
    go_wp2_with fail
    refine (HU.out _ HB3.out).mono ?_
    rintro e w4 ⟨rfl, hb4⟩
    clear c0 c1 c2 c3 c4
    have hbx := HB3.out.next hb4
    have c0 := hbx.c0
    have c1 := hbx.c1
    have c2 := hbx.c2
    have c3 := hbx.c3
    have c4 := hbx.c4
    have HB4 := Lib.hid hbx; clear hbx hb4
    go_wp2_with fail
    refine (G1.out _ HB4.out).mono ?_
    rintro e w5 ⟨rfl, hb5⟩
    clear c0 c1 c2 c3 c4
    have hbx := HB4.out.next hb5
    have c0 := hbx.c0
    have c1 := hbx.c1
    have c2 := hbx.c2
    have c3 := hbx.c3
    have c4 := hbx.c4
    have HB5 := Lib.hid hbx; clear hbx hb5
    go_wp2_with fail
    refine (S1.out _ HB5.out).mono ?_
    rintro e w6 ⟨rfl, hb6⟩
    have HB6 := Lib.hid (HB5.out.next hb6); clear hb6
    clear c0 c1 c2 c3 c4
    go_wp2
    go_ret
    exact ⟨rfl, HB6.out.below⟩
  rw [hv] at R1 G1 S1
  have hp : plainB x = true := by have h := hv; rw [valid_deep] at h; simp only [Bool.and_eq_true] at h; exact h.2
  have hu := fun W h => U1.out W h hv (by have := HLX.out; omega)
  have hbz := fun W h => B1.out W h hp (by have := HLX.out; omega)
  have hpa := fun W => parse_bytes x HFIT.out hv (by have := HLX.out; omega) W
  have hsz : (⟨(bytesOf x).toArray⟩ : ByteArray).size ≤ 20000 := by show (bytesOf x).toArray.size ≤ 20000; simpa using HLX.out
  have s2 : ∀ (W : World) (B' : Nat) (v v' : Value), B' ≤ W.heap.size → Lies W B' x v → Lies W B' x v' → Calls Try.prog 13 #[v, v'] W fun e w' => e = .returned (.bool true) ∧ Below W.heap.size W w' := by
    intro W B' v v' h1 h2 h3
    have := same_any x x W B' v v' h1 h2 h3
    have hsm : sameB x x = true := by unfold sameB; rw [eqB_refl, hv]; rfl
    rw [hsm] at this
    exact this
  have b2 : ∀ (W : World) (B' : Nat) (v : Value), B' ≤ W.heap.size → Lies W B' x v → Calls Try.prog 15 #[v] W fun e w' => e = .returned (.string ⟨(bytesOf x).toArray⟩) ∧ Below W.heap.size W w' := fun W B' v h1 h2 => bytesR_any x W B' v h1 h2 hp (by have := HLX.out; omega)
  have HU := Lib.hid hu; clear hu U1 U2
  have HBZ := Lib.hid hbz; clear hbz B1
  have HPA := Lib.hid hpa; clear hpa
  have S2 := Lib.hid s2; clear s2
  have B2 := Lib.hid b2; clear b2
  have HV := Lib.hid (And.intro hv hp); clear hv hp
  clear H1 HLX
  generalize hq : (⟨(bytesOf x).toArray⟩ : ByteArray) = q at *
  have HQ := Lib.hid (And.intro hq hsz); clear hq hsz
  go_enter Try.func3, Try.ntmps3
  go_wp2_with fail
  refine (awake_any _).mono ?_
  rintro e w1 ⟨rfl, hb1⟩
  have hbx := (Boxed.new w x (.slice A x.l.length cap)).next hb1
  have c0 := hbx.c0
  have c1 := hbx.c1
  have c2 := hbx.c2
  have c3 := hbx.c3
  have c4 := hbx.c4
  have HB := Lib.hid hbx; clear hbx hb1
  go_wp2_with fail
  refine (F1.out _ HB.out).mono ?_
  rintro e w2 ⟨rfl, hb2⟩
  clear c0 c1 c2 c3 c4
  have hbx := HB.out.next hb2
  have c0 := hbx.c0
  have c1 := hbx.c1
  have c2 := hbx.c2
  have c3 := hbx.c3
  have c4 := hbx.c4
  have HB2 := Lib.hid hbx; clear hbx hb2
  go_wp2_with fail
  refine (R1.out _ HB2.out).mono ?_
  rintro e w3 ⟨rfl, hb3⟩
  clear c0 c1 c2 c3 c4
  have hbx := HB2.out.next hb3
  have c0 := hbx.c0
  have c1 := hbx.c1
  have c2 := hbx.c2
  have c3 := hbx.c3
  have c4 := hbx.c4
  have HB3 := Lib.hid hbx; clear hbx hb3
  go_wp2_with fail
  refine (HU.out _ HB3.out).mono ?_
  rintro e w4 ⟨rfl, hb4⟩
  clear c0 c1 c2 c3 c4
  have hbx := HB3.out.next hb4
  have c0 := hbx.c0
  have c1 := hbx.c1
  have c2 := hbx.c2
  have c3 := hbx.c3
  have c4 := hbx.c4
  have HB4 := Lib.hid hbx; clear hbx hb4
  go_wp2_with fail
  refine (G1.out _ HB4.out).mono ?_
  rintro e w5 ⟨rfl, hb5⟩
  clear c0 c1 c2 c3 c4
  have hbx := HB4.out.next hb5
  have c0 := hbx.c0
  have c1 := hbx.c1
  have c2 := hbx.c2
  have c3 := hbx.c3
  have c4 := hbx.c4
  have HB5 := Lib.hid hbx; clear hbx hb5
  go_wp2_with fail
  refine (S1.out _ HB5.out).mono ?_
  rintro e w6 ⟨rfl, hb6⟩
  clear c0 c1 c2 c3 c4
  have HB6 := Lib.hid (HB5.out.next hb6); clear hb6
  go_wp2_with fail
  refine (HPA.out _).mono ?_
  rintro e w7 ⟨A7, cap7, rfl, hl7, hb7⟩
  have HB7 := Lib.hid (HB6.out.next hb7); clear hb7
  have HL7 := Lib.hid hl7; clear hl7
  simp only [itV] at HL7 ⊢
  have hbx : Box2 w x (.slice A x.l.length cap) w7 (.slice A7 x.l.length cap7) (w7.alloc (boxOf x (.slice A7 x.l.length cap7))) := ⟨HB7.out.alloc _, Boxed.new w7 _ _⟩
  have hbx7 := HB7.out
  have c0 := hbx7.c0
  have c1 := hbx7.c1
  have c2 := hbx7.c2
  have c3 := hbx7.c3
  have c4 := hbx7.c4
  have hlt7 := hbx7.lt
  have HB8 := Lib.hid hbx; clear hbx hbx7
  go_wp2_with fail
  refine (HBZ.out _ HB8.out.b1).mono ?_
  rintro e w9 ⟨rfl, hb9⟩
  have hbx := HB8.out.next hb9
  clear c0 c1 c2 c3 c4 hlt7
  have c0 := hbx.b1.c0
  have c1 := hbx.b1.c1
  have c2 := hbx.b1.c2
  have c3 := hbx.b1.c3
  have c4 := hbx.b1.c4
  have d0 := hbx.b2.c0
  have d1 := hbx.b2.c1
  have d2 := hbx.b2.c2
  have d3 := hbx.b2.c3
  have d4 := hbx.b2.c4
  have HB9 := Lib.hid hbx; clear hbx hb9
  have hs9 := S2.out w9 w7.heap.size _ _ (Nat.le_of_lt HB9.out.b2.lt) ((HX.out.keep (HB9.out.b1.below.mono hB)).mono (by have := HB7.out.lt; omega)) (HL7.out.keep HB9.out.b2.below)
  have HS9 := Lib.hid hs9; clear hs9
  go_wp2_with fail
  refine HS9.out.mono ?_
  rintro e w10 ⟨rfl, hb10⟩
  have hbx := HB9.out.next hb10
  clear c0 c1 c2 c3 c4 d0 d1 d2 d3 d4
  have d0 := hbx.b2.c0
  have d1 := hbx.b2.c1
  have d2 := hbx.b2.c2
  have d3 := hbx.b2.c3
  have d4 := hbx.b2.c4
  have HB10 := Lib.hid hbx; clear hbx hb10
  have hs10 := B2.out w10 w7.heap.size _ (Nat.le_of_lt HB10.out.b2.lt) (HL7.out.keep HB10.out.b2.below)
  have HS10 := Lib.hid hs10; clear hs10
  go_wp2_with fail
  refine HS10.out.mono ?_
  rintro e w11 ⟨rfl, hb11⟩
  have HB11 := Lib.hid (HB10.out.next hb11); clear hb11
  go_wp2
  go_ret
  exact ⟨rfl, HB11.out.b1.below⟩

end Go.Proofs.Ytpmepnejjjlodaa
