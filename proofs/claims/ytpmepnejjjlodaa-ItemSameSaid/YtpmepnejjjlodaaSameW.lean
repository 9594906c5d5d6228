/-
  The walk of ItemSame. Conditions: the items lie in memory.
-/
import Derived.Test.YtpmepnejjjlodaaPure
import Derived.Test.YtpmepnejjjlodaaAwake
namespace Go.Proofs.Ytpmepnejjjlodaa
open Go.ChangeShapes Go.WideShapes Go.ChangeAt Go.RowKit
open Plain
set_option linter.unusedVariables false

theorem size_of_list (l : List UInt8) : (⟨l.toArray⟩ : ByteArray).size = l.length := by
  show l.toArray.size = l.length
  simp

set_option maxHeartbeats 4000000 in
set_option maxRecDepth 100000 in
theorem same_walk (x y : It) (w : World) (B : Nat) (v u : Value) (hB : B ≤ w.heap.size) (hx : Lies w B x v) (hy : Lies w B y u) :
    Calls Try.prog 5 #[v, u] w fun e w' => e = .returned (.bool true) ∧ Below w.heap.size w w' := by
  have hsame := same_bytes hx.allFit hy.allFit
  obtain ⟨A, cap, rfl, hf, he⟩ := hx.out
  obtain ⟨A', cap', rfl, hf', he'⟩ := hy.out
  have f1 := fun W (h : Boxed2 w x (.slice A x.l.length cap) y (.slice A' y.l.length cap') W) => few_any x 2000 W B _ (by omega) (by have := h.lt; omega) (hx.keep (h.below.mono hB))
  have f2 := fun W (h : Boxed2 w x (.slice A x.l.length cap) y (.slice A' y.l.length cap') W) => few_any y 2000 W B _ (by omega) (by have := h.lt; omega) (hy.keep (h.below.mono hB))
  have r1 := fun W (h : Boxed2 w x (.slice A x.l.length cap) y (.slice A' y.l.length cap') W) => refRight_any x W B _ (by have := h.lt; omega) (hx.keep (h.below.mono hB))
  have r2 := fun W (h : Boxed2 w x (.slice A x.l.length cap) y (.slice A' y.l.length cap') W) => refRight_any y W B _ (by have := h.lt; omega) (hy.keep (h.below.mono hB))
  have s1 := fun W (h : Boxed2 w x (.slice A x.l.length cap) y (.slice A' y.l.length cap') W) => same_any x y W B _ _ (by have := h.lt; omega) (hx.keep (h.below.mono hB)) (hy.keep (h.below.mono hB))
  have b1 := fun W (h : Boxed2 w x (.slice A x.l.length cap) y (.slice A' y.l.length cap') W) (hp : plainB x = true) (hl : (bytesOf x).length ≤ 1000000) => bytesR_any x W B _ (by have := h.lt; omega) (hx.keep (h.below.mono hB)) hp hl
  have b2 := fun W (h : Boxed2 w x (.slice A x.l.length cap) y (.slice A' y.l.length cap') W) (hp : plainB y = true) (hl : (bytesOf y).length ≤ 1000000) => bytesR_any y W B _ (by have := h.lt; omega) (hy.keep (h.below.mono hB)) hp hl
  simp only [itV] at f1 f2 r1 r2 s1 b1 b2 ⊢
  rw [right_valid] at r1 r2
  rw [hsame] at s1
  clear hsame he he' hf hf' hx hy
  have F1 := Lib.hid f1; clear f1
  have F2 := Lib.hid f2; clear f2
  have R1 := Lib.hid r1; clear r1
  have R2 := Lib.hid r2; clear r2
  have S1 := Lib.hid s1; clear s1
  have B1 := Lib.hid b1; clear b1
  have B2 := Lib.hid b2; clear b2
  cases h1 : fewB x 2000
  · rw [h1] at F1
    have H1 := Lib.hid h1; clear h1
    go_enter Try.func5, Try.ntmps5
    go_wp2_with fail
    refine (awake_any _).mono ?_
    rintro e w1 ⟨rfl, hb1⟩
    have hbx := (Boxed2.new w x (.slice A x.l.length cap) y (.slice A' y.l.length cap')).next hb1
    have c0 := hbx.c0
    have c1 := hbx.c1
    have c2 := hbx.c2
    have c3 := hbx.c3
    have c4 := hbx.c4
    have HB := Lib.hid hbx; clear hbx hb1
    go_wp2_with fail
    refine (F1.out _ HB.out).mono ?_
    rintro e w2 ⟨rfl, hb2⟩
    have HB2 := Lib.hid (HB.out.next hb2); clear hb2
    go_wp2_with fail
    refine (awake_any _).mono ?_
    rintro e w3 ⟨rfl, hb3⟩
    have HB3 := Lib.hid (HB2.out.next hb3); clear hb3
    go_wp2
    go_ret
    exact ⟨rfl, HB3.out.below⟩
  rw [h1] at F1
  have hlx := few_len h1
  have H1 := Lib.hid h1; clear h1
  cases h2 : fewB y 2000
  · rw [h2] at F2
    have H2 := Lib.hid h2; clear h2
    go_enter Try.func5, Try.ntmps5
    go_wp2_with fail
    refine (awake_any _).mono ?_
    rintro e w1 ⟨rfl, hb1⟩
    have hbx := (Boxed2.new w x (.slice A x.l.length cap) y (.slice A' y.l.length cap')).next hb1
    have c0 := hbx.c0
    have c1 := hbx.c1
    have c2 := hbx.c2
    have c3 := hbx.c3
    have c4 := hbx.c4
    have HB := Lib.hid hbx; clear hbx hb1
    go_wp2_with fail
    refine (F1.out _ HB.out).mono ?_
    rintro e w2 ⟨rfl, hb2⟩
    clear c0 c1 c2 c3 c4
    have hbx := HB.out.next hb2
    have d0 := hbx.d0
    have d1 := hbx.d1
    have d2 := hbx.d2
    have d3 := hbx.d3
    have d4 := hbx.d4
    have HB2 := Lib.hid hbx; clear hbx hb2
    go_wp2_with fail
    refine (F2.out _ HB2.out).mono ?_
    rintro e w3 ⟨rfl, hb3⟩
    have HB3 := Lib.hid (HB2.out.next hb3); clear hb3
    clear d0 d1 d2 d3 d4
    go_wp2_with fail
    refine (awake_any _).mono ?_
    rintro e w4 ⟨rfl, hb4⟩
    have HB4 := Lib.hid (HB3.out.next hb4); clear hb4
    go_wp2
    go_ret
    exact ⟨rfl, HB4.out.below⟩
  rw [h2] at F2
  have hly := few_len h2
  have H2 := Lib.hid h2; clear h2
  have px : validB x 8 = true → plainB x = true := fun h => by rw [valid_deep] at h; simp only [Bool.and_eq_true] at h; exact h.2
  have py : validB y 8 = true → plainB y = true := fun h => by rw [valid_deep] at h; simp only [Bool.and_eq_true] at h; exact h.2
  have PX := Lib.hid px; clear px
  have PY := Lib.hid py; clear py
  have HLX := Lib.hid hlx; clear hlx
  have HLY := Lib.hid hly; clear hly
  go_enter Try.func5, Try.ntmps5
  go_wp2_with fail
  refine (awake_any _).mono ?_
  rintro e w1 ⟨rfl, hb1⟩
  have hbx := (Boxed2.new w x (.slice A x.l.length cap) y (.slice A' y.l.length cap')).next hb1
  have c0 := hbx.c0
  have c1 := hbx.c1
  have c2 := hbx.c2
  have c3 := hbx.c3
  have c4 := hbx.c4
  have HB := Lib.hid hbx; clear hbx hb1
  go_wp2_with fail
  refine (F1.out _ HB.out).mono ?_
  rintro e w2 ⟨rfl, hb2⟩
  clear c0 c1 c2 c3 c4
  have hbx := HB.out.next hb2
  have d0 := hbx.d0
  have d1 := hbx.d1
  have d2 := hbx.d2
  have d3 := hbx.d3
  have d4 := hbx.d4
  have HB2 := Lib.hid hbx; clear hbx hb2
  go_wp2_with fail
  refine (F2.out _ HB2.out).mono ?_
  rintro e w3 ⟨rfl, hb3⟩
  clear d0 d1 d2 d3 d4
  have hbx := HB2.out.next hb3
  have c0 := hbx.c0
  have c1 := hbx.c1
  have c2 := hbx.c2
  have c3 := hbx.c3
  have c4 := hbx.c4
  have HB3 := Lib.hid hbx; clear hbx hb3
  go_wp2_with fail
  refine (R1.out _ HB3.out).mono ?_
  rintro e w4 ⟨rfl, hb4⟩
  clear c0 c1 c2 c3 c4
  have hbx := HB3.out.next hb4
  have c0 := hbx.c0
  have c1 := hbx.c1
  have c2 := hbx.c2
  have c3 := hbx.c3
  have c4 := hbx.c4
  have d0 := hbx.d0
  have d1 := hbx.d1
  have d2 := hbx.d2
  have d3 := hbx.d3
  have d4 := hbx.d4
  have HB4 := Lib.hid hbx; clear hbx hb4
  cases vx : validB x 8
  · rw [vx, Bool.false_and, Bool.false_and] at S1
    have VX := Lib.hid vx; clear vx
    go_wp2_with fail
    refine (S1.out _ HB4.out).mono ?_
    rintro e w5 ⟨rfl, hb5⟩
    have HB5 := Lib.hid (HB4.out.next hb5); clear hb5
    go_wp2
    go_ret
    exact ⟨rfl, HB5.out.below⟩
  rw [vx, Bool.true_and] at S1
  have hpx := PX.out vx
  have VX := Lib.hid vx; clear vx
  go_wp2_with fail
  refine (R2.out _ HB4.out).mono ?_
  rintro e w5 ⟨rfl, hb5⟩
  clear c0 c1 c2 c3 c4 d0 d1 d2 d3 d4
  have hbx := HB4.out.next hb5
  have c0 := hbx.c0
  have c1 := hbx.c1
  have c2 := hbx.c2
  have c3 := hbx.c3
  have c4 := hbx.c4
  have d0 := hbx.d0
  have d1 := hbx.d1
  have d2 := hbx.d2
  have d3 := hbx.d3
  have d4 := hbx.d4
  have HB5 := Lib.hid hbx; clear hbx hb5
  cases vy : validB y 8
  · rw [vy, Bool.false_and] at S1
    have VY := Lib.hid vy; clear vy
    go_wp2_with fail
    refine (S1.out _ HB5.out).mono ?_
    rintro e w6 ⟨rfl, hb6⟩
    have HB6 := Lib.hid (HB5.out.next hb6); clear hb6
    go_wp2
    go_ret
    exact ⟨rfl, HB6.out.below⟩
  rw [vy, Bool.true_and] at S1
  have hpy := PY.out vy
  have VY := Lib.hid vy; clear vy
  have b1 := fun W h => B1.out W h hpx (by have := HLX.out; omega)
  have b2 := fun W h => B2.out W h hpy (by have := HLY.out; omega)
  clear B1 B2
  have HP := Lib.hid (And.intro hpx hpy); clear hpx hpy
  generalize bytesOf x = p at *
  generalize bytesOf y = q at *
  have hk : ∀ X, Boxed2 w x (.slice A x.l.length cap) y (.slice A' y.l.length cap') X → X.cell? ⟨w.heap.size, 0, none⟩ = some (.int .i64 x.kind) ∧ X.cell? ⟨w.heap.size, 1, none⟩ = some (.int .u64 x.n) ∧ X.cell? ⟨w.heap.size, 2, none⟩ = some (.string x.s) ∧ X.cell? ⟨w.heap.size, 3, none⟩ = some (.slice A x.l.length cap) ∧ X.cell? ⟨w.heap.size, 4, none⟩ = some (.bool x.opn) ∧ X.cell? ⟨w.heap.size + 1, 0, none⟩ = some (.int .i64 y.kind) ∧ X.cell? ⟨w.heap.size + 1, 1, none⟩ = some (.int .u64 y.n) ∧ X.cell? ⟨w.heap.size + 1, 2, none⟩ = some (.string y.s) ∧ X.cell? ⟨w.heap.size + 1, 3, none⟩ = some (.slice A' y.l.length cap') ∧ X.cell? ⟨w.heap.size + 1, 4, none⟩ = some (.bool y.opn) :=
    fun X h => ⟨h.c0, h.c1, h.c2, h.c3, h.c4, h.d0, h.d1, h.d2, h.d3, h.d4⟩
  have HK := Lib.hid hk; clear hk
  have BB1 := Lib.hid b1; clear b1
  have BB2 := Lib.hid b2; clear b2
  have hb5 := HB5.out
  have hbd := HB5.out.drew
  by_cases hpq : p = q
  · subst hpq
    simp only [decide_true] at S1
    go_upto_region 5 with fail
    go_cut [5] (fun s5 wc => s5 = .bool true ∧ Boxed2 w x (.slice A x.l.length cap) y (.slice A' y.l.length cap') wc)
    case first =>
      go_region_held3 (fun X => X.cell? ⟨w.heap.size, 0, none⟩ = some (.int .i64 x.kind) ∧ X.cell? ⟨w.heap.size, 1, none⟩ = some (.int .u64 x.n) ∧ X.cell? ⟨w.heap.size, 2, none⟩ = some (.string x.s) ∧ X.cell? ⟨w.heap.size, 3, none⟩ = some (.slice A x.l.length cap) ∧ X.cell? ⟨w.heap.size, 4, none⟩ = some (.bool x.opn) ∧ X.cell? ⟨w.heap.size + 1, 0, none⟩ = some (.int .i64 y.kind) ∧ X.cell? ⟨w.heap.size + 1, 1, none⟩ = some (.int .u64 y.n) ∧ X.cell? ⟨w.heap.size + 1, 2, none⟩ = some (.string y.s) ∧ X.cell? ⟨w.heap.size + 1, 3, none⟩ = some (.slice A' y.l.length cap') ∧ X.cell? ⟨w.heap.size + 1, 4, none⟩ = some (.bool y.opn)) ((refine HK.out _ ?_; (with_reducible assumption)))
        (first | (go_at_call 15; with_reducible refine (BB1.out _ (by with_reducible assumption)).mono ?_; rintro e w' ⟨rfl, hbw⟩; have hbx' := Boxed2.next (by with_reducible assumption) hbw) | (go_at_call 15; with_reducible refine (BB2.out _ (by with_reducible assumption)).mono ?_; rintro e w' ⟨rfl, hbw⟩; have hbx' := Boxed2.next (by with_reducible assumption) hbw))
      all_goals (go_wp2_with fail; go_meet)
      all_goals exact ⟨rfl, by with_reducible assumption⟩
    case rest =>
      obtain ⟨rfl, hbx⟩ := hcut
      clear c0 c1 c2 c3 c4 d0 d1 d2 d3 d4 hb5 hbd
      have c0 := hbx.c0
      have c1 := hbx.c1
      have c2 := hbx.c2
      have c3 := hbx.c3
      have c4 := hbx.c4
      have d0 := hbx.d0
      have d1 := hbx.d1
      have d2 := hbx.d2
      have d3 := hbx.d3
      have d4 := hbx.d4
      have HBX := Lib.hid hbx; clear hbx
      go_wp2_with fail
      refine (S1.out _ HBX.out).mono ?_
      rintro e w7 ⟨rfl, hb7⟩
      have HB7 := Lib.hid (HBX.out.next hb7); clear hb7
      go_wp2
      go_ret
      exact ⟨rfl, HB7.out.below⟩
  · have hd : decide (p = q) = false := by simpa using hpq
    rw [hd] at S1
    have hpq2 : (p == q) = false := by simpa using hpq
    go_upto_region 5 with fail
    go_cut [5] (fun s5 wc => s5 = .bool false ∧ Boxed2 w x (.slice A x.l.length cap) y (.slice A' y.l.length cap') wc)
    case first =>
      go_region_held3 (fun X => X.cell? ⟨w.heap.size, 0, none⟩ = some (.int .i64 x.kind) ∧ X.cell? ⟨w.heap.size, 1, none⟩ = some (.int .u64 x.n) ∧ X.cell? ⟨w.heap.size, 2, none⟩ = some (.string x.s) ∧ X.cell? ⟨w.heap.size, 3, none⟩ = some (.slice A x.l.length cap) ∧ X.cell? ⟨w.heap.size, 4, none⟩ = some (.bool x.opn) ∧ X.cell? ⟨w.heap.size + 1, 0, none⟩ = some (.int .i64 y.kind) ∧ X.cell? ⟨w.heap.size + 1, 1, none⟩ = some (.int .u64 y.n) ∧ X.cell? ⟨w.heap.size + 1, 2, none⟩ = some (.string y.s) ∧ X.cell? ⟨w.heap.size + 1, 3, none⟩ = some (.slice A' y.l.length cap') ∧ X.cell? ⟨w.heap.size + 1, 4, none⟩ = some (.bool y.opn)) ((refine HK.out _ ?_; (with_reducible assumption)))
        (first | (go_at_call 15; with_reducible refine (BB1.out _ (by with_reducible assumption)).mono ?_; rintro e w' ⟨rfl, hbw⟩; have hbx' := Boxed2.next (by with_reducible assumption) hbw) | (go_at_call 15; with_reducible refine (BB2.out _ (by with_reducible assumption)).mono ?_; rintro e w' ⟨rfl, hbw⟩; have hbx' := Boxed2.next (by with_reducible assumption) hbw))
      all_goals (go_wp2_with fail; go_meet)
      all_goals exact ⟨rfl, by with_reducible assumption⟩
    case rest =>
      obtain ⟨rfl, hbx⟩ := hcut
      clear c0 c1 c2 c3 c4 d0 d1 d2 d3 d4 hb5 hbd
      have c0 := hbx.c0
      have c1 := hbx.c1
      have c2 := hbx.c2
      have c3 := hbx.c3
      have c4 := hbx.c4
      have d0 := hbx.d0
      have d1 := hbx.d1
      have d2 := hbx.d2
      have d3 := hbx.d3
      have d4 := hbx.d4
      have HBX := Lib.hid hbx; clear hbx
      go_wp2_with fail
      refine (S1.out _ HBX.out).mono ?_
      rintro e w7 ⟨rfl, hb7⟩
      have HB7 := Lib.hid (HBX.out.next hb7); clear hb7
      go_wp2
      go_ret
      exact ⟨rfl, HB7.out.below⟩

end Go.Proofs.Ytpmepnejjjlodaa
