/-
  The contract of the reader's method peek where there is no head, or where the reader has failed. Conditions: the reader lies in one block, and its text is no longer than memory allows.
-/
import Derived.Test.YtpmepnejjjlodaaG
namespace Go.Proofs.Ytpmepnejjjlodaa
open Go.ChangeShapes Go.WideShapes Go.ChangeAt Go.RowKit
open Plain
set_option linter.unusedVariables false

/-- The zero head. -/
def hd0 : Hd := ⟨0, 0, false, 0⟩

/-- peek, where the reader has failed. -/
theorem peek_failed (w : World) (b : Nat) (s : ByteArray) (p : Nat) (c : Int) (h : Rd w b s p c) (hc : c ≠ 0) :
    Calls Try.prog 56 #[.pointer (some ⟨b, 0, none⟩)] w fun e w' => e = .returned (hdV hd0) ∧ Below w.heap.size w w' := by
  have c2 := h.cell2
  have hlt := h.lt
  have g : (c != 0) = true := by simpa using hc
  clear h hc
  go_enter Try.func56, Try.ntmps56
  go_wp2
  refine bodyPost_ret (v := hdV hd0) (by simp [results, Try.results56, go_sem, hdV, hd0]) rfl ⟨rfl, (Below.refl _ _).alloc (Nat.le_refl _) _⟩

def ParsedNo (w : World) (v : Value) (wc : World) : Prop := ∃ a b c d, Parsed w a b c d v wc

set_option maxHeartbeats 1000000 in
/-- peek, where there is no head. -/
theorem peek_none (w : World) (b : Nat) (s : ByteArray) (p : Nat) (hs : s.size ≤ maxLen) (hp : p ≤ s.size) (h : Rd w b s p 0) (hx : headL (s.data.toList.drop p) = none) :
    Calls Try.prog 56 #[.pointer (some ⟨b, 0, none⟩)] w fun e w' => e = .returned (hdV hd0) ∧ Rd w' b s p 2 ∧ Only b w w' := by
  have c0 := h.cell0
  have c1 := h.cell1
  have c2 := h.cell2
  have hlt := h.lt
  have hz : (s.extract p s.size).size ≤ maxLen := by simp; omega
  have hr : ∀ (W : World) (e : Ending) (w' : World), ParsePost (s.extract p s.size).data.toList W e w' → NoHead W e w' := by
    intro W e w' hpp
    unfold ParsePost at hpp
    rw [Lib.extract_to_end, hx] at hpp
    exact hpp
  have HR := Lib.hid hr; clear hr
  have HZ := Lib.hid hz; clear hz
  have HX := Lib.hid hx; clear hx
  unfold maxLen at hs
  have hp' : (p : Int) ≤ (s.size : Int) := by omega
  have HRd := Lib.hid h; clear h
  go_enter Try.func56, Try.ntmps56
  go_upto_region 3 with fail
  go_cut [3, 4] (fun s3 s4 wc => ParsedNo w s3 wc ∧ s4 = .bool false)
  case first =>
    go_region_with (go_at_call 68; refine (parse_any _ _ HZ.out).mono ?_; intro e w' hpp; obtain ⟨y0, y1, y2, y3, he, hb⟩ := HR.out _ _ _ hpp; subst he; clear hpp; have hc := old_cells hb; have hf := old_frozen hb; have hz := hb.size)
    all_goals (go_wp2_with fail; go_meet)
    all_goals first | exact ⟨⟨_, _, _, _, parsed_late hb⟩, rfl⟩ | exact ⟨⟨_, _, _, _, parsed_early hb⟩, rfl⟩
  case rest =>
    obtain ⟨hpd, rfl⟩ := hcut
    obtain ⟨y0, y1, y2, y3, hpd⟩ := hpd
    obtain ⟨g, rfl, hg, hgc, hrc, hbw⟩ := hpd
    have hrd := HRd.out.below hbw
    go_wp2_with fail
    refine (fail_first wc b s p 2 hrd).mono ?_
    rintro e w1 ⟨rfl, rfl⟩
    have hne : b ≠ w.heap.size := by omega
    have hrc1 : (wc.setCell ⟨b, 2, none⟩ (.int .i64 2)).heap[w.heap.size]? = some (.cells (hdC 0 0 false 0) 88 (0, 0)) := by
      rw [Below.heap_setCell _ _ _ _ (by simp; omega)]; exact hrc
    have hrd1 := hrd.set2 2
    have ho1 : Only b w (wc.setCell ⟨b, 2, none⟩ (.int .i64 2)) := (Only.of_below hbw).set 2 _
    generalize wc.setCell ⟨b, 2, none⟩ (.int .i64 2) = W1 at *
    obtain ⟨r0, r1, r2, r3⟩ := cells4 hrc1
    have hfz : ∀ i, W1.frozen? ⟨w.heap.size, i, none⟩ = false := free4 hrc1
    obtain ⟨q0, q1, q2, q3⟩ := cells4 (a := 0) (b := 0) (c := false) (d := 0) (set4 _ _ _ _ hrc1)
    have hsz : w.heap.size < W1.heap.size := by
      rcases Nat.lt_or_ge w.heap.size W1.heap.size with h1 | h1
      · exact h1
      · rw [Array.getElem?_eq_none h1] at hrc1; cases hrc1
    have hfin : Rd ((((W1.setCell ⟨w.heap.size, 0, none⟩ (.int .i64 0)).setCell ⟨w.heap.size, 1, none⟩ (.int .u64 0)).setCell ⟨w.heap.size, 2, none⟩ (.bool false)).setCell ⟨w.heap.size, 3, none⟩ (.int .i64 0)) b s p 2 ∧
        Only b w ((((W1.setCell ⟨w.heap.size, 0, none⟩ (.int .i64 0)).setCell ⟨w.heap.size, 1, none⟩ (.int .u64 0)).setCell ⟨w.heap.size, 2, none⟩ (.bool false)).setCell ⟨w.heap.size, 3, none⟩ (.int .i64 0)) := by
      refine ⟨?_, ?_⟩
      · unfold Rd at hrd1 ⊢
        rw [Below.heap_setCell _ _ _ _ (by simp; omega), Below.heap_setCell _ _ _ _ (by simp; omega), Below.heap_setCell _ _ _ _ (by simp; omega), Below.heap_setCell _ _ _ _ (by simp; omega)]
        exact hrd1
      · refine ⟨ho1.os, ho1.tape, ho1.output, by simp [World.setCell]; omega, fun k hk hkb => ?_⟩
        rw [Below.heap_setCell _ _ _ _ (by simp; omega), Below.heap_setCell _ _ _ _ (by simp; omega), Below.heap_setCell _ _ _ _ (by simp; omega), Below.heap_setCell _ _ _ _ (by simp; omega)]
        exact ho1.block k hk hkb
    have HF := Lib.hid hfin; clear hfin
    clear hgc hrc hbw hrc1 hrd hrd1 ho1
    go_wp2
    refine bodyPost_ret (v := hdV hd0) (by simp [results, Try.results56, go_sem, hdV, hd0, q0, q1, q2, q3]) rfl ⟨rfl, HF.out⟩

end Go.Proofs.Ytpmepnejjjlodaa
