/-
  The walk of CborReads. Conditions: none beyond how its arguments lie in memory.
-/
import Derived.Test.YtkaeklcmhoidjaaV
import Derived.Deep.RegionHeld3
import Derived.Deep.DeepCutAuto
import Derived.Deep.LoopGhost
import Derived.Deep.QuietTactic
import Derived.BigQuiet
namespace Go.Proofs.Ytkaeklcmhoidjaa
open Go.ChangeShapes Go.WideShapes Go.ChangeAt Go.RowKit
open Plain
set_option linter.unusedVariables false

theorem bad_any {w : World} {b : Nat} {s : ByteArray} {p : Nat} {c : Int} (h : Rd w b s p c) :
    Calls Try.prog 21 #[.pointer (some ⟨b, 0, none⟩)] w fun e w' => e = .returned (.tuple #[.int .i64 (badOf p c), .int .i64 c]) ∧ Below w.heap.size w w' := by
  by_cases hc : c = 0
  · subst hc
    exact bad_ok h
  · rw [badOf_ne p hc]
    exact bad_failed h hc

/-- The calls, as they lie in memory. -/
structure Ops (w : World) (A : Option Addr) (len : Nat) (K : Nat → Nat) (N : Nat → Int) : Prop where
  at_ : ∀ i, i < len → ∃ b off, A = some ⟨b, off, none⟩ ∧ b < w.heap.size ∧ w.cell? ⟨b, off + i * 2, none⟩ = some (.int .u8 (K i)) ∧ w.cell? ⟨b, off + i * 2 + 1, none⟩ = some (.int .i64 (N i)) ∧
    K i < 256 ∧ -9223372036854775808 ≤ N i ∧ N i ≤ 9223372036854775807

/-- The reader and the reference's reader agree. -/
structure Agree (w wr : World) (b g : Nat) (s : ByteArray) (p : Nat) (c : Int) : Prop where
  ok : Ok wr b s p c
  ref : wr.heap[g]? = some (.cells #[.string s, .int .i64 p, .int .i64 (badOf p c), .int .i64 c] 36 (0, 0))
  below : Below w.heap.size w wr
  lb : w.heap.size ≤ b
  lg : w.heap.size ≤ g
  ne : b ≠ g

theorem apart6 {g b n m : Nat} (h1 : g < n) (h2 : b < n) (h : n ≤ m) : g < m ∧ b < m ∧ ¬ g = m ∧ ¬ b = m ∧ ¬ g = m + 1 ∧ ¬ b = m + 1 := ⟨by omega, by omega, by omega, by omega, by omega, by omega⟩

theorem below_setA {w X : World} {a : Addr} {v : Value} (ha : w.heap.size ≤ a.block) (h : Below w.heap.size w X) : Below w.heap.size w (X.setCell a v) := h.setCell ha v
theorem below_set0 {w X : World} (h : Below w.heap.size w X) (i : Nat) (v : Value) : Below w.heap.size w (X.setCell ⟨w.heap.size, i, none⟩ v) := h.setCell (Nat.le_refl _) v
theorem below_set1 {w X : World} (h : Below w.heap.size w X) (i : Nat) (v : Value) : Below w.heap.size w (X.setCell ⟨w.heap.size + 1, i, none⟩ v) := h.setCell (Nat.le_succ _) v

theorem bel0 {w w' : World} (hb : Below w.drew.heap.size w.drew w') : Below w.heap.size w w' := (Below.refl w.heap.size w).drew.trans hb

theorem bel2 {w w' : World} {a b : Obj} (hb : Below ((w.alloc a).alloc b).drew.heap.size ((w.alloc a).alloc b).drew w') : Below w.heap.size w w' :=
  ((((Below.refl w.heap.size w).alloc (Nat.le_refl _) a).alloc (by simp) b).drew).trans (hb.mono (by simp <;> omega))

/-- What the statement 'x, want := w.Do(l[i])' leaves. -/
def Cut8 (wr : World) (R T : Array Value) (s8 s9 : Value) (wc : World) : Prop :=
  ∃ g8 g9 : Nat, s8 = .pointer (some ⟨g8, 0, none⟩) ∧ s9 = .pointer (some ⟨g9, 0, none⟩) ∧ wr.heap.size ≤ g8 ∧ wr.heap.size ≤ g9 ∧ wc.heap[g8]? = some (.cells R 36 (0, 0)) ∧ wc.heap[g9]? = some (.cells T 38 (0, 0)) ∧ Below wr.heap.size wr wc

def Z36 : Array Value := #[.string ⟨#[]⟩, .int .i64 0, .int .i64 0, .int .i64 0]

section
variable {wr w' : World} {a0 a1 a2 a3 t0 t1 t2 t3 t4 : Value}
theorem heap_two (w : World) (o1 o2 : Obj) : ((w.alloc o1).alloc o2).heap[w.heap.size + 1]? = some o2 ∧ ((w.alloc o1).alloc o2).heap[w.heap.size]? = some o1 := by
  refine ⟨?_, ?_⟩
  · have := heap_alloc_new (w.alloc o1) o2
    rw [World.size_alloc] at this
    exact this
  · rw [Below.heap_alloc _ _ _ (by simp)]
    exact heap_alloc_new w _

theorem cut8_1 (hw : Below wr.heap.size wr w') : Cut8 wr #[a0, a1, a2, a3] #[t0, t1, t2, t3, t4] (.pointer (some ⟨w'.heap.size, 0, none⟩)) (.pointer (some ⟨w'.heap.size + 1, 0, none⟩)) ((w'.alloc (.cells #[a0, a1, a2, a3] 36)).alloc (.cells #[t0, t1, t2, t3, t4] 38)) :=
  ⟨_, _, rfl, rfl, hw.size, Nat.le_succ_of_le hw.size, (heap_two _ _ _).2, (heap_two _ _ _).1, below_more (below_more hw _) _⟩
theorem cut8_2 (hw : Below wr.heap.size wr w') : Cut8 wr #[a0, a1, a2, a3] #[t0, t1, t2, t3, t4] (.pointer (some ⟨w'.heap.size + 1, 0, none⟩)) (.pointer (some ⟨w'.heap.size, 0, none⟩)) ((w'.alloc (.cells #[t0, t1, t2, t3, t4] 38)).alloc (.cells #[a0, a1, a2, a3] 36)) :=
  ⟨_, _, rfl, rfl, Nat.le_succ_of_le hw.size, hw.size, (heap_two _ _ _).1, (heap_two _ _ _).2, below_more (below_more hw _) _⟩

theorem one_kept {o : Obj} (hb : Below (wr.alloc o).drew.heap.size (wr.alloc o).drew w') : w'.heap[wr.heap.size]? = some o ∧ wr.heap.size < w'.heap.size ∧ Below wr.heap.size wr w' := by
  refine ⟨?_, ?_, below_after hb⟩
  · rw [hb.block _ (by simp)]
    exact heap_alloc_new wr _
  · have := hb.size
    simp at this
    omega

theorem two_kept {o1 o2 : Obj} (hb : Below ((wr.alloc o1).alloc o2).drew.heap.size ((wr.alloc o1).alloc o2).drew w') : w'.heap[wr.heap.size]? = some o1 ∧ w'.heap[wr.heap.size + 1]? = some o2 ∧ wr.heap.size + 1 < w'.heap.size ∧ Below wr.heap.size wr w' := by
  refine ⟨?_, ?_, ?_, bel2 hb⟩
  · rw [hb.block _ (by simp <;> omega)]
    exact (heap_two wr o1 o2).2
  · rw [hb.block _ (by simp)]
    exact (heap_two wr o1 o2).1
  · have := hb.size
    simp at this
    omega

theorem cut8_3 (hb : Below (wr.alloc (.cells Z36 36)).drew.heap.size (wr.alloc (.cells Z36 36)).drew w') : Cut8 wr #[a0, a1, a2, a3] #[t0, t1, t2, t3, t4] (.pointer (some ⟨wr.heap.size, 0, none⟩)) (.pointer (some ⟨w'.heap.size, 0, none⟩))
    (((((w'.setCell ⟨wr.heap.size, 0, none⟩ a0).setCell ⟨wr.heap.size, 1, none⟩ a1).setCell ⟨wr.heap.size, 2, none⟩ a2).setCell ⟨wr.heap.size, 3, none⟩ a3).alloc (.cells #[t0, t1, t2, t3, t4] 38)) := by
  obtain ⟨h8, hz, hw⟩ := one_kept hb
  refine ⟨_, _, rfl, rfl, Nat.le_refl _, Nat.le_of_lt hz, ?_, ?_, below_more (below_set0 (below_set0 (below_set0 (below_set0 hw _ _) _ _) _ _) _ _) _⟩
  · rw [Below.heap_alloc _ _ _ (by simp only [size_set]; exact hz)]
    exact set4 _ _ _ _ h8
  · have := heap_alloc_new ((((w'.setCell ⟨wr.heap.size, 0, none⟩ a0).setCell ⟨wr.heap.size, 1, none⟩ a1).setCell ⟨wr.heap.size, 2, none⟩ a2).setCell ⟨wr.heap.size, 3, none⟩ a3) (.cells #[t0, t1, t2, t3, t4] 38)
    simp only [size_set] at this
    exact this

theorem cut8_4 (hb : Below (wr.alloc (.cells told0 38)).drew.heap.size (wr.alloc (.cells told0 38)).drew w') : Cut8 wr #[a0, a1, a2, a3] #[t0, t1, t2, t3, t4] (.pointer (some ⟨w'.heap.size, 0, none⟩)) (.pointer (some ⟨wr.heap.size, 0, none⟩))
    ((((((w'.setCell ⟨wr.heap.size, 0, none⟩ t0).setCell ⟨wr.heap.size, 1, none⟩ t1).setCell ⟨wr.heap.size, 2, none⟩ t2).setCell ⟨wr.heap.size, 3, none⟩ t3).setCell ⟨wr.heap.size, 4, none⟩ t4).alloc (.cells #[a0, a1, a2, a3] 36)) := by
  obtain ⟨h9, hz, hw⟩ := one_kept hb
  refine ⟨_, _, rfl, rfl, Nat.le_of_lt hz, Nat.le_refl _, ?_, ?_, below_more (below_set0 (below_set0 (below_set0 (below_set0 (below_set0 hw _ _) _ _) _ _) _ _) _ _) _⟩
  · have := heap_alloc_new (((((w'.setCell ⟨wr.heap.size, 0, none⟩ t0).setCell ⟨wr.heap.size, 1, none⟩ t1).setCell ⟨wr.heap.size, 2, none⟩ t2).setCell ⟨wr.heap.size, 3, none⟩ t3).setCell ⟨wr.heap.size, 4, none⟩ t4) (.cells #[a0, a1, a2, a3] 36)
    simp only [size_set] at this
    exact this
  · rw [Below.heap_alloc _ _ _ (by simp only [size_set]; exact hz)]
    exact set5 _ _ _ _ _ h9

theorem cut8_5 (hb : Below ((wr.alloc (.cells Z36 36)).alloc (.cells told0 38)).drew.heap.size ((wr.alloc (.cells Z36 36)).alloc (.cells told0 38)).drew w') : Cut8 wr #[a0, a1, a2, a3] #[t0, t1, t2, t3, t4] (.pointer (some ⟨wr.heap.size, 0, none⟩)) (.pointer (some ⟨wr.heap.size + 1, 0, none⟩))
    (((((((((w'.setCell ⟨wr.heap.size, 0, none⟩ a0).setCell ⟨wr.heap.size, 1, none⟩ a1).setCell ⟨wr.heap.size, 2, none⟩ a2).setCell ⟨wr.heap.size, 3, none⟩ a3).setCell ⟨wr.heap.size + 1, 0, none⟩ t0).setCell ⟨wr.heap.size + 1, 1, none⟩ t1).setCell ⟨wr.heap.size + 1, 2, none⟩ t2).setCell ⟨wr.heap.size + 1, 3, none⟩ t3).setCell ⟨wr.heap.size + 1, 4, none⟩ t4) := by
  obtain ⟨h8, h9, hz, hw⟩ := two_kept hb
  refine ⟨_, _, rfl, rfl, Nat.le_refl _, Nat.le_succ _, ?_, ?_, below_set1 (below_set1 (below_set1 (below_set1 (below_set1 (below_set0 (below_set0 (below_set0 (below_set0 hw _ _) _ _) _ _) _ _) _ _) _ _) _ _) _ _) _ _⟩
  · rw [Below.heap_setCell _ _ _ _ (by dsimp only; omega), Below.heap_setCell _ _ _ _ (by dsimp only; omega), Below.heap_setCell _ _ _ _ (by dsimp only; omega), Below.heap_setCell _ _ _ _ (by dsimp only; omega), Below.heap_setCell _ _ _ _ (by dsimp only; omega)]
    exact set4 _ _ _ _ h8
  · refine set5 (z0 := .int .i64 0) (z1 := .int .u64 0) (z2 := .bool false) (z3 := .string ⟨#[]⟩) (z4 := .int .i64 0) _ _ _ _ _ ?_
    rw [Below.heap_setCell _ _ _ _ (by dsimp only; omega), Below.heap_setCell _ _ _ _ (by dsimp only; omega), Below.heap_setCell _ _ _ _ (by dsimp only; omega), Below.heap_setCell _ _ _ _ (by dsimp only; omega)]
    exact h9

theorem cut8_6 (hb : Below ((wr.alloc (.cells told0 38)).alloc (.cells Z36 36)).drew.heap.size ((wr.alloc (.cells told0 38)).alloc (.cells Z36 36)).drew w') : Cut8 wr #[a0, a1, a2, a3] #[t0, t1, t2, t3, t4] (.pointer (some ⟨wr.heap.size + 1, 0, none⟩)) (.pointer (some ⟨wr.heap.size, 0, none⟩))
    (((((((((w'.setCell ⟨wr.heap.size + 1, 0, none⟩ a0).setCell ⟨wr.heap.size + 1, 1, none⟩ a1).setCell ⟨wr.heap.size + 1, 2, none⟩ a2).setCell ⟨wr.heap.size + 1, 3, none⟩ a3).setCell ⟨wr.heap.size, 0, none⟩ t0).setCell ⟨wr.heap.size, 1, none⟩ t1).setCell ⟨wr.heap.size, 2, none⟩ t2).setCell ⟨wr.heap.size, 3, none⟩ t3).setCell ⟨wr.heap.size, 4, none⟩ t4) := by
  obtain ⟨h9, h8, hz, hw⟩ := two_kept hb
  refine ⟨_, _, rfl, rfl, Nat.le_succ _, Nat.le_refl _, ?_, ?_, below_set0 (below_set0 (below_set0 (below_set0 (below_set0 (below_set1 (below_set1 (below_set1 (below_set1 hw _ _) _ _) _ _) _ _) _ _) _ _) _ _) _ _) _ _⟩
  · rw [Below.heap_setCell _ _ _ _ (by dsimp only; omega), Below.heap_setCell _ _ _ _ (by dsimp only; omega), Below.heap_setCell _ _ _ _ (by dsimp only; omega), Below.heap_setCell _ _ _ _ (by dsimp only; omega), Below.heap_setCell _ _ _ _ (by dsimp only; omega)]
    exact set4 _ _ _ _ h8
  · refine set5 (z0 := .int .i64 0) (z1 := .int .u64 0) (z2 := .bool false) (z3 := .string ⟨#[]⟩) (z4 := .int .i64 0) _ _ _ _ _ ?_
    rw [Below.heap_setCell _ _ _ _ (by dsimp only; omega), Below.heap_setCell _ _ _ _ (by dsimp only; omega), Below.heap_setCell _ _ _ _ (by dsimp only; omega), Below.heap_setCell _ _ _ _ (by dsimp only; omega)]
    exact h9
end

/-- The world behind 'w = x'. -/
theorem nine {w wr wc : World} {b g g9 b0 o : Nat} {s : ByteArray} {p0 : Nat} {c0' : Int} {p d c : Int} {z0 z1 z2 z3 t0 t1 t2 t3 t4 v0 v1 : Value} (href : wc.heap[g]? = some (.cells #[z0, z1, z2, z3] 36 (0, 0))) (h9 : wc.heap[g9]? = some (.cells #[t0, t1, t2, t3, t4] 38 (0, 0)))
    (hbw : Below wr.heap.size wr wc) (hok : Ok wr b s p0 c0') (hne : b ≠ g) (hlg : w.heap.size ≤ g) (hbo : b0 < w.heap.size) (hgI : g < wr.heap.size) (h9le : wr.heap.size ≤ g9) (l0 : wr.cell? ⟨b0, o, none⟩ = some v0) (l1 : wr.cell? ⟨b0, o + 1, none⟩ = some v1) (hbI : b0 < wr.heap.size) (F : World)
    (hFe : F = (((wc.setCell ⟨g, 0, none⟩ (.string s)).setCell ⟨g, 1, none⟩ (.int .i64 p)).setCell ⟨g, 2, none⟩ (.int .i64 d)).setCell ⟨g, 3, none⟩ (.int .i64 c)) :
    F.cell? ⟨b0, o, none⟩ = some v0 ∧ F.cell? ⟨b0, o + 1, none⟩ = some v1 ∧
    F.cell? ⟨g9, 0, none⟩ = some t0 ∧ F.cell? ⟨g9, 1, none⟩ = some t1 ∧ F.cell? ⟨g9, 2, none⟩ = some t2 ∧ F.cell? ⟨g9, 3, none⟩ = some t3 ∧ F.cell? ⟨g9, 4, none⟩ = some t4 ∧ Ok F b s p0 c0' ∧
    F.heap[g]? = some (.cells #[.string s, .int .i64 p, .int .i64 d, .int .i64 c] 36 (0, 0)) ∧ (∀ i, i < wr.heap.size → i ≠ g → F.heap[i]? = wr.heap[i]?) ∧ F.os = wr.os ∧ F.tape = wr.tape ∧ F.output = wr.output ∧ g9 < F.heap.size ∧ wr.heap.size ≤ F.heap.size := by
  have hg9 : g9 < wc.heap.size := by
    rcases Nat.lt_or_ge g9 wc.heap.size with h1 | h1
    · exact h1
    · rw [Array.getElem?_eq_none h1] at h9; cases h9
  have hF : ∀ i, i ≠ g → F.heap[i]? = wc.heap[i]? := by
    intro i hi
    rw [hFe, Below.heap_setCell _ _ _ _ (by dsimp only; omega), Below.heap_setCell _ _ _ _ (by dsimp only; omega), Below.heap_setCell _ _ _ _ (by dsimp only; omega), Below.heap_setCell _ _ _ _ (by dsimp only; omega)]
  have e9 := (hF g9 (by omega)).trans h9
  have hall : ∀ i, i < wr.heap.size → i ≠ g → F.heap[i]? = wr.heap[i]? := fun i hi hig => (hF i hig).trans (hbw.block i hi)
  have hsz : F.heap.size = wc.heap.size := by
    rw [hFe]
    simp only [size_set]
  have hg : F.heap[g]? = some (.cells #[.string s, .int .i64 p, .int .i64 d, .int .i64 c] 36 (0, 0)) := by rw [hFe]; exact set4 _ _ _ _ href
  have hos : F.os = wr.os := by rw [hFe]; exact hbw.os
  have hta : F.tape = wr.tape := by rw [hFe]; exact hbw.tape
  have hou : F.output = wr.output := by rw [hFe]; exact hbw.output
  clear hFe
  have hb0 : F.heap[b0]? = wr.heap[b0]? := hall b0 hbI (by omega)
  have c0 : F.cell? ⟨b0, o, none⟩ = some v0 := (World.cell?_of_block (w := wr) hb0).trans l0
  have c1 : F.cell? ⟨b0, o + 1, none⟩ = some v1 := (World.cell?_of_block (w := wr) hb0).trans l1
  have hrd : Rd F b s p0 c0' := (hall b hok.rd.lt hne).trans hok.rd
  exact ⟨c0, c1, cell_of_row F _ 0 _ _ _ e9, cell_of_row F _ 1 _ _ _ e9, cell_of_row F _ 2 _ _ _ e9, cell_of_row F _ 3 _ _ _ e9, cell_of_row F _ 4 _ _ _ e9, ⟨hrd, hok.fits, hok.within⟩, hg, hall, hos, hta, hou, by rw [hsz]; exact hg9, by rw [hsz]; exact hbw.size⟩

theorem at_quiet {w : World} {b : Nat} {s : ByteArray} {p : Nat} {c : Int} (h : Rd w b s p c) :
    Calls Try.prog 22 #[.pointer (some ⟨b, 0, none⟩)] w fun e w' => e = .returned (.int .i64 p) ∧ w' = w :=
  (at_any h).mono fun e w' ⟨he, hw⟩ => ⟨he, hw.symm⟩

set_option maxHeartbeats 1000000 in
theorem done_quiet {w : World} {b : Nat} {s : ByteArray} {p : Nat} {c : Int} (h : Ok w b s p c) :
    Calls Try.prog 17 #[.pointer (some ⟨b, 0, none⟩)] w fun e w' => e = .returned (.bool (doneOf s p c)) ∧ ∃ m, w' = w.drewN m := by
  have c0 := h.rd.cell0
  have c1 := h.rd.cell1
  have c2 := h.rd.cell2
  have hlt := h.rd.lt
  have hp := h.within
  have hfit := h.fits
  unfold maxLen at hfit
  clear h
  by_cases hc : c = 0
  · subst hc
    by_cases he : p = s.size
    · have hd : doneOf s p 0 = true := by simp [doneOf, he]
      rw [hd]; clear hd
      have g : ((p : Int) == (s.size : Int)) = true := by simp [he]
      have g' : (p == s.size) = true := by simp [he]
      have HE := Lib.hid he; clear he
      go_enter Try.func17, Try.ntmps17
      go_wp2
      go_quiet (fail)
      go_wp2
      go_ret
      exact ⟨rfl, _, rfl⟩
    · have hd : doneOf s p 0 = false := by simp [doneOf, he]
      rw [hd]; clear hd
      have g : ((p : Int) == (s.size : Int)) = false := by simp; omega
      have g' : (p == s.size) = false := by simp [he]
      have HE := Lib.hid he; clear he
      go_enter Try.func17, Try.ntmps17
      go_wp2
      go_quiet (fail)
      go_wp2
      go_ret
      exact ⟨rfl, _, rfl⟩
  · have hd : doneOf s p c = false := by simp [doneOf, hc]
    rw [hd]; clear hd
    have g : (c == 0) = false := by simpa using hc
    have HC := Lib.hid hc; clear hc
    go_enter Try.func17, Try.ntmps17
    go_wp2
    go_quiet (fail)
    go_wp2
    go_ret
    exact ⟨rfl, _, rfl⟩

theorem done_yes {w : World} {b : Nat} {s : ByteArray} {p : Nat} {c : Int} (h : Ok w b s p c) (hd : doneOf s p c = true) :
    Calls Try.prog 17 #[.pointer (some ⟨b, 0, none⟩)] w fun e w' => e = .returned (.bool true) ∧ ∃ m, w' = w.drewN m := by
  have := done_quiet h
  rw [hd] at this
  exact this
theorem done_no {w : World} {b : Nat} {s : ByteArray} {p : Nat} {c : Int} (h : Ok w b s p c) (hd : doneOf s p c = false) :
    Calls Try.prog 17 #[.pointer (some ⟨b, 0, none⟩)] w fun e w' => e = .returned (.bool false) ∧ ∃ m, w' = w.drewN m := by
  have := done_quiet h
  rw [hd] at this
  exact this

theorem Agree.drewN {w wr : World} {b g : Nat} {s : ByteArray} {p : Nat} {c : Int} (h : Agree w wr b g s p c) (n : Nat) : Agree w (wr.drewN n) b g s p c :=
  ⟨⟨h.ok.rd, h.ok.fits, h.ok.within⟩, h.ref, ⟨h.below.os, h.below.tape, h.below.output, h.below.size, h.below.block⟩, h.lb, h.lg, h.ne⟩

/-- The round, put together. -/
theorem ten {w wr W9 w' w2 : World} {b g : Nat} {s : ByteArray} {p p' : Nat} {c c' : Int} (hag : Agree w wr b g s p c) (hok9 : Ok W9 b s p c)
    (href : W9.heap[g]? = some (.cells #[.string s, .int .i64 p', .int .i64 (badOf p' c'), .int .i64 c'] 36 (0, 0))) (hall : ∀ i, i < wr.heap.size → i ≠ g → W9.heap[i]? = wr.heap[i]?)
    (hos : W9.os = wr.os) (hta : W9.tape = wr.tape) (hou : W9.output = wr.output) (hz : wr.heap.size ≤ W9.heap.size) (hg : g < wr.heap.size) (how : Only b W9 w') (hrd : Rd w' b s p' c') (hin : p' ≤ s.size) (hb2 : Below w'.heap.size w' w2) :
    Agree w w2 b g s p' c' := by
  have hne := hag.ne
  have hws := hag.below.size
  refine ⟨⟨hrd.below hb2, hag.ok.fits, hin⟩, ?_, ⟨?_, ?_, ?_, ?_, ?_⟩, hag.lb, hag.lg, hne⟩
  · rw [hb2.block g (by have := how.size; omega), how.block g (by omega) (Ne.symm hne)]
    exact href
  · rw [hb2.os, how.os, hos, hag.below.os]
  · rw [hb2.tape, how.tape, hta, hag.below.tape]
  · rw [hb2.output, how.output, hou, hag.below.output]
  · have := how.size; have := hb2.size; omega
  · intro i hi
    have := hag.lb; have := hag.lg; have := how.size
    rw [hb2.block i (by omega), how.block i (by omega) (by omega), hall i (by omega) (by omega), hag.below.block i hi]

theorem stepOf_told (s : ByteArray) (p : Nat) (c : Int) (j : Nat) (k : Int) : ∃ m n o t r, (stepOf s p c j k).1 = toldV m n o t r := by
  unfold stepOf
  split
  all_goals exact ⟨_, _, _, _, _, rfl⟩

theorem strOf_within (s : ByteArray) (p : Nat) (c : Int) (M : Nat) (k : Int) (hp : p ≤ s.size) : (strOf s p c M k).2.1 ≤ s.size := by
  have := (peekOf_size s p c hp).2.1
  unfold strOf
  simp only []
  split
  · exact hp
  · rename_i h1
    split
    · exact hp
    · simp only [not_or] at h1
      simp only []
      omega

theorem uintOf_in (s : ByteArray) (p : Nat) (c : Int) (hp : p ≤ s.size) : (uintOf s p c).2.1 ≤ s.size := by
  have := (peekOf_size s p c hp).2.1
  unfold uintOf
  simp only []
  split
  · exact this
  · exact hp

theorem arrOf_within (s : ByteArray) (p : Nat) (c : Int) (hp : p ≤ s.size) : (arrOf s p c).2.1 ≤ s.size := by
  have := (peekOf_size s p c hp).2.1
  unfold arrOf
  simp only []
  split
  · exact hp
  · split
    · exact hp
    · split
      · exact this
      · exact this

theorem stepOf_within (s : ByteArray) (p : Nat) (c : Int) (j : Nat) (k : Int) (hp : p ≤ s.size) : (stepOf s p c j k).2.1 ≤ s.size := by
  unfold stepOf
  split
  · exact (peekOf_size s p c hp).2.1
  · exact uintOf_in s p c hp
  · exact strOf_within s p c 2 k hp
  · exact strOf_within s p c 3 k hp
  · exact arrOf_within s p c hp
  · exact hp

set_option maxHeartbeats 4000000 in
set_option maxRecDepth 100000 in
theorem reads_walk (s : ByteArray) (A : Option Addr) (len cap : Nat) (K : Nat → Nat) (N : Nat → Int) (w : World) (hs : s.size ≤ maxLen) (hlen : len ≤ maxLen) (hops : Ops w A len K N)
    (h500 : s.size ≤ 500) (h40 : len ≤ 40) :
    Calls Try.prog 5 #[.string s, .slice A len cap] w fun e w' => e = .returned (.bool true) ∧ Below w.heap.size w w' := by
  have HOPS := Lib.hid hops; clear hops
  have HS := Lib.hid hs; clear hs hlen
  have g1 : decide ((500 : Int) < (s.size : Int)) = false := by simp; omega
  have g2 : decide ((40 : Int) < (len : Int)) = false := by simp; omega
  go_enter Try.func5, Try.ntmps5
  go_wp2_with fail
  refine (awake_any _).mono ?_
  rintro e w1 ⟨rfl, hb1⟩
  go_wp2_with fail
  refine (newReader_any _ _).mono ?_
  rintro e w2 ⟨rfl, rfl⟩
  go_wp2
  go_loopw [7] (fun i wr => ∃ k p c, k ≤ len ∧ i = .int .i64 (k : Nat) ∧ Agree w wr w1.heap.size (w1.heap.size + 1) s p c) (fun i _ => len - (intOf i).toNat)
  case atStart =>
    have hz := hb1.size
    refine ⟨0, 0, 0, Nat.zero_le _, rfl, ⟨⟨?_, HS.out, Nat.zero_le _⟩, ?_, below_more (below_more hb1 _) _, hz, Nat.le_succ_of_le hz, by omega⟩⟩
    · exact (heap_two w1 _ _).2
    · exact (heap_two w1 _ _).1
  case round =>
    obtain ⟨k, p, c, hk, rfl, hag⟩ := hrel
    by_cases hlt : k < len
    · obtain ⟨b0, off, rfl, hbo, hc0, hc1, hK, hN1, hN2⟩ := HOPS.out.at_ k hlt
      have hdo := fun W => do_any s p c (K k) (N k) W HS.out hag.ok.within hN1 hN2
      have hcall := fun W (h : Ok W w1.heap.size s p c) => call_any (K k) (N k) h hN1 hN2
      have hin := stepOf_within s p c (K k % 6) (N k) hag.ok.within
      obtain ⟨tm, tn, tO, tt, tk, htold⟩ := stepOf_told s p c (K k % 6) (N k)
      generalize stepOf s p c (K k % 6) (N k) = y at *
      obtain ⟨v, p', c'⟩ := y
      simp only [] at htold hin hdo hcall
      subst htold
      unfold DoPost at hdo
      unfold refV toldV at hdo
      unfold toldV at hcall
      simp only [] at hdo
      have HDO := Lib.hid hdo; clear hdo
      have HCALL := Lib.hid hcall; clear hcall
      have l0 := (hag.below.cell (p := ⟨b0, off + k * 2, none⟩) hbo).trans hc0
      have l1 := (hag.below.cell (p := ⟨b0, off + k * 2 + 1, none⟩) hbo).trans hc1
      have r0 := cell_of_row wr _ 0 _ _ _ hag.ref
      have r1 := cell_of_row wr _ 1 _ _ _ hag.ref
      have r2 := cell_of_row wr _ 2 _ _ _ hag.ref
      have r3 := cell_of_row wr _ 3 _ _ _ hag.ref
      simp only [List.getElem?_toArray, List.getElem?_cons_zero, List.getElem?_cons_succ] at r0 r1 r2 r3
      generalize hbe : badOf p c = be at *
      have HBE := Lib.hid hbe; clear hbe
      have HAG := Lib.hid hag; clear hag hc0 hc1
      have hbI : b0 < wr.heap.size := by have := HAG.out.below.size; omega
      have hgI : w1.heap.size + 1 < wr.heap.size := by
        rcases Nat.lt_or_ge (w1.heap.size + 1) wr.heap.size with h1 | h1
        · exact h1
        · have := HAG.out.ref
          rw [Array.getElem?_eq_none h1] at this
          cases this
      have hkp : ∀ w', Below wr.heap.size wr w' → w'.cell? ⟨w1.heap.size + 1, 0, none⟩ = some (.string s) ∧ w'.cell? ⟨w1.heap.size + 1, 1, none⟩ = some (.int .i64 p) ∧ w'.cell? ⟨w1.heap.size + 1, 2, none⟩ = some (.int .i64 be) ∧ w'.cell? ⟨w1.heap.size + 1, 3, none⟩ = some (.int .i64 c) ∧ w'.cell? ⟨b0, off + k * 2, none⟩ = some (.int .u8 (K k)) ∧ w'.cell? ⟨b0, off + k * 2 + 1, none⟩ = some (.int .i64 (N k)) := fun w' hw => ⟨(hw.cell (p := ⟨w1.heap.size + 1, 0, none⟩) hgI).trans r0, (hw.cell (p := ⟨w1.heap.size + 1, 1, none⟩) hgI).trans r1, (hw.cell (p := ⟨w1.heap.size + 1, 2, none⟩) hgI).trans r2, (hw.cell (p := ⟨w1.heap.size + 1, 3, none⟩) hgI).trans r3, (hw.cell (p := ⟨b0, off + k * 2, none⟩) hbI).trans l0, (hw.cell (p := ⟨b0, off + k * 2 + 1, none⟩) hbI).trans l1⟩
      have HKP := Lib.hid hkp; clear hkp
      go_upto_region 8 with fail
      go_cut [8, 9] (fun s8 s9 wc => Cut8 wr #[.string s, .int .i64 p', .int .i64 (badOf p' c'), .int .i64 c'] #[.int .i64 tm, .int .u64 tn, .bool tO, .string tt, .int .i64 tk] s8 s9 wc)
      case first =>
        go_region_held3 (fun w' => w'.cell? ⟨w1.heap.size + 1, 0, none⟩ = some (.string s) ∧ w'.cell? ⟨w1.heap.size + 1, 1, none⟩ = some (.int .i64 p) ∧ w'.cell? ⟨w1.heap.size + 1, 2, none⟩ = some (.int .i64 be) ∧ w'.cell? ⟨w1.heap.size + 1, 3, none⟩ = some (.int .i64 c) ∧ w'.cell? ⟨b0, off + k * 2, none⟩ = some (.int .u8 (K k)) ∧ w'.cell? ⟨b0, off + k * 2 + 1, none⟩ = some (.int .i64 (N k))) ((refine HKP.out _ ?_; repeat (first | (with_reducible assumption) | (with_reducible exact Below.refl _ _) | (with_reducible refine below_more ?_ _) | (with_reducible refine Below.drew ?_) | ((with_reducible apply below_setA); focus (first | exact Nat.le_refl _ | exact Nat.le_succ _)))))
          (first | (go_at_call 19; refine (HDO.out _).mono ?_; rintro e w' ⟨rfl, hb⟩; have hw : Below wr.heap.size wr w' := bel0 hb; have t0 := (hw.cell (p := ⟨w1.heap.size + 1, 0, none⟩) hgI).trans r0; have t1 := (hw.cell (p := ⟨w1.heap.size + 1, 1, none⟩) hgI).trans r1; have t2 := (hw.cell (p := ⟨w1.heap.size + 1, 2, none⟩) hgI).trans r2; have t3 := (hw.cell (p := ⟨w1.heap.size + 1, 3, none⟩) hgI).trans r3; have t4 := (hw.cell (p := ⟨b0, off + k * 2, none⟩) hbI).trans l0; have t5 := (hw.cell (p := ⟨b0, off + k * 2 + 1, none⟩) hbI).trans l1; have hzw := hw.size) | (go_at_call 19; refine (HDO.out _).mono ?_; rintro e w' ⟨rfl, hb⟩; have hw : Below wr.heap.size wr w' := below_after hb; have t0 := (hw.cell (p := ⟨w1.heap.size + 1, 0, none⟩) hgI).trans r0; have t1 := (hw.cell (p := ⟨w1.heap.size + 1, 1, none⟩) hgI).trans r1; have t2 := (hw.cell (p := ⟨w1.heap.size + 1, 2, none⟩) hgI).trans r2; have t3 := (hw.cell (p := ⟨w1.heap.size + 1, 3, none⟩) hgI).trans r3; have t4 := (hw.cell (p := ⟨b0, off + k * 2, none⟩) hbI).trans l0; have t5 := (hw.cell (p := ⟨b0, off + k * 2 + 1, none⟩) hbI).trans l1; have hzw := hw.size; have hc := old_cells hb; have hf := old_frozen hb; have z1 : wr.heap.size < w'.heap.size := (by have := hb.size; simp at this; omega)) | (go_at_call 19; refine (HDO.out _).mono ?_; rintro e w' ⟨rfl, hb⟩; have hw : Below wr.heap.size wr w' := bel2 hb; have t0 := (hw.cell (p := ⟨w1.heap.size + 1, 0, none⟩) hgI).trans r0; have t1 := (hw.cell (p := ⟨w1.heap.size + 1, 1, none⟩) hgI).trans r1; have t2 := (hw.cell (p := ⟨w1.heap.size + 1, 2, none⟩) hgI).trans r2; have t3 := (hw.cell (p := ⟨w1.heap.size + 1, 3, none⟩) hgI).trans r3; have t4 := (hw.cell (p := ⟨b0, off + k * 2, none⟩) hbI).trans l0; have t5 := (hw.cell (p := ⟨b0, off + k * 2 + 1, none⟩) hbI).trans l1; have hzw := hw.size; have hc := old_cells hb; have hf := old_frozen hb; have z1 : wr.heap.size < w'.heap.size := (by have := hb.size; simp at this; omega); have z2 : wr.heap.size + 1 < w'.heap.size := (by have := hb.size; simp at this; omega)))
        all_goals (go_wp2_with fail; go_meet)
        · exact cut8_1 hw
        · exact cut8_2 hw
        · exact cut8_3 hb
        · exact cut8_5 hb
        · exact cut8_4 hb
        · exact cut8_6 hb
      case rest =>
        obtain ⟨g8, g9, rfl, rfl, h8le, h9le, h8, h9, hbw⟩ := hcut
        have x0 := cell_of_row wc _ 0 _ _ _ h8
        have x1 := cell_of_row wc _ 1 _ _ _ h8
        have x2 := cell_of_row wc _ 2 _ _ _ h8
        have x3 := cell_of_row wc _ 3 _ _ _ h8
        simp only [List.getElem?_toArray, List.getElem?_cons_zero, List.getElem?_cons_succ] at x0 x1 x2 x3
        have href : wc.heap[w1.heap.size + 1]? = some (.cells #[.string s, .int .i64 p, .int .i64 be, .int .i64 c] 36 (0, 0)) := by
          rw [hbw.block _ hgI, HAG.out.ref, HBE.out]
        have v0 := cell_of_row wc _ 0 _ _ _ href
        have v1 := cell_of_row wc _ 1 _ _ _ href
        have v2 := cell_of_row wc _ 2 _ _ _ href
        have v3 := cell_of_row wc _ 3 _ _ _ href
        simp only [List.getElem?_toArray, List.getElem?_cons_zero, List.getElem?_cons_succ] at v0 v1 v2 v3
        have vf : ∀ i, wc.frozen? ⟨w1.heap.size + 1, i, none⟩ = false := free4 href
        have hnine := nine (s := s) (p := p') (d := badOf p' c') (c := c') href h9 hbw HAG.out.ok HAG.out.ne HAG.out.lg hbo hgI h9le l0 l1 hbI _ rfl
        have HNINE := Lib.hid hnine; clear hnine
        have H8 := Lib.hid h8; clear h8 h9 href
        have HBW := Lib.hid hbw; clear hbw
        clear r0 r1 r2 r3 l0 l1
        go_upto_region 10 with fail
        obtain ⟨y0, y1, k0, k1, k2, k3, k4, hok9, href9, hall9, hos9, hta9, hou9, hg9, hz9⟩ := HNINE.out
        generalize (((wc.setCell ⟨w1.heap.size + 1, 0, none⟩ (.string s)).setCell ⟨w1.heap.size + 1, 1, none⟩ (.int .i64 p')).setCell ⟨w1.heap.size + 1, 2, none⟩ (.int .i64 (badOf p' c'))).setCell ⟨w1.heap.size + 1, 3, none⟩ (.int .i64 c') = W9 at *
        have hgb : w1.heap.size ≠ g9 := by have := HAG.out.ok.rd.lt; omega
        have hgb0 : w1.heap.size ≠ b0 := by have := HAG.out.lb; omega
        have hb9I : b0 < W9.heap.size := by omega
        have hkp : ∀ w', Only w1.heap.size W9 w' → w'.cell? ⟨b0, off + k * 2, none⟩ = some (.int .u8 (K k)) ∧ w'.cell? ⟨b0, off + k * 2 + 1, none⟩ = some (.int .i64 (N k)) ∧ w'.cell? ⟨g9, 0, none⟩ = some (.int .i64 tm) ∧ w'.cell? ⟨g9, 1, none⟩ = some (.int .u64 tn) ∧ w'.cell? ⟨g9, 2, none⟩ = some (.bool tO) ∧ w'.cell? ⟨g9, 3, none⟩ = some (.string tt) ∧ w'.cell? ⟨g9, 4, none⟩ = some (.int .i64 tk) := fun w' hw => by
          have e0 : w'.heap[b0]? = W9.heap[b0]? := hw.block b0 hb9I (Ne.symm hgb0)
          have e9 : w'.heap[g9]? = W9.heap[g9]? := hw.block g9 hg9 (Ne.symm hgb)
          exact ⟨(World.cell?_of_block (w := W9) e0).trans y0, (World.cell?_of_block (w := W9) e0).trans y1, (World.cell?_of_block (w := W9) e9).trans k0, (World.cell?_of_block (w := W9) e9).trans k1, (World.cell?_of_block (w := W9) e9).trans k2, (World.cell?_of_block (w := W9) e9).trans k3, (World.cell?_of_block (w := W9) e9).trans k4⟩
        have HKQ := Lib.hid hkp; clear hkp
        have HOK9 := Lib.hid hok9; clear hok9
        have HREF9 := Lib.hid href9; clear href9
        have HALL9 := Lib.hid hall9; clear hall9
        have HMISC9 := Lib.hid (And.intro hos9 (And.intro hta9 hou9)); clear hos9 hta9 hou9 HNINE
        go_region_held3 (fun w' => w'.cell? ⟨b0, off + k * 2, none⟩ = some (.int .u8 (K k)) ∧ w'.cell? ⟨b0, off + k * 2 + 1, none⟩ = some (.int .i64 (N k)) ∧ w'.cell? ⟨g9, 0, none⟩ = some (.int .i64 tm) ∧ w'.cell? ⟨g9, 1, none⟩ = some (.int .u64 tn) ∧ w'.cell? ⟨g9, 2, none⟩ = some (.bool tO) ∧ w'.cell? ⟨g9, 3, none⟩ = some (.string tt) ∧ w'.cell? ⟨g9, 4, none⟩ = some (.int .i64 tk)) ((refine HKQ.out _ ?_; first | (with_reducible assumption) | exact (Only.refl _ _).drew | exact Only.refl _ _))
          (first | (go_at_call 20; refine (HCALL.out _ ⟨HOK9.out.rd.drew, HOK9.out.fits, HOK9.out.within⟩).mono ?_; rintro e w' ⟨rfl, hrd, ho⟩; have how : Only w1.heap.size W9 w' := (Only.refl _ _).drew.trans ho))
        go_wp2_with fail
        refine (bad_any hrd).mono ?_
        rintro e w2 ⟨rfl, hb2⟩
        have hten := ten HAG.out HOK9.out HREF9.out HALL9.out HMISC9.out.1 HMISC9.out.2.1 HMISC9.out.2.2 hz9 hgI how hrd hin hb2
        have HTEN := Lib.hid hten; clear hten
        have m0 := cell_of_row w2 _ 0 _ _ _ HTEN.out.ref
        have m1 := cell_of_row w2 _ 1 _ _ _ HTEN.out.ref
        have m2 := cell_of_row w2 _ 2 _ _ _ HTEN.out.ref
        have m3 := cell_of_row w2 _ 3 _ _ _ HTEN.out.ref
        simp only [List.getElem?_toArray, List.getElem?_cons_zero, List.getElem?_cons_succ] at m0 m1 m2 m3
        have hfin : ∀ n, Agree w (w2.drewN n) w1.heap.size (w1.heap.size + 1) s p' c' := fun n => HTEN.out.drewN n
        have HFIN := Lib.hid hfin; clear hfin
        have HOK2 := Lib.hid HTEN.out.ok
        have HRD2 := Lib.hid HTEN.out.ok.rd
        generalize badOf p' c' = bd at *
        have hinI : (p' : Int) ≤ (s.size : Int) := by omega
        clear hrd ho how hb2 hz9 hg9
        go_upto_region 13 with fail
        by_cases hc0 : c' = 0
        · subst hc0
          by_cases he : p' = s.size
          · have hd : doneOf s p' 0 = true := by simp [doneOf, he]
            have ge : ((p' : Int) == (s.size : Int)) = true := by simp [he]
            have ge' : (p' == s.size) = true := by simp [he]
            have HE := Lib.hid he; clear he
            have HD := Lib.hid hd; clear hd
            go_quiet ((first | (go_at_call 22; exact Calls.quiet_of_same (at_quiet (by exact HRD2.out))) | (go_at_call 17; exact Calls.quiet_of (done_yes (by exact ⟨HRD2.out, HOK2.out.fits, HOK2.out.within⟩) HD.out))))
            go_wp2
            go_roundw
            case rel => exact ⟨k + 1, p', 0, by omega, by go_num, HFIN.out _⟩
            case measure => simp [intOf]; omega
          · have hd : doneOf s p' 0 = false := by simp [doneOf, he]
            have ge : ((p' : Int) == (s.size : Int)) = false := by simp; omega
            have ge' : (p' == s.size) = false := by simp [he]
            have HE := Lib.hid he; clear he
            have HD := Lib.hid hd; clear hd
            go_quiet ((first | (go_at_call 22; exact Calls.quiet_of_same (at_quiet (by exact HRD2.out))) | (go_at_call 17; exact Calls.quiet_of (done_no (by exact ⟨HRD2.out, HOK2.out.fits, HOK2.out.within⟩) HD.out))))
            go_wp2
            go_roundw
            case rel => exact ⟨k + 1, p', 0, by omega, by go_num, HFIN.out _⟩
            case measure => simp [intOf]; omega
        · have hd : doneOf s p' c' = false := by simp [doneOf, hc0]
          have gc : (c' == 0) = false := by simpa using hc0
          have HC0 := Lib.hid hc0; clear hc0
          have HD := Lib.hid hd; clear hd
          go_quiet ((first | (go_at_call 22; exact Calls.quiet_of_same (at_quiet (by exact HRD2.out))) | (go_at_call 17; exact Calls.quiet_of (done_no (by exact ⟨HRD2.out, HOK2.out.fits, HOK2.out.within⟩) HD.out))))
          go_wp2
          go_roundw
          case rel => exact ⟨k + 1, p', c', by omega, by go_num, HFIN.out _⟩
          case measure => simp [intOf]; omega
    · go_wp2
      go_ret
      exact ⟨rfl, hag.below⟩

end Go.Proofs.Ytkaeklcmhoidjaa
