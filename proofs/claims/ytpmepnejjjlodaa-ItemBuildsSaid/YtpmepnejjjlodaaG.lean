/-
  Contracts of the reader's methods Fail and peek. Conditions: the reader lies in one block, and its text is no longer than memory allows.
-/
import Derived.Test.YtpmepnejjjlodaaF
import Derived.Deep.RegionWith
import Derived.Deep.DeepCutAuto
namespace Go.Proofs.Ytpmepnejjjlodaa
open Go.ChangeShapes Go.WideShapes Go.ChangeAt Go.RowKit
open Plain
set_option linter.unusedVariables false

/-- Block b is a reader of s, at p, with the error c. -/
def Rd (w : World) (b : Nat) (s : ByteArray) (p : Nat) (c : Int) : Prop := w.heap[b]? = some (.cells #[.string s, .int .i64 p, .int .i64 c] 73 (0, 0))

/-- Of all blocks that there were only b may have changed. -/
structure Only (b : Nat) (w w' : World) : Prop where
  os : w'.os = w.os
  tape : w'.tape = w.tape
  output : w'.output = w.output
  size : w.heap.size ≤ w'.heap.size
  block : ∀ k, k < w.heap.size → k ≠ b → w'.heap[k]? = w.heap[k]?

section
variable {w w' w'' : World} {b : Nat} {s : ByteArray} {p : Nat} {c : Int}
theorem Rd.lt (h : Rd w b s p c) : b < w.heap.size := by
  rcases Nat.lt_or_ge b w.heap.size with hlt | hge
  · exact hlt
  · unfold Rd at h
    rw [Array.getElem?_eq_none hge] at h
    cases h
theorem Rd.cell0 (h : Rd w b s p c) : w.cell? ⟨b, 0, none⟩ = some (.string s) := cell_of_row w b 0 _ 73 (0, 0) h
theorem Rd.cell1 (h : Rd w b s p c) : w.cell? ⟨b, 1, none⟩ = some (.int .i64 p) := cell_of_row w b 1 _ 73 (0, 0) h
theorem Rd.cell2 (h : Rd w b s p c) : w.cell? ⟨b, 2, none⟩ = some (.int .i64 c) := cell_of_row w b 2 _ 73 (0, 0) h
theorem Rd.frozen (h : Rd w b s p c) (i : Nat) : w.frozen? ⟨b, i, none⟩ = false := by
  unfold Rd at h
  simp [World.frozen?, h]
theorem Rd.set1 (h : Rd w b s p c) (q : Nat) : Rd (w.setCell ⟨b, 1, none⟩ (.int .i64 q)) b s q c := by
  unfold Rd at h ⊢
  simp [World.setCell, Array.getElem?_modify, h]
theorem Rd.set2 (h : Rd w b s p c) (d : Int) : Rd (w.setCell ⟨b, 2, none⟩ (.int .i64 d)) b s p d := by
  unfold Rd at h ⊢
  simp [World.setCell, Array.getElem?_modify, h]
theorem Rd.below (h : Rd w b s p c) (hb : Below w.heap.size w w') : Rd w' b s p c := (hb.block b h.lt).trans h
theorem Rd.keep {b' : Nat} (h : Rd w b s p c) (hb : Only b' w w') (hne : b ≠ b') : Rd w' b s p c := (hb.block b h.lt hne).trans h
theorem Rd.new (w : World) (s : ByteArray) : Rd (w.alloc (.cells #[.string s, .int .i64 0, .int .i64 0] 73)) w.heap.size s 0 0 := heap_alloc_new w _
theorem Only.refl (b : Nat) (w : World) : Only b w w := ⟨rfl, rfl, rfl, Nat.le_refl _, fun _ _ _ => rfl⟩
theorem Only.trans (h : Only b w w') (k : Only b w' w'') : Only b w w'' :=
  ⟨k.os.trans h.os, k.tape.trans h.tape, k.output.trans h.output, Nat.le_trans h.size k.size, fun i hi hne => (k.block i (Nat.lt_of_lt_of_le hi h.size) hne).trans (h.block i hi hne)⟩
theorem Only.of_below (h : Below w.heap.size w w') : Only b w w' := ⟨h.os, h.tape, h.output, h.size, fun i hi _ => h.block i hi⟩
theorem Only.below {B : Nat} (h : Only b w w') (hB : B ≤ w.heap.size) (hb : B ≤ b) : Below B w w' :=
  ⟨h.os, h.tape, h.output, h.size, fun i hi => h.block i (by omega) (by omega)⟩
theorem Only.set (h : Only b w w') (i : Nat) (u : Value) : Only b w (w'.setCell ⟨b, i, none⟩ u) :=
  h.trans ⟨rfl, rfl, rfl, by simp [World.setCell], fun k hk hne => Below.heap_setCell _ _ _ _ hne⟩
theorem Only.drew (h : Only b w w') : Only b w w'.drew := ⟨h.os, h.tape, h.output, h.size, h.block⟩
theorem Only.alloc (h : Only b w w') (o : Obj) : Only b w (w'.alloc o) := h.trans (Only.of_below ((Below.refl _ _).alloc (Nat.le_refl _) o))
end

theorem old_frozen {W w1 : World} (hb : Below W.heap.size W w1) : ∀ b o, b < W.heap.size → w1.frozen? ⟨b, o, none⟩ = W.frozen? ⟨b, o, none⟩ :=
  fun b o h => hb.frozen (p := ⟨b, o, none⟩) h

/-- (*Reader).Fail, where the reader has not failed. -/
theorem fail_first (w : World) (b : Nat) (s : ByteArray) (p : Nat) (d : Int) (h : Rd w b s p 0) :
    Calls Try.prog 30 #[.pointer (some ⟨b, 0, none⟩), .int .i64 d] w fun e w' => e = .returned (.tuple #[]) ∧ w.setCell ⟨b, 2, none⟩ (.int .i64 d) = w' := by
  have c2 := h.cell2
  have f2 := h.frozen 2
  clear h
  go_enter Try.func30, Try.ntmps30
  go_wp2
  go_end0
  exact ⟨rfl, rfl⟩

/-- (*Reader).Fail, where it has failed before. -/
theorem fail_again (w : World) (b : Nat) (s : ByteArray) (p : Nat) (c d : Int) (h : Rd w b s p c) (hc : c ≠ 0) :
    Calls Try.prog 30 #[.pointer (some ⟨b, 0, none⟩), .int .i64 d] w fun e w' => e = .returned (.tuple #[]) ∧ w = w' := by
  have c2 := h.cell2
  have g : (c == 0) = false := by simpa using hc
  clear h hc
  go_enter Try.func30, Try.ntmps30
  go_wp2
  go_end0
  exact ⟨rfl, rfl⟩

/-- The cells of a head. -/
def hdC (a b : Int) (c : Bool) (d : Int) : Array Value := #[.int .i64 a, .int .u64 b, .bool c, .int .i64 d]

/-- Where parse's answer lies, behind the statement that calls it. -/
def Parsed (w : World) (a b : Int) (c : Bool) (d : Int) (v : Value) (wc : World) : Prop :=
  ∃ g : Nat, v = .pointer (some ⟨g, 0, none⟩) ∧ w.heap.size < g ∧ wc.heap[g]? = some (.cells (hdC a b c d) 88 (0, 0)) ∧ wc.heap[w.heap.size]? = some (.cells (hdC 0 0 false 0) 88 (0, 0)) ∧ Below w.heap.size w wc

theorem parsed_late {w w' : World} {a b : Int} {c : Bool} {d : Int} (hb : Below (w.alloc (.cells (hdC 0 0 false 0) 88)).drew.heap.size (w.alloc (.cells (hdC 0 0 false 0) 88)).drew w') :
    Parsed w a b c d (.pointer (some ⟨w'.heap.size, 0, none⟩)) (w'.alloc (.cells (hdC a b c d) 88)) := by
  have hz : w.heap.size + 1 ≤ w'.heap.size := by have := hb.size; simpa using this
  refine ⟨_, rfl, by omega, heap_alloc_new w' _, ?_, (below_after hb).alloc (by omega) _⟩
  rw [Below.heap_alloc _ _ _ (by omega), hb.block _ (by simp)]
  exact heap_alloc_new w _

theorem set4 {w : World} {g : Nat} {z0 z1 z2 z3 : Value} {t : TypeId} (u0 u1 u2 u3 : Value) (h : w.heap[g]? = some (.cells #[z0, z1, z2, z3] t (0, 0))) :
    ((((w.setCell ⟨g, 0, none⟩ u0).setCell ⟨g, 1, none⟩ u1).setCell ⟨g, 2, none⟩ u2).setCell ⟨g, 3, none⟩ u3).heap[g]? = some (.cells #[u0, u1, u2, u3] t (0, 0)) := by
  simp [World.setCell, Array.getElem?_modify, h]

theorem parsed_early {w w' : World} {a b : Int} {c : Bool} {d : Int} (hb : Below ((w.alloc (.cells (hdC 0 0 false 0) 88)).alloc (.cells (hdC 0 0 false 0) 88)).drew.heap.size ((w.alloc (.cells (hdC 0 0 false 0) 88)).alloc (.cells (hdC 0 0 false 0) 88)).drew w') :
    Parsed w a b c d (.pointer (some ⟨w.heap.size + 1, 0, none⟩)) ((((w'.setCell ⟨w.heap.size + 1, 0, none⟩ (.int .i64 a)).setCell ⟨w.heap.size + 1, 1, none⟩ (.int .u64 b)).setCell ⟨w.heap.size + 1, 2, none⟩ (.bool c)).setCell ⟨w.heap.size + 1, 3, none⟩ (.int .i64 d)) := by
  have hz : w.heap.size + 2 ≤ w'.heap.size := by have := hb.size; simpa using this
  have h1 : w'.heap[w.heap.size + 1]? = some (.cells (hdC 0 0 false 0) 88 (0, 0)) := by
    rw [hb.block _ (by simp)]
    have := heap_alloc_new (w.alloc (.cells (hdC 0 0 false 0) 88)) (.cells (hdC 0 0 false 0) 88)
    rw [World.size_alloc] at this
    exact this
  have h0 : w'.heap[w.heap.size]? = some (.cells (hdC 0 0 false 0) 88 (0, 0)) := by
    rw [hb.block _ (by simp; omega)]
    show ((w.alloc _).alloc _).heap[w.heap.size]? = _
    rw [Below.heap_alloc _ _ _ (by simp)]
    exact heap_alloc_new w _
  refine ⟨_, rfl, by omega, set4 _ _ _ _ h1, ?_, ?_⟩
  · rw [Below.heap_setCell _ _ _ _ (by simp), Below.heap_setCell _ _ _ _ (by simp), Below.heap_setCell _ _ _ _ (by simp), Below.heap_setCell _ _ _ _ (by simp)]
    exact h0
  · have hbw : Below w.heap.size w w' := ((((Below.refl w.heap.size w).alloc (Nat.le_refl _) _).alloc (by simp) _).drew).trans (hb.mono (by simp; omega))
    exact (((hbw.setCell (by simp) _).setCell (by simp) _).setCell (by simp) _).setCell (by simp) _

theorem cells4 {w : World} {g : Nat} {a b : Int} {c : Bool} {d : Int} (h : w.heap[g]? = some (.cells (hdC a b c d) 88 (0, 0))) :
    w.cell? ⟨g, 0, none⟩ = some (.int .i64 a) ∧ w.cell? ⟨g, 1, none⟩ = some (.int .u64 b) ∧ w.cell? ⟨g, 2, none⟩ = some (.bool c) ∧ w.cell? ⟨g, 3, none⟩ = some (.int .i64 d) :=
  ⟨cell_of_row w g 0 _ 88 (0, 0) h, cell_of_row w g 1 _ 88 (0, 0) h, cell_of_row w g 2 _ 88 (0, 0) h, cell_of_row w g 3 _ 88 (0, 0) h⟩

theorem free4 {w : World} {g : Nat} {cs : Array Value} {t : TypeId} (h : w.heap[g]? = some (.cells cs t (0, 0))) (i : Nat) : w.frozen? ⟨g, i, none⟩ = false := by
  simp [World.frozen?, h]

set_option maxHeartbeats 1000000 in
theorem peek_some (w : World) (b : Nat) (s : ByteArray) (p : Nat) (x : Hd) (hs : s.size ≤ maxLen) (hp : p ≤ s.size) (h : Rd w b s p 0) (hx : headL (s.data.toList.drop p) = some x) :
    Calls Try.prog 56 #[.pointer (some ⟨b, 0, none⟩)] w fun e w' => e = .returned (hdV x) ∧ Below w.heap.size w w' := by
  have c0 := h.cell0
  have c1 := h.cell1
  have c2 := h.cell2
  have hlt := h.lt
  have hz : (s.extract p s.size).size ≤ maxLen := by simp; omega
  have hr : ∀ (W : World) (e : Ending) (w' : World), ParsePost (s.extract p s.size).data.toList W e w' → e = .returned (.tuple #[hdV x, .bool true]) ∧ Below W.heap.size W w' := by
    intro W e w' hpp
    unfold ParsePost at hpp
    rw [Lib.extract_to_end, hx] at hpp
    exact hpp
  have HR := Lib.hid hr; clear hr
  have HZ := Lib.hid hz; clear hz
  have HX := Lib.hid hx; clear hx
  unfold maxLen at hs
  have hp' : (p : Int) ≤ (s.size : Int) := by omega
  clear h
  go_enter Try.func56, Try.ntmps56
  go_upto_region 3 with fail
  go_cut [3, 4] (fun s3 s4 wc => Parsed w x.major x.n x.op x.size s3 wc ∧ s4 = .bool true)
  case first =>
    go_region_with (go_at_call 68; refine (parse_any _ _ HZ.out).mono ?_; intro e w' hpp; obtain ⟨he, hb⟩ := HR.out _ _ _ hpp; subst he; clear hpp; have hc := old_cells hb; have hf := old_frozen hb; have hz := hb.size; simp only [hdV])
    all_goals (go_wp2_with fail; go_meet)
    all_goals first | exact ⟨parsed_late hb, rfl⟩ | exact ⟨parsed_early hb, rfl⟩
  case rest =>
    obtain ⟨hpd, rfl⟩ := hcut
    obtain ⟨g, rfl, hg, hgc, hrc, hbw⟩ := hpd
    obtain ⟨k0, k1, k2, k3⟩ := cells4 hgc
    obtain ⟨r0, r1, r2, r3⟩ := cells4 hrc
    have hfz : ∀ i, wc.frozen? ⟨w.heap.size, i, none⟩ = false := free4 hrc
    have hb4 : Below w.heap.size w ((((wc.setCell ⟨w.heap.size, 0, none⟩ (.int .i64 x.major)).setCell ⟨w.heap.size, 1, none⟩ (.int .u64 x.n)).setCell ⟨w.heap.size, 2, none⟩ (.bool x.op)).setCell ⟨w.heap.size, 3, none⟩ (.int .i64 x.size)) := (((hbw.setCell (by simp) _).setCell (by simp) _).setCell (by simp) _).setCell (by simp) _
    have HB4 := Lib.hid hb4; clear hb4
    obtain ⟨q0, q1, q2, q3⟩ := cells4 (a := x.major) (b := x.n) (c := x.op) (d := x.size) (set4 _ _ _ _ hrc)
    clear hgc hrc hbw
    go_wp2
    refine bodyPost_ret (v := hdV x) (by simp [results, Try.results56, go_sem, hdV, q0, q1, q2, q3]) rfl ⟨rfl, HB4.out⟩

end Go.Proofs.Ytpmepnejjjlodaa
