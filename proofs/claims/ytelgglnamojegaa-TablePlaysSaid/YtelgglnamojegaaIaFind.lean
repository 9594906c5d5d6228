/-
  Contracts of table's find and of what it calls: the test of a key, slices.IndexFunc, the deferred function. Conditions: the table is in order.
-/
import Derived.Test.YtelgglnamojegaaTab
import Derived.Deep.LoopGhost
import Derived.Defers
import Derived.Recover
import Derived.Laws.Pointers
namespace Go.Proofs.Ytelgglnamojegaa.Ia
open Go.ChangeShapes Go.WideShapes Go.ChangeAt Go.RowKit
set_option linter.unusedVariables false

/-- The test finds another key. -/
theorem pred_no (x k : Int) (y : ByteArray) (hb : Nat) (w : World) (hc : w.cell? ⟨hb, 0, none⟩ = some (.int .i64 k)) (hne : x ≠ k) :
    Calls Try.prog 35 #[.agg #[(.int .i64 x), (.string y)], .pointer (some ⟨hb, 0, none⟩)] w fun e w' => e = .returned (.bool false) ∧ Below w.heap.size w w' := by
  have g : (x == k) = false := by simpa using hne
  have hlt : hb < w.heap.size := lt_of_cell hc
  clear hne
  go_enter Try.func35, Try.ntmps35
  go_wp2
  go_ret
  exact ⟨rfl, (Below.refl _ _).alloc (Nat.le_refl _) _⟩

/-- The test finds the key. -/
theorem pred_yes (k : Int) (y : ByteArray) (hb : Nat) (w : World) (hc : w.cell? ⟨hb, 0, none⟩ = some (.int .i64 k)) :
    Calls Try.prog 35 #[.agg #[(.int .i64 k), (.string y)], .pointer (some ⟨hb, 0, none⟩)] w fun e w' => e = .returned (.bool true) ∧ Below w.heap.size w w' := by
  have g : (k == k) = true := by simp
  have hlt : hb < w.heap.size := lt_of_cell hc
  go_enter Try.func35, Try.ntmps35
  go_wp2
  go_ret
  exact ⟨rfl, (Below.refl _ _).alloc (Nat.le_refl _) _⟩

/-- slices.IndexFunc at no entries. -/
theorem index_nil (A : Option Addr) (cap : Nat) (f : Value) (w : World) : Calls Try.prog 34 #[.slice A 0 cap, f] w fun e w' => e = .returned (.int .i64 (-1)) ∧ Below w.heap.size w w' := by
  go_enter Try.func34, Try.ntmps34
  go_wp2
  go_loopw [8] (fun i wr => i = .int .i64 0 ∧ w = wr) (fun _ _ => 0)
  case atStart => exact ⟨rfl, rfl⟩
  case round =>
    obtain ⟨rfl, rfl⟩ := hrel
    go_wp2
    go_ret
    exact ⟨rfl, Below.refl _ _⟩

/-- How entries lie for slices.IndexFunc. -/
structure Lie (g hb : Nat) (k : Int) (es : List (Int × ByteArray)) (w : World) : Prop where
  keys : ∀ (j : Nat) (e : Int × ByteArray), es[j]? = some e → w.cell? ⟨g, j * 2, none⟩ = some (.int .i64 e.1)
  vals : ∀ (j : Nat) (e : Int × ByteArray), es[j]? = some e → w.cell? ⟨g, j * 2 + 1, none⟩ = some (.string e.2)
  key : w.cell? ⟨hb, 0, none⟩ = some (.int .i64 k)
  lt : g < w.heap.size

theorem Lie.next {g hb : Nat} {k : Int} {es : List (Int × ByteArray)} {w w' : World} (h : Lie g hb k es w) (b : Below w.heap.size w w') : Lie g hb k es w' :=
  ⟨fun j e he => (b.cell (p := ⟨g, j * 2, none⟩) h.lt).trans (h.keys j e he), fun j e he => (b.cell (p := ⟨g, j * 2 + 1, none⟩) h.lt).trans (h.vals j e he), (b.cell (p := ⟨hb, 0, none⟩) (lt_of_cell h.key)).trans h.key, Nat.lt_of_lt_of_le h.lt b.size⟩

set_option maxHeartbeats 1000000 in
/-- slices.IndexFunc with the test of a key that is the i-th. -/
theorem index_hit (g cap hb : Nat) (k : Int) (es : List (Int × ByteArray)) (i : Nat) (w : World) (hl : Lie g hb k es w) (hh : Hit es k i) (hn : es.length ≤ 9223372036854775807) :
    Calls Try.prog 34 #[.slice (some ⟨g, 0, none⟩) es.length cap, .func (.func 35) #[] #[.pointer (some ⟨hb, 0, none⟩)]] w fun e w' => e = .returned (.int .i64 i) ∧ Below w.heap.size w w' := by
  have hi := hh.lt
  have HL := Lib.hid hl; clear hl
  have HH := Lib.hid hh; clear hh
  generalize hN : es.length = n at *
  have HN := Lib.hid hN; clear hN
  go_enter Try.func34, Try.ntmps34
  go_wp2
  go_loopw [5, 8] (fun _ s wr => ∃ j : Nat, j ≤ i ∧ s = .int .i64 j ∧ Below w.heap.size w wr) (fun _ s _ => i - (intOf s).toNat)
  case atStart => exact ⟨0, Nat.zero_le _, rfl, Below.refl _ _⟩
  case round =>
    obtain ⟨j, hj, rfl, hbw⟩ := hrel
    have hjn : j < n := by omega
    have hjz : (j : Int) < (n : Int) := by omega
    obtain ⟨⟨x, y⟩, he⟩ : ∃ e, es[j]? = some e := ⟨_, List.getElem?_eq_getElem (by rw [HN.out]; exact hjn)⟩
    have hl := HL.out.next hbw
    have c1 := hl.keys j _ he
    have c2 := hl.vals j _ he
    have ck := hl.key
    have HE := Lib.hid he; clear he
    have HB := Lib.hid hbw; clear hbw
    have CK := Lib.hid ck; clear ck
    clear hl
    by_cases hji : j = i
    · subst hji
      obtain ⟨⟨y', hy'⟩, _⟩ := HH.out
      obtain ⟨rfl, rfl⟩ : x = k ∧ y = y' := by
        have := HE.out.symm.trans hy'
        simpa using this
      clear hy'
      go_wp2_with fail
      refine (pred_yes _ _ hb _ CK.out).mono ?_
      rintro e w1 ⟨rfl, hb1⟩
      go_wp2
      go_ret
      exact ⟨rfl, HB.out.trans (hb1.mono HB.out.size)⟩
    · have hne : x ≠ k := HH.out.2 j _ (by omega) HE.out
      go_wp2_with fail
      refine (pred_no _ _ _ hb _ CK.out hne).mono ?_
      rintro e w1 ⟨rfl, hb1⟩
      clear hne
      go_wp2
      go_roundw
      case rel => exact ⟨j + 1, by omega, by go_num, HB.out.trans (hb1.mono HB.out.size)⟩
      case measure => simp [intOf]; omega

set_option maxHeartbeats 1000000 in
/-- slices.IndexFunc with the test of a key that is not there. -/
theorem index_miss (g cap hb : Nat) (k : Int) (es : List (Int × ByteArray)) (w : World) (hl : Lie g hb k es w) (hh : Miss es k) (hn : es.length ≤ 9223372036854775807) :
    Calls Try.prog 34 #[.slice (some ⟨g, 0, none⟩) es.length cap, .func (.func 35) #[] #[.pointer (some ⟨hb, 0, none⟩)]] w fun e w' => e = .returned (.int .i64 (-1)) ∧ Below w.heap.size w w' := by
  have HL := Lib.hid hl; clear hl
  have HH := Lib.hid hh; clear hh
  generalize hN : es.length = n at *
  have HN := Lib.hid hN; clear hN
  go_enter Try.func34, Try.ntmps34
  go_wp2
  go_loopw [5, 8] (fun _ s wr => ∃ j : Nat, j ≤ n ∧ s = .int .i64 j ∧ Below w.heap.size w wr) (fun _ s _ => n - (intOf s).toNat)
  case atStart => exact ⟨0, Nat.zero_le _, rfl, Below.refl _ _⟩
  case round =>
    obtain ⟨j, hj, rfl, hbw⟩ := hrel
    by_cases hjn : j < n
    · have hjz : (j : Int) < (n : Int) := by omega
      obtain ⟨⟨x, y⟩, he⟩ : ∃ e, es[j]? = some e := ⟨_, List.getElem?_eq_getElem (by rw [HN.out]; exact hjn)⟩
      have hl := HL.out.next hbw
      have c1 := hl.keys j _ he
      have c2 := hl.vals j _ he
      have ck := hl.key
      have HE := Lib.hid he; clear he
      have HB := Lib.hid hbw; clear hbw
      have CK := Lib.hid ck; clear ck
      clear hl
      have hne : x ≠ k := HH.out j _ HE.out
      go_wp2_with fail
      refine (pred_no _ _ _ hb _ CK.out hne).mono ?_
      rintro e w1 ⟨rfl, hb1⟩
      clear hne
      go_wp2
      go_roundw
      case rel => exact ⟨j + 1, by omega, by go_num, HB.out.trans (hb1.mono HB.out.size)⟩
      case measure => simp [intOf]; omega
    · have hjz : ¬ (j : Int) < (n : Int) := by omega
      go_wp2
      go_ret
      exact ⟨rfl, hbw⟩

/-- The deferred function finds no panic. -/
theorem catch_idle (p : Addr) (w : World) :
    CallsD Try.prog 33 #[.pointer (some p)] .returning w fun e u' w' => e = .returned (.tuple #[]) ∧ u' = .returning ∧ w' = w := by
  refine callsD_of_wpS Try.func33 rfl fun c₀ cs hu => ?_
  apply wpS_seq
  apply wpS_region
  simp [wpOpsS, go_sem, recoverD, hu, Try.ntmps33, Exit.thenS]
  refine wpS_cond (t := false) (by simp [Act.eval, Array.replicate]) ?_
  simp only [Bool.false_eq_true, if_false]
  refine wpS_of_wp (wp_skip ?_)
  cases c₀
  simp_all [bodyPostS, results, Try.results33]

/-- find, where slices.IndexFunc answers r. -/
theorem find_by (b : Nat) (A : Option Addr) (n cap : Nat) (k : Int) (r : Int) (w : World) (hc : w.cell? ⟨b, 1, none⟩ = some (.slice A n cap))
    (hi : Calls Try.prog 34 #[.slice A n cap, .func (.func 35) #[] #[.pointer (some ⟨w.heap.size, 0, none⟩)]] ((w.alloc (.cells #[(.int .i64 k)] 3)).alloc (.cells #[.int .i64 0] 3)) fun e w' => e = .returned (.int .i64 r) ∧ Below (w.heap.size + 2) ((w.alloc (.cells #[(.int .i64 k)] 3)).alloc (.cells #[.int .i64 0] 3)) w') :
    Calls Try.prog 25 #[.pointer (some ⟨b, 0, none⟩), (.int .i64 k)] w fun e w' => e = .returned (.int .i64 r) ∧ Below w.heap.size w w' := by
  have hlt : b < w.heap.size := lt_of_cell hc
  have hmf : ∀ (fn : Fn) (first cap : Array Value) (w : World), (Instr.makeFunc fn first cap).run Try.prog w = .ok (.func fn first cap) w := fun _ _ _ _ => rfl
  have HI := Lib.hid hi; clear hi
  go_enter_defers Try.func25, Try.ntmps25
  go_wp2_with fail
  refine HI.out.mono ?_
  rintro e w1 ⟨rfl, hb1⟩
  have hat : w1.heap[w.heap.size + 1]? = some (.cells #[.int .i64 0] 3 (0, 0)) := by
    rw [hb1.block _ (by omega)]
    have := heap_alloc_new (w.alloc (.cells #[(.int .i64 k)] 3)) (.cells #[.int .i64 0] 3)
    rw [World.size_alloc] at this
    exact this
  have hz : w.heap.size + 1 < w1.heap.size := lt_of_block hat
  have c1 : w1.cell? ⟨w.heap.size + 1, 0, none⟩ = some (.int .i64 0) := cell_of_row _ _ 0 _ _ _ hat
  have f1 := free_of_block hat 0
  have HB := Lib.hid hb1; clear hb1 hat
  go_wp2
  refine leaves_cons (f := 33) (args := #[.pointer (some ⟨w.heap.size + 1, 0, none⟩)]) (by simp) (by simp [go_sem]) ?_
  refine (catch_idle ⟨w.heap.size + 1, 0, none⟩ _).mono ?_
  rintro e u' w'' ⟨rfl, rfl, rfl⟩
  simp [Leaves, settle, results, Try.results25, go_sem, c1]
  exact (((((Below.refl w.heap.size w).alloc (Nat.le_refl _) _).alloc (by simp) _).trans (HB.out.mono (by omega))).setCell (p := ⟨w.heap.size + 1, 0, none⟩) (by show w.heap.size ≤ w.heap.size + 1; omega) _)

/-- find, where the key is the i-th. -/
theorem find_hit (b : Nat) (v : Value) (most : Nat) (es : List (Int × ByteArray)) (k : Int) (i : Nat) (w : World) (h : Tab 57 62 (Value.int .i64) Value.string w b v most es) (hh : Hit es k i) :
    Calls Try.prog 25 #[.pointer (some ⟨b, 0, none⟩), (.int .i64 k)] w fun e w' => e = .returned (.int .i64 i) ∧ Below w.heap.size w w' := by
  have hlt := hh.lt
  have c1 := h.cell1
  rcases h.form with ⟨rfl, rfl⟩ | ⟨g, cap, cur, rfl, hne, hg, hcap, hm, hsz, htake⟩
  · simp at hlt
  · refine find_by b (some ⟨g, 0, none⟩) es.length cap k i w c1 ?_
    have hgl := lt_of_block hg
    have hb2 : Below w.heap.size w ((w.alloc (.cells #[(.int .i64 k)] 3)).alloc (.cells #[.int .i64 0] 3)) := ((Below.refl _ _).alloc (Nat.le_refl _) _).alloc (by simp) _
    refine (index_hit g cap w.heap.size k es i _ ⟨?_, ?_, ?_, ?_⟩ hh (by omega)).mono ?_
    · intro j e he; exact (hb2.cell (p := ⟨g, j * 2, none⟩) hgl).trans (key_cell hg htake he)
    · intro j e he; exact (hb2.cell (p := ⟨g, j * 2 + 1, none⟩) hgl).trans (val_cell hg htake he)
    · exact box_cell w _ _ _ _
    · simp; omega
    · rintro e w' ⟨he, hb⟩
      exact ⟨he, hb.mono (by simp)⟩

/-- find, where the key is not there. -/
theorem find_miss (b : Nat) (v : Value) (most : Nat) (es : List (Int × ByteArray)) (k : Int) (w : World) (h : Tab 57 62 (Value.int .i64) Value.string w b v most es) (hh : Miss es k) :
    Calls Try.prog 25 #[.pointer (some ⟨b, 0, none⟩), (.int .i64 k)] w fun e w' => e = .returned (.int .i64 (-1)) ∧ Below w.heap.size w w' := by
  have c1 := h.cell1
  rcases h.form with ⟨rfl, rfl⟩ | ⟨g, cap, cur, rfl, hne, hg, hcap, hm, hsz, htake⟩
  · refine find_by b none 0 0 k (-1) w c1 ?_
    refine (index_nil none 0 _ _).mono ?_
    rintro e w' ⟨he, hb⟩
    exact ⟨he, hb.mono (by simp)⟩
  · refine find_by b (some ⟨g, 0, none⟩) es.length cap k (-1) w c1 ?_
    have hgl := lt_of_block hg
    have hb2 : Below w.heap.size w ((w.alloc (.cells #[(.int .i64 k)] 3)).alloc (.cells #[.int .i64 0] 3)) := ((Below.refl _ _).alloc (Nat.le_refl _) _).alloc (by simp) _
    refine (index_miss g cap w.heap.size k es _ ⟨?_, ?_, ?_, ?_⟩ hh (by omega)).mono ?_
    · intro j e he; exact (hb2.cell (p := ⟨g, j * 2, none⟩) hgl).trans (key_cell hg htake he)
    · intro j e he; exact (hb2.cell (p := ⟨g, j * 2 + 1, none⟩) hgl).trans (val_cell hg htake he)
    · exact box_cell w _ _ _ _
    · simp; omega
    · rintro e w' ⟨he, hb⟩
      exact ⟨he, hb.mono (by simp)⟩

end Go.Proofs.Ytelgglnamojegaa.Ia
