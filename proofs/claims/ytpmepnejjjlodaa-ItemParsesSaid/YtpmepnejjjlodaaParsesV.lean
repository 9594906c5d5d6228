/-
  The walk of ItemParses. Conditions: none.
-/
import Derived.Test.YtpmepnejjjlodaaParsesW
import Derived.Test.YtpmepnejjjlodaaCount
namespace Go.Proofs.Ytpmepnejjjlodaa
open Go.ChangeShapes Go.WideShapes Go.ChangeAt Go.RowKit
open Plain
set_option linter.unusedVariables false

theorem countZero_any (W : World) (A : Option Addr) (cap : Nat) (h : Lies W W.heap.size zeroIt (itV zeroIt (.slice A 0 cap))) (W' : World) (hb : Below W.heap.size W W') :
    Calls Try.prog 17 #[.agg #[.int .i64 0, .int .u64 0, .string ⟨#[]⟩, .slice A 0 cap, .bool false], .int .i64 2] W' fun e w' => e = .returned (.int .i64 1) ∧ Below W'.heap.size W' w' := by
  have := count_any zeroIt 2 W' W.heap.size _ (by omega) hb.size (h.keep hb)
  have hc : countOf zeroIt 2 = 1 := by simp [zeroIt, countOf, countL]; rfl
  rw [hc] at this
  exact this

set_option maxHeartbeats 1000000 in
set_option maxRecDepth 100000 in
theorem parses_big (s : ByteArray) (w : World) (hs : s.size ≤ maxLen) (hb : 800 < s.size) : Calls Try.prog 4 #[.string s] w fun e w' => e = .returned (.bool true) ∧ Below w.heap.size w w' := by
  unfold maxLen at hs
  have g1 : decide ((800 : Int) < (s.size : Int)) = true := by simp; omega
  go_enter Try.func4, Try.ntmps4
  go_wp2_with fail
  refine (awake_any _).mono ?_
  rintro e w1 ⟨rfl, hb1⟩
  have H1 := Lib.hid hb1; clear hb1
  go_wp2_with fail
  refine (awake_any _).mono ?_
  rintro e w2 ⟨rfl, hb2⟩
  have H2 := Lib.hid (H1.out.trans (hb2.mono H1.out.size)); clear hb2
  go_wp2
  go_ret
  exact ⟨rfl, H2.out⟩

set_option maxHeartbeats 2000000 in
set_option maxRecDepth 100000 in
/-- Bytes that are no item's. E, F: what the reference tells; c: the error. -/
theorem parses_no (s : ByteArray) (w : World) (hs : s.size ≤ 800) (a : Nat) (c f : Int) (hp : parseOf s.data.toList = (zeroIt, (a : Int), c)) (hc : c ≠ 0)
    (hfault : ∀ W : World, Calls Try.prog 16 #[.string s, .int .i64 0, .int .i64 8] W fun e w' => e = .returned (.tuple #[.int .i64 a, .int .i64 f]) ∧ Below W.heap.size W w')
    (hf : (f = c) ∨ (f = 0 ∧ c = 2 ∧ a < s.size)) :
    Calls Try.prog 4 #[.string s] w fun e w' => e = .returned (.bool true) ∧ Below w.heap.size w w' := by
  have hparse := fun W => parse_all s W (by omega)
  unfold ParsedPost at hparse
  rw [hp] at hparse
  simp only [] at hparse
  have hcz := countZero_any
  have HCZ := Lib.hid hcz; clear hcz
  have HPA := Lib.hid hparse; clear hparse
  have HFA := Lib.hid hfault; clear hfault
  have hsI : (s.size : Int) ≤ 800 := by omega
  have g1 : decide ((800 : Int) < (s.size : Int)) = false := by simp; omega
  have gc : (c == 0) = false := by simpa using hc
  have gc2 : (c != 0) = true := by simpa using hc
  have HP := Lib.hid hp; clear hp
  rcases hf with rfl | ⟨rfl, rfl, hlt⟩
  · go_enter Try.func4, Try.ntmps4
    go_wp2_with fail
    refine (awake_any _).mono ?_
    rintro e w1 ⟨rfl, hb1⟩
    have H1 := Lib.hid hb1; clear hb1
    go_wp2_with fail
    refine (HPA.out _).mono ?_
    rintro e w2 ⟨v, rfl, hl2, hb2⟩
    obtain ⟨A, cap, rfl, _⟩ := hl2.out
    have H2 := Lib.hid (H1.out.trans (hb2.mono H1.out.size)); clear hb2
    have HL2 := Lib.hid hl2; clear hl2
    simp only [itV, zeroIt, It.kind, It.n, It.s, It.l, It.opn, List.length_nil] at HL2 ⊢
    go_wp2_with fail
    refine (HFA.out _).mono ?_
    rintro e w3 ⟨rfl, hb3⟩
    have hbel : Below w2.heap.size w2 w3 := ((Below.refl _ _).alloc (Nat.le_refl _) _).trans (hb3.mono (by simp))
    have H3 := Lib.hid (H2.out.trans (hbel.mono H2.out.size))
    have hy := hb3.block w2.heap.size (by simp)
    rw [heap_alloc_new] at hy
    have y0 := cell_of_row w3 _ 0 _ _ _ hy
    have y1 := cell_of_row w3 _ 1 _ _ _ hy
    have y2 := cell_of_row w3 _ 2 _ _ _ hy
    have y3 := cell_of_row w3 _ 3 _ _ _ hy
    have y4 := cell_of_row w3 _ 4 _ _ _ hy
    simp only [List.getElem?_toArray, List.getElem?_cons_zero, List.getElem?_cons_succ] at y0 y1 y2 y3 y4
    have hcount := HCZ.out w2 A cap HL2.out w3 hbel
    have HCOUNT := Lib.hid hcount; clear hcount hb3
    have HY := Lib.hid hy; clear hy
    have HBEL := Lib.hid hbel; clear hbel
    go_wp2_with fail
    refine HCOUNT.out.mono ?_
    rintro e w4 ⟨rfl, hb4⟩
    have H4 := Lib.hid (H3.out.trans (hb4.mono H3.out.size))
    have hy4 := (hb4.block w2.heap.size (lt_of_some HY.out)).trans HY.out
    clear y0 y1 y2 y3 y4
    have y0 := cell_of_row w4 _ 0 _ _ _ hy4
    have y1 := cell_of_row w4 _ 1 _ _ _ hy4
    simp only [List.getElem?_toArray, List.getElem?_cons_zero, List.getElem?_cons_succ] at y0 y1
    clear hb4 hy4
    go_wp2
    go_ret
    exact ⟨rfl, H4.out⟩
  · have hltI : (a : Int) < (s.size : Int) := by omega
    go_enter Try.func4, Try.ntmps4
    go_wp2_with fail
    refine (awake_any _).mono ?_
    rintro e w1 ⟨rfl, hb1⟩
    have H1 := Lib.hid hb1; clear hb1
    go_wp2_with fail
    refine (HPA.out _).mono ?_
    rintro e w2 ⟨v, rfl, hl2, hb2⟩
    obtain ⟨A, cap, rfl, _⟩ := hl2.out
    have H2 := Lib.hid (H1.out.trans (hb2.mono H1.out.size)); clear hb2
    have HL2 := Lib.hid hl2; clear hl2
    simp only [itV, zeroIt, It.kind, It.n, It.s, It.l, It.opn, List.length_nil] at HL2 ⊢
    go_wp2_with fail
    refine (HFA.out _).mono ?_
    rintro e w3 ⟨rfl, hb3⟩
    have hbel : Below w2.heap.size w2 w3 := ((Below.refl _ _).alloc (Nat.le_refl _) _).trans (hb3.mono (by simp))
    have H3 := Lib.hid (H2.out.trans (hbel.mono H2.out.size))
    have hy := hb3.block w2.heap.size (by simp)
    rw [heap_alloc_new] at hy
    have y0 := cell_of_row w3 _ 0 _ _ _ hy
    have y1 := cell_of_row w3 _ 1 _ _ _ hy
    have y2 := cell_of_row w3 _ 2 _ _ _ hy
    have y3 := cell_of_row w3 _ 3 _ _ _ hy
    have y4 := cell_of_row w3 _ 4 _ _ _ hy
    simp only [List.getElem?_toArray, List.getElem?_cons_zero, List.getElem?_cons_succ] at y0 y1 y2 y3 y4
    have hcount := HCZ.out w2 A cap HL2.out w3 hbel
    have HCOUNT := Lib.hid hcount; clear hcount hb3
    have HY := Lib.hid hy; clear hy
    have HBEL := Lib.hid hbel; clear hbel
    go_wp2_with fail
    refine HCOUNT.out.mono ?_
    rintro e w4 ⟨rfl, hb4⟩
    have H4 := Lib.hid (H3.out.trans (hb4.mono H3.out.size))
    have hy4 := (hb4.block w2.heap.size (lt_of_some HY.out)).trans HY.out
    clear y0 y1 y2 y3 y4
    have y0 := cell_of_row w4 _ 0 _ _ _ hy4
    have y1 := cell_of_row w4 _ 1 _ _ _ hy4
    simp only [List.getElem?_toArray, List.getElem?_cons_zero, List.getElem?_cons_succ] at y0 y1
    clear hb4 hy4
    go_wp2
    go_ret
    exact ⟨rfl, H4.out⟩

set_option maxHeartbeats 2000000 in
set_option maxRecDepth 100000 in
/-- Bytes of an item. -/
theorem parses_yes (s : ByteArray) (w : World) (hs : s.size ≤ 800) (x : It) (hp : parseOf s.data.toList = (x, -1, 0)) (hv : validB x 8 = true) (hby : bytesOf x = s.data.toList)
    (hfault : ∀ W : World, Calls Try.prog 16 #[.string s, .int .i64 0, .int .i64 8] W fun e w' => e = .returned (.tuple #[.int .i64 s.size, .int .i64 0]) ∧ Below W.heap.size W w') :
    Calls Try.prog 4 #[.string s] w fun e w' => e = .returned (.bool true) ∧ Below w.heap.size w w' := by
  have hparse := fun W => parse_all s W (by omega)
  unfold ParsedPost at hparse
  rw [hp] at hparse
  simp only [] at hparse
  have hpl : plainB x = true := by have h := hv; rw [valid_deep] at h; simp only [Bool.and_eq_true] at h; exact h.2
  have hbl : (bytesOf x).length ≤ 1000000 := by have h1 : s.data.toList.length = s.size := size_data s; have h2 : (bytesOf x).length = s.data.toList.length := congrArg List.length hby; omega
  have hri := fun (W : World) (B : Nat) (v : Value) (hB : B ≤ W.heap.size) (hl : Lies W B x v) => refRight_any x W B v hB hl
  rw [right_valid, hv] at hri
  have hbt := fun (W : World) (B : Nat) (v : Value) (hB : B ≤ W.heap.size) (hl : Lies W B x v) => bytesR_any x W B v hB hl hpl hbl
  have hbe : (⟨(bytesOf x).toArray⟩ : ByteArray) = s := by rw [hby]
  rw [hbe] at hbt
  have HRI := Lib.hid hri; clear hri
  have HBT := Lib.hid hbt; clear hbt
  have HPA := Lib.hid hparse; clear hparse
  have HFA := Lib.hid hfault; clear hfault
  have hsI : (s.size : Int) ≤ 800 := by omega
  have g1 : decide ((800 : Int) < (s.size : Int)) = false := by simp; omega
  have HP := Lib.hid (And.intro hp (And.intro hv (And.intro hby (And.intro hpl (And.intro hbl hbe))))); clear hp hv hby hpl hbl hbe
  go_enter Try.func4, Try.ntmps4
  go_wp2_with fail
  refine (awake_any _).mono ?_
  rintro e w1 ⟨rfl, hb1⟩
  have H1 := Lib.hid hb1; clear hb1
  go_wp2_with fail
  refine (HPA.out _).mono ?_
  rintro e w2 ⟨v, rfl, hl2, hb2⟩
  obtain ⟨A, cap, rfl, _⟩ := hl2.out
  have H2 := Lib.hid (H1.out.trans (hb2.mono H1.out.size)); clear hb2
  have HL2 := Lib.hid hl2; clear hl2
  simp only [itV] at HL2 ⊢
  go_wp2_with fail
  refine (HFA.out _).mono ?_
  rintro e w3 ⟨rfl, hb3⟩
  have hbx := (Boxed.new w2 x (.slice A x.l.length cap)).next hb3
  have y0 := hbx.c0
  have y1 := hbx.c1
  have y2 := hbx.c2
  have y3 := hbx.c3
  have y4 := hbx.c4
  have hr3 := HRI.out w3 w2.heap.size _ hbx.below.size (HL2.out.keep hbx.below)
  have HR3 := Lib.hid hr3; clear hr3
  have HB3 := Lib.hid hbx; clear hbx hb3
  go_wp2_with fail
  refine HR3.out.mono ?_
  rintro e w4 ⟨rfl, hb4⟩
  have hbx := HB3.out.next hb4
  clear y0 y1 y2 y3 y4
  have y0 := hbx.c0
  have y1 := hbx.c1
  have y2 := hbx.c2
  have y3 := hbx.c3
  have y4 := hbx.c4
  have hr4 := HBT.out w4 w2.heap.size _ hbx.below.size (HL2.out.keep hbx.below)
  have HR4 := Lib.hid hr4; clear hr4
  have HB4 := Lib.hid hbx; clear hbx hb4
  go_wp2_with fail
  refine HR4.out.mono ?_
  rintro e w5 ⟨rfl, hb5⟩
  have HB5 := Lib.hid (HB4.out.next hb5); clear hb5
  have hfin := H2.out.trans (HB5.out.below.mono H2.out.size)
  have HFIN := Lib.hid hfin; clear hfin
  go_wp2
  go_ret
  exact ⟨rfl, HFIN.out⟩

theorem parses_walk (s : ByteArray) (w : World) (hs : s.size ≤ maxLen) : Calls Try.prog 4 #[.string s] w fun e w' => e = .returned (.bool true) ∧ Below w.heap.size w w' := by
  by_cases hb : 800 < s.size
  · exact parses_big s w hs hb
  have h8 : s.size ≤ 800 := by omega
  have hfa := fun W => fault_any s h8 8 (by omega) W 0 (Nat.zero_le _)
  simp only [List.drop_zero] at hfa
  have hg := read_good 8 s.data.toList (by rw [size_data]; omega)
  cases hr : readItem 8 s.data.toList with
  | err a c =>
    rw [hr] at hfa hg
    obtain ⟨g1, g2⟩ := hg
    have hp : parseOf s.data.toList = (zeroIt, (a : Int), c) := by unfold parseOf; rw [hr]
    refine parses_no s w h8 a c c hp (by omega) ?_ (.inl rfl)
    intro W
    have := hfa W
    unfold FaultPost at this
    simpa [resOf] using this
  | ok x u =>
    rw [hr] at hfa hg
    obtain ⟨g1, g2, g3, g4⟩ := hg
    rw [size_data] at g1
    by_cases hu : u = s.size
    · have hp : parseOf s.data.toList = (x, -1, 0) := by unfold parseOf; rw [hr, size_data]; simp [hu]
      refine parses_yes s w h8 x hp g3 ?_ ?_
      · rw [g2, hu, ← size_data, List.take_length]
      · intro W
        have := hfa W
        unfold FaultPost at this
        simpa [resOf, hu] using this
    · have hp : parseOf s.data.toList = (zeroIt, (u : Int), 2) := by unfold parseOf; rw [hr, size_data]; simp [hu]
      refine parses_no s w h8 u 2 0 hp (by decide) ?_ (.inr ⟨rfl, rfl, by omega⟩)
      intro W
      have := hfa W
      unfold FaultPost at this
      simpa [resOf] using this

end Go.Proofs.Ytpmepnejjjlodaa
