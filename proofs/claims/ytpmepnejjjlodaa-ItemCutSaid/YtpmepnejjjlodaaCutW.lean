/-
  The walk of ItemCut. Conditions: the item lies in memory.
-/
import Derived.Test.YtpmepnejjjlodaaParse
import Derived.Test.YtpmepnejjjlodaaSound
namespace Go.Proofs.Ytpmepnejjjlodaa
open Go.ChangeShapes Go.WideShapes Go.ChangeAt Go.RowKit
open Plain
set_option linter.unusedVariables false

/-- No beginning of an item's bytes is an item's. -/
theorem cut_parse {x : It} (hf : AllFit x) (hv : validB x 8 = true) (hl : (bytesOf x).length ≤ 140737488355328) {k : Nat} (hk : k < (bytesOf x).length) :
    ∃ (a : Nat) (c : Int), parseOf ((bytesOf x).take k) = (zeroIt, (a : Int), c) ∧ a ≤ k ∧ c ≠ 0 := by
  have hlen : ((bytesOf x).take k).length = k := by rw [List.length_take]; omega
  have hg := read_good 8 ((bytesOf x).take k) (by omega)
  unfold parseOf
  cases hr : readItem 8 ((bytesOf x).take k) with
  | err a c =>
    rw [hr] at hg
    obtain ⟨h1, h2⟩ := hg
    exact ⟨a, c, rfl, by omega, by omega⟩
  | ok y u =>
    rw [hr] at hg
    obtain ⟨h1, h2, h3, h4⟩ := hg
    by_cases hu : u = ((bytesOf x).take k).length
    · exfalso
      rw [hlen] at hu
      subst hu
      rw [List.take_of_length_le (by omega)] at h2
      have hy := read_back y 8 ((bytesOf x).drop u) h4 h3
      rw [h2, List.take_append_drop] at hy
      have hx := read_back x 8 [] hf hv
      rw [List.append_nil] at hx
      rw [hx] at hy
      injection hy with _ hy
      omega
    · simp only [hu, if_false]
      exact ⟨u, 2, rfl, by omega, by decide⟩

theorem cut_run (t : List UInt8) (k : Nat) (hl : t.length ≤ 140737488355328) (w : World) {a : Nat} {c : Int} (hp : parseOf (t.take k) = (zeroIt, (a : Int), c)) :
    Calls Try.prog 14 #[.string ((⟨t.toArray⟩ : ByteArray).extract 0 k)] w fun e w' => ∃ A cap, e = .returned (.tuple #[itV zeroIt (.slice A 0 cap), .int .i64 a, .int .i64 c]) ∧ Lies w' w'.heap.size zeroIt (itV zeroIt (.slice A 0 cap)) ∧ Below w.heap.size w w' := by
  have hd : ((⟨t.toArray⟩ : ByteArray).extract 0 k).data.toList = t.take k := by
    rw [ByteArray.data_extract]
    simp
  have hsz : ((⟨t.toArray⟩ : ByteArray).extract 0 k).size ≤ 140737488355328 := by
    rw [← size_data, hd, List.length_take]
    omega
  refine (parse_all _ w hsz).mono ?_
  rintro e w' ⟨v, he, hl', hb⟩
  rw [hd, hp] at he hl'
  simp only [] at he hl'
  obtain ⟨A, cap, rfl, _⟩ := hl'.out
  exact ⟨A, cap, he, hl', hb⟩

theorem count_zero (W : World) (A : Option Addr) (cap : Nat) (h : Lies W W.heap.size zeroIt (itV zeroIt (.slice A 0 cap))) (W' : World) (hb : Below W.heap.size W W') :
    Calls Try.prog 17 #[.agg #[.int .i64 0, .int .u64 0, .string ⟨#[]⟩, .slice A 0 cap, .bool false], .int .i64 2] W' fun e w' => e = .returned (.int .i64 1) ∧ Below W'.heap.size W' w' := by
  have := count_any zeroIt 2 W' W.heap.size _ (by omega) hb.size (h.keep hb)
  have hc : countOf zeroIt 2 = 1 := by simp [zeroIt, countOf, countL]; rfl
  rw [hc] at this
  exact this

set_option maxHeartbeats 4000000 in
set_option maxRecDepth 100000 in
theorem cut_walk (x : It) (n : Nat) (hn : n < 65536) (w : World) (B : Nat) (v : Value) (hB : B ≤ w.heap.size) (hx : Lies w B x v) :
    Calls Try.prog 6 #[v, .int .u16 n] w fun e w' => e = .returned (.bool true) ∧ Below w.heap.size w w' := by
  have hfit := hx.allFit
  obtain ⟨A, cap, rfl, hf, he⟩ := hx.out
  have f1 := fun W (h : Boxed w x (.slice A x.l.length cap) W) => few_any x 2000 W B _ (by omega) (by have := h.lt; omega) (hx.keep (h.below.mono hB))
  have r1 := fun W (h : Boxed w x (.slice A x.l.length cap) W) => refRight_any x W B _ (by have := h.lt; omega) (hx.keep (h.below.mono hB))
  have b1 := fun W (h : Boxed w x (.slice A x.l.length cap) W) (hp : plainB x = true) (hl : (bytesOf x).length ≤ 1000000) => bytesR_any x W B _ (by have := h.lt; omega) (hx.keep (h.below.mono hB)) hp hl
  rw [right_valid] at r1
  simp only [itV] at f1 r1 b1 ⊢
  have F1 := Lib.hid f1; clear f1
  have R1 := Lib.hid r1; clear r1
  have B1 := Lib.hid b1; clear b1
  have HX := Lib.hid hx; clear hx he hf
  have HFIT := Lib.hid hfit; clear hfit
  have hnI : (n : Int) ≤ 65535 := by omega
  have HNN := Lib.hid hn; clear hn
  cases h1 : fewB x 2000
  · rw [h1] at F1
    have H1 := Lib.hid h1; clear h1
    go_enter Try.func6, Try.ntmps6
    go_wp2_with fail
    refine (awake_any _).mono ?_
    rintro e w1 ⟨rfl, hb1⟩
    have hbx := (Boxed.new w x (.slice A x.l.length cap)).next hb1
    have c0 := hbx.c0
    have c1 := hbx.c1
    have c2 := hbx.c2
    have c3 := hbx.c3
    have c4 := hbx.c4
    have HB := Lib.hid hbx; clear hbx hb1
    go_wp2_with fail
    refine (F1.out _ HB.out).mono ?_
    rintro e w2 ⟨rfl, hb2⟩
    have HB2 := Lib.hid (HB.out.next hb2); clear hb2
    go_wp2_with fail
    refine (awake_any _).mono ?_
    rintro e w3 ⟨rfl, hb3⟩
    have HB3 := Lib.hid (HB2.out.next hb3); clear hb3
    go_wp2
    go_ret
    exact ⟨rfl, HB3.out.below⟩
  rw [h1] at F1
  have hlx := few_len h1
  have H1 := Lib.hid h1; clear h1
  have HLX := Lib.hid hlx; clear hlx
  go_enter Try.func6, Try.ntmps6
  go_wp2_with fail
  refine (awake_any _).mono ?_
  rintro e w1 ⟨rfl, hb1⟩
  have hbx := (Boxed.new w x (.slice A x.l.length cap)).next hb1
  have c0 := hbx.c0
  have c1 := hbx.c1
  have c2 := hbx.c2
  have c3 := hbx.c3
  have c4 := hbx.c4
  have HB := Lib.hid hbx; clear hbx hb1
  go_wp2_with fail
  refine (F1.out _ HB.out).mono ?_
  rintro e w2 ⟨rfl, hb2⟩
  clear c0 c1 c2 c3 c4
  have hbx := HB.out.next hb2
  have c0 := hbx.c0
  have c1 := hbx.c1
  have c2 := hbx.c2
  have c3 := hbx.c3
  have c4 := hbx.c4
  have HB2 := Lib.hid hbx; clear hbx hb2
  go_wp2_with fail
  refine (R1.out _ HB2.out).mono ?_
  cases hv : validB x 8
  · have HV := Lib.hid hv; clear hv
    rintro e w3 ⟨rfl, hb3⟩
    have HB3 := Lib.hid (HB2.out.next hb3); clear hb3
    clear c0 c1 c2 c3 c4
    go_wp2_with fail
    refine (awake_any _).mono ?_
    rintro e w4 ⟨rfl, hb4⟩
    have HB4 := Lib.hid (HB3.out.next hb4); clear hb4
    go_wp2
    go_ret
    exact ⟨rfl, HB4.out.below⟩
  have hp : plainB x = true := by have h := hv; rw [valid_deep] at h; simp only [Bool.and_eq_true] at h; exact h.2
  have hbz := fun W h => B1.out W h hp (by have := HLX.out; omega)
  have hne := bytesOf_ne x
  have hpos : 0 < (bytesOf x).length := by
    cases hb : bytesOf x with
    | nil => exact absurd hb hne
    | cons a r => simp
  have hkl : n % (bytesOf x).length < (bytesOf x).length := Nat.mod_lt _ hpos
  obtain ⟨a, c, hpa, hak, hc⟩ := cut_parse HFIT.out hv (by have := HLX.out; omega) hkl
  have hrun := fun W => cut_run (bytesOf x) (n % (bytesOf x).length) (by have := HLX.out; omega) W hpa
  have hsz : (⟨(bytesOf x).toArray⟩ : ByteArray).size = (bytesOf x).length := by show (bytesOf x).toArray.size = _; simp
  have hcz := count_zero
  have HCZ := Lib.hid hcz; clear hcz
  have HBZ := Lib.hid hbz; clear hbz B1
  have HRUN := Lib.hid hrun; clear hrun
  have hszI : ((⟨(bytesOf x).toArray⟩ : ByteArray).size : Int) ≤ 20000 := by rw [hsz]; have := HLX.out; omega
  have hszP : (0 : Int) < ((⟨(bytesOf x).toArray⟩ : ByteArray).size : Int) := by rw [hsz]; omega
  generalize hK : n % (bytesOf x).length = K at *
  rw [← hsz] at hK hkl
  generalize hq : (⟨(bytesOf x).toArray⟩ : ByteArray) = q at *
  have HV := Lib.hid (And.intro hv (And.intro hp (And.intro hne (And.intro hpos (And.intro hsz hpa))))); clear hv hp hne hpos hsz hpa
  have HQ := Lib.hid hq; clear hq
  have hKI : (K : Int) ≤ (q.size : Int) := by omega
  have hKe : (n : Int) % (q.size : Int) = (K : Int) := by rw [← hK]; simp
  have hK0 : (0 : Int) ≤ (K : Int) := by omega
  have hakI : (a : Int) ≤ (K : Int) := by omega
  have gc : (c == 0) = false := by simpa using hc
  have gc2 : (c != 0) = true := by simpa using hc
  have HK := Lib.hid (And.intro hK hkl); clear hK hkl
  rintro e w3 ⟨rfl, hb3⟩
  clear c0 c1 c2 c3 c4
  have hbx := HB2.out.next hb3
  have c0 := hbx.c0
  have c1 := hbx.c1
  have c2 := hbx.c2
  have c3 := hbx.c3
  have c4 := hbx.c4
  have HB3 := Lib.hid hbx; clear hbx hb3
  go_wp2_with fail
  refine (HBZ.out _ HB3.out).mono ?_
  rintro e w4 ⟨rfl, hb4⟩
  have HB4 := Lib.hid (HB3.out.next hb4); clear hb4
  clear c0 c1 c2 c3 c4
  go_wp2_with fail
  refine (HRUN.out _).mono ?_
  rintro e w5 ⟨A5, cap5, rfl, hl5, hb5⟩
  have HB5 := Lib.hid (HB4.out.next hb5); clear hb5
  have hcount := HCZ.out w5 A5 cap5 hl5 (w5.alloc (.cells #[.int .i64 0, .int .u64 0, .string ⟨#[]⟩, .slice A5 0 cap5, .bool false] 25)) ((Below.refl _ _).alloc (Nat.le_refl _) _)
  have HCOUNT := Lib.hid hcount; clear hcount hl5
  simp only [itV, zeroIt, It.kind, It.n, It.s, It.opn]
  go_wp2_with fail
  refine HCOUNT.out.mono ?_
  rintro e w6 ⟨rfl, hb6⟩
  have HB6 := Lib.hid ((HB5.out.alloc _).next hb6)
  have hy := hb6.block w5.heap.size (by simp)
  rw [heap_alloc_new] at hy
  have y0 := cell_of_row w6 _ 0 _ _ _ hy
  have y1 := cell_of_row w6 _ 1 _ _ _ hy
  simp only [List.getElem?_toArray, List.getElem?_cons_zero, List.getElem?_cons_succ] at y0 y1
  clear hb6 hy
  go_wp2
  go_ret
  exact ⟨rfl, HB6.out.below⟩

end Go.Proofs.Ytpmepnejjjlodaa
