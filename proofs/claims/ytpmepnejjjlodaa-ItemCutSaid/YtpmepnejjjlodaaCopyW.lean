/-
  Contract of item's copyList at two leaves. Conditions: none but that the leaves lie in memory.
-/
import Derived.Test.YtpmepnejjjlodaaCopyO
import Derived.Maps.Own
namespace Go.Proofs.Ytpmepnejjjlodaa
open Go.ChangeShapes Go.WideShapes Go.ChangeAt Go.RowKit Go.MapKept
open Plain
set_option linter.unusedVariables false

theorem Cp.made (W : World) : Cp W W.heap.size #[] 0 (.slice none 0 0) [] 0 ((W.alloc (.map #[] 0)).alloc (.cells #[.map (some W.heap.size), .slice none 0 0, .int .u64 0] 81)) := by
  refine ⟨((Below.refl _ _).alloc (Nat.le_refl _) _).alloc (by simp) _, ?_, ?_, ⟨rfl, .inl ⟨rfl, rfl⟩⟩⟩
  · rw [Below.heap_alloc _ _ _ (by simp)]; exact heap_alloc_new W _
  · have := heap_alloc_new (W.alloc (.map #[] 0)) (.cells #[.map (some W.heap.size), .slice none 0 0, .int .u64 0] 81)
    simpa using this

theorem Copied.popped {W X X' : World} {M g K : Nat} {k : Int} {n : Nat} {s : ByteArray} {k' : Int} {n' : Nat} {s' : ByteArray} {g' cap S cp : Nat} {v : Value} (h : Copied W M g K k n s k' n' s' g' cap S cp 1 [v] X) (hc : Cp W M (oneMap g K) 1 (.slice (some ⟨S, 0, none⟩) 0 cp) [] 2 X') (ho : ∀ i, i ≠ M + 1 → X'.heap[i]? = X.heap[i]?) : Copied W M g K k n s k' n' s' g' cap S cp 0 [] X' := by
  obtain ⟨h1, h2, h3, _, cur, h5, h6⟩ := h
  exact ⟨h1, h2, h3, hc, cur, (ho g' (by omega)).trans h5, h6⟩
theorem Copied.alloc {W X : World} {M g K : Nat} {k : Int} {n : Nat} {s : ByteArray} {k' : Int} {n' : Nat} {s' : ByteArray} {g' cap S cp : Nat} (h : Copied W M g K k n s k' n' s' g' cap S cp 0 [] X) (o : Obj) : Copied W M g K k n s k' n' s' g' cap S cp 0 [] (X.alloc o) := by
  obtain ⟨h1, h2, h3, h4, cur, h5, h6⟩ := h
  exact ⟨h1, h2, h3, h4.next ((Below.refl _ _).alloc (Nat.le_refl _) o), cur, (Below.heap_alloc _ _ _ (lt_of_obj h5)).trans h5, h6⟩

/-- The states of the outer loop. -/
def Walks (W : World) (M g K : Nat) (k : Int) (n : Nat) (s : ByteArray) (k' : Int) (n' : Nat) (s' : ByteArray) (g' cap S cp : Nat) (X : World) : Prop :=
  Copied W M g K k n s k' n' s' g' cap S cp 1 [.slice (some ⟨g', 0, none⟩) 2 cap] X ∨ Copied W M g K k n s k' n' s' g' cap S cp 0 [] X

set_option maxHeartbeats 4000000 in
set_option maxRecDepth 100000 in
theorem copyList_two (k : Int) (n : Nat) (s : ByteArray) (k' : Int) (n' : Nat) (s' : ByteArray) (g : Nat) (w : World) (hg : w.heap[g]? = some (.cells (twoCells k n s k' n' s').toArray 25 (0, 0))) :
    Calls Try.prog 34 #[.slice (some ⟨g, 0, none⟩) 2 2] w fun e w' => ∃ g' cap cur, e = .returned (.slice (some ⟨g', 0, none⟩) 2 cap) ∧ w.heap.size ≤ g' ∧
      w'.heap[g']? = some (.cells cur 25 (0, 0)) ∧ (∀ (i : Nat) (u : Value), (twoCells k n s k' n' s')[i]? = some u → cur[i]? = some u) ∧ Below w.heap.size w w' := by
  have hco := count_two w w.heap.size g 2 _ (Cp.made w) k n s k' n' s' hg rfl
  have HCO := Lib.hid hco; clear hco
  have HG := Lib.hid hg; clear hg
  have hmm := @run_makeMap Try.prog
  go_enter Try.func34, Try.ntmps34
  go_wp2_with fail
  refine HCO.out.mono ?_
  rintro e w1 ⟨rfl, K, S0, cap0, hK, hS, hcp1, hkn1⟩
  have hcy := copyOf_two w w.heap.size g K S0 cap0 w1 hcp1 hkn1 hK hS k n s k' n' s' HG.out rfl
  have HCY := Lib.hid hcy; clear hcy hcp1 hkn1
  go_wp2_with fail
  refine HCY.out.mono ?_
  rintro e w2 ⟨g', cap, S, cp, rfl, hcd⟩
  have hcap : 2 ≤ cap := hcd.2.2.1
  have HCD := Lib.hid hcd; clear hcd
  clear HCY HCO
  generalize hM : w.heap.size = M at *
  go_wp2_with fail
  go_loopw [] (fun wr => Walks w M g K k n s k' n' s' g' cap S cp wr) (fun wr => leftOf M wr)
  case atStart => exact .inl HCD.out
  case round =>
    rcases hrel with hcd | hcd
    · have c1 := hcd.2.2.2.1.c1
      have hl := leftOf_cp hcd.2.2.2.1
      have HL := Lib.hid hl; clear hl
      have hpo := pop_one w M _ _ S cp _ 2 wr hcd.2.2.2.1
      have HPO := Lib.hid hpo; clear hpo
      have HC := Lib.hid hcd; clear hcd
      go_wp2_with fail
      refine HPO.out.mono ?_
      rintro e w3 ⟨rfl, hcp3, hoth⟩
      have hcd3 := HC.out.popped hcp3 hoth
      have HC3 := Lib.hid hcd3; clear hcd3 hcp3 hoth c1
      go_wp2_with fail
      go_loopw [24] (fun i wq => ∃ j : Nat, j ≤ 2 ∧ i = .int .i64 j ∧ Copied w M g K k n s k' n' s' g' cap S cp 0 [] wq) (fun i _ => 2 - (intOf i).toNat)
      case atStart => exact ⟨0, Nat.zero_le _, rfl, HC3.out⟩
      case round =>
        obtain ⟨j, hj, rfl, hcd⟩ := hrel
        have hsave := hcd
        obtain ⟨hq1, hq2, hq3, hq4, cur, hq5, hq6⟩ := hcd
        have HSV := Lib.hid hsave; clear hsave
        have hcur : ∀ (i : Nat) (u : Value), (twoCells k n s k' n' s')[i]? = some u → wr.cell? ⟨g', i, none⟩ = some u := fun i u hi => (cell_of_row wr g' i _ _ _ hq5).trans (hq6 i u hi)
        have hcl := leftOf_cp hq4
        have HCL := Lib.hid hcl; clear hcl
        have hother : ∀ (i : Nat), (twoCells k n s k' n' s')[i]? = some (.slice none 0 0) → wr.setCell ⟨g', i, none⟩ (.slice none 0 0) = wr := fun i hi => setCell_same hq5 (hq6 i _ hi)
        have HOT := Lib.hid hother; clear hother
        have hfree : ∀ (o : Obj) (i : Nat), (wr.alloc o).frozen? ⟨g', i, none⟩ = false := fun o i => free_at ((Below.heap_alloc _ _ _ (lt_of_obj hq5)).trans hq5) i
        have hlt := lt_of_obj hq5
        clear hq4 hq5 hq6
        obtain rfl | rfl | rfl : j = 0 ∨ j = 1 ∨ j = 2 := by omega
        · have l0 := hcur 0 _ rfl
          have l1 := hcur 1 _ rfl
          have l2 := hcur 2 _ rfl
          have l3 := hcur 3 _ rfl
          have l4 := hcur 4 _ rfl
          clear hcur
          go_wp2_with fail
          refine (copyOf_nil M _).mono ?_
          rintro e w4 ⟨rfl, rfl⟩
          go_wp2
          go_roundw
          case rel => exact ⟨1, by omega, by go_num, by rw [HOT.out 3 rfl]; exact HSV.out.alloc _⟩
          case measure => simp [intOf]
        · have l0 := hcur 5 _ rfl
          have l1 := hcur 6 _ rfl
          have l2 := hcur 7 _ rfl
          have l3 := hcur 8 _ rfl
          have l4 := hcur 9 _ rfl
          clear hcur
          go_wp2_with fail
          refine (copyOf_nil M _).mono ?_
          rintro e w4 ⟨rfl, rfl⟩
          go_wp2
          go_roundw
          case rel => exact ⟨2, by omega, by go_num, by rw [HOT.out 8 rfl]; exact HSV.out.alloc _⟩
          case measure => simp [intOf]
        · clear hcur
          go_wp2
          go_roundw
          case rel => exact .inr HSV.out
          case measure => have := HL.out; have := HCL.out; omega
    · have c1 := hcd.2.2.2.1.c1
      have HC := Lib.hid hcd; clear hcd
      go_wp2
      go_ret
      obtain ⟨h1, h2, h3, h4, cur, h5, h6⟩ := HC.out
      exact ⟨g', cap, cur, rfl, by omega, h5, h6, by rw [hM]; exact h4.below⟩

end Go.Proofs.Ytpmepnejjjlodaa
