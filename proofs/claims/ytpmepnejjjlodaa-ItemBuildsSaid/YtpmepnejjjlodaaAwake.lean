/-
  Contract of the first check of every statement: item.Build at item.List(item.Num(1), item.Str("a")). Conditions: none.
-/
import Derived.Test.YtpmepnejjjlodaaBuild
import Derived.Test.YtpmepnejjjlodaaCopyW
namespace Go.Proofs.Ytpmepnejjjlodaa
open Go.ChangeShapes Go.WideShapes Go.ChangeAt Go.RowKit
open Plain
set_option linter.unusedVariables false

def leafV (k : Int) (n : Nat) (s : ByteArray) : Value := .agg #[.int .i64 k, .int .u64 n, .string s, .slice none 0 0, .bool false]

theorem num_any (n : Nat) (w : World) : Calls Try.prog 18 #[.int .u64 n] w fun e w' => e = .returned (leafV 0 n ⟨#[]⟩) ∧ Below w.heap.size w w' := by
  go_enter Try.func18, Try.ntmps18
  go_wp2
  refine bodyPost_ret (v := leafV 0 n ⟨#[]⟩) (by simp [results, Try.results18, go_sem, leafV]) rfl ⟨rfl, (Below.refl _ _).alloc (Nat.le_refl _) _⟩

theorem str_new (s : ByteArray) (w : World) : Calls Try.prog 20 #[.string s] w fun e w' => e = .returned (leafV 2 0 s) ∧ Below w.heap.size w w' := by
  go_enter Try.func20, Try.ntmps20
  go_wp2
  refine bodyPost_ret (v := leafV 2 0 s) (by simp [results, Try.results20, go_sem, leafV]) rfl ⟨rfl, (Below.refl _ _).alloc (Nat.le_refl _) _⟩

theorem free5 {w : World} {g : Nat} {cs : Array Value} {t : TypeId} (h : w.heap[g]? = some (.cells cs t (0, 0))) (i : Nat) : w.frozen? ⟨g, i, none⟩ = false := by
  simp [World.frozen?, h]

theorem set5 {w : World} {g : Nat} {z0 z1 z2 z3 z4 : Value} {t : TypeId} (u0 u1 u2 u3 u4 : Value) (h : w.heap[g]? = some (.cells #[z0, z1, z2, z3, z4] t (0, 0))) :
    (((((w.setCell ⟨g, 0, none⟩ u0).setCell ⟨g, 1, none⟩ u1).setCell ⟨g, 2, none⟩ u2).setCell ⟨g, 3, none⟩ u3).setCell ⟨g, 4, none⟩ u4).heap[g]? = some (.cells #[u0, u1, u2, u3, u4] t (0, 0)) := by
  simp [World.setCell, Array.getElem?_modify, h]

/-- An item stored over another. -/
theorem set5_end {X : World} {g : Nat} {z0 z1 z2 z3 z4 : Value} {t : TypeId} (h : X.heap[g]? = some (.cells #[z0, z1, z2, z3, z4] t (0, 0))) (v0 v1 v2 v3 v4 : Value) (F : World)
    (hF : F = (((((X.setCell ⟨g, 0, none⟩ v0).setCell ⟨g, 1, none⟩ v1).setCell ⟨g, 2, none⟩ v2).setCell ⟨g, 3, none⟩ v3).setCell ⟨g, 4, none⟩ v4)) :
    (F.cell? ⟨g, 0, none⟩ = some v0 ∧ F.cell? ⟨g, 1, none⟩ = some v1 ∧ F.cell? ⟨g, 2, none⟩ = some v2 ∧ F.cell? ⟨g, 3, none⟩ = some v3 ∧ F.cell? ⟨g, 4, none⟩ = some v4) ∧
      (∀ i, i ≠ g → F.heap[i]? = X.heap[i]?) ∧ (∀ B, B ≤ g → Below B X F) ∧ F.heap[g]? = some (.cells #[v0, v1, v2, v3, v4] t (0, 0)) := by
  have h1 : F.heap[g]? = some (.cells #[v0, v1, v2, v3, v4] t (0, 0)) := by rw [hF]; exact set5 _ _ _ _ _ h
  refine ⟨⟨cell_of_row F _ 0 _ _ _ h1, cell_of_row F _ 1 _ _ _ h1, cell_of_row F _ 2 _ _ _ h1, cell_of_row F _ 3 _ _ _ h1, cell_of_row F _ 4 _ _ _ h1⟩, ?_, ?_, h1⟩
  · intro i hi
    rw [hF, Below.heap_setCell _ _ _ _ (by dsimp only; omega), Below.heap_setCell _ _ _ _ (by dsimp only; omega), Below.heap_setCell _ _ _ _ (by dsimp only; omega), Below.heap_setCell _ _ _ _ (by dsimp only; omega), Below.heap_setCell _ _ _ _ (by dsimp only; omega)]
  · intro B hB
    rw [hF]
    exact (((((Below.refl B X).setCell (p := ⟨g, 0, none⟩) hB v0).setCell (p := ⟨g, 1, none⟩) hB v1).setCell (p := ⟨g, 2, none⟩) hB v2).setCell (p := ⟨g, 3, none⟩) hB v3).setCell (p := ⟨g, 4, none⟩) hB v4

theorem lt_of_some {w : World} {g : Nat} {o : Obj} (h : w.heap[g]? = some o) : g < w.heap.size := by
  rcases Nat.lt_or_ge g w.heap.size with h' | h'
  · exact h'
  · simp [Array.getElem?_eq_none h'] at h

set_option maxHeartbeats 2000000 in
set_option maxRecDepth 100000 in
/-- item.List at two leaves. -/
theorem list_two (k : Int) (n : Nat) (s : ByteArray) (k' : Int) (n' : Nat) (s' : ByteArray) (g : Nat) (w : World) (hg : w.heap[g]? = some (.cells (twoCells k n s k' n' s').toArray 25 (0, 0))) :
    Calls Try.prog 19 #[.slice (some ⟨g, 0, none⟩) 2 2] w fun e w' => ∃ g' cap cur, e = .returned (.agg #[.int .i64 4, .int .u64 0, .string ⟨#[]⟩, .slice (some ⟨g', 0, none⟩) 2 cap, .bool false]) ∧
      w'.heap[g']? = some (.cells cur 25 (0, 0)) ∧ (∀ (i : Nat) (u : Value), (twoCells k n s k' n' s')[i]? = some u → cur[i]? = some u) ∧ Below w.heap.size w w' := by
  have hcl := fun (o : Obj) => copyList_two k n s k' n' s' g (w.alloc o) ((Below.heap_alloc w o g (lt_of_some hg)).trans hg)
  have HCL := Lib.hid hcl; clear hcl hg
  go_enter Try.func19, Try.ntmps19
  go_wp2_with fail
  refine (HCL.out _).mono ?_
  rintro e w1 ⟨g', cap, cur, rfl, hbg, hg', hrow, hb1⟩
  have hres : w1.heap[w.heap.size]? = some (.cells #[.int .i64 0, .int .u64 0, .string ⟨#[]⟩, .slice none 0 0, .bool false] 25 (0, 0)) := by
    rw [hb1.block _ (by simp)]
    exact heap_alloc_new w _
  have hgne : ¬ g' = w.heap.size := by simp at hbg; omega
  have hbw : Below w.heap.size w w1 := ((Below.refl _ _).alloc (Nat.le_refl _) _).trans (hb1.mono (by simp))
  have r0 := cell_of_row w1 _ 0 _ _ _ hres
  have r1 := cell_of_row w1 _ 1 _ _ _ hres
  have r2 := cell_of_row w1 _ 2 _ _ _ hres
  have r3 := cell_of_row w1 _ 3 _ _ _ hres
  have r4 := cell_of_row w1 _ 4 _ _ _ hres
  simp only [List.getElem?_toArray, List.getElem?_cons_zero, List.getElem?_cons_succ] at r0 r1 r2 r3 r4
  have rf : ∀ i, w1.frozen? ⟨w.heap.size, i, none⟩ = false := free5 hres
  have HRES := Lib.hid hres; clear hres
  have HX := Lib.hid (And.intro hg' (And.intro hrow hbw)); clear hg' hrow hbw hb1
  go_wp2
  generalize hF : ((((w1.setCell ⟨w.heap.size, 0, none⟩ (.int .i64 4)).setCell ⟨w.heap.size, 1, none⟩ (.int .u64 0)).setCell ⟨w.heap.size, 2, none⟩ (.string ⟨#[]⟩)).setCell ⟨w.heap.size, 3, none⟩ (.slice (some ⟨g', 0, none⟩) 2 cap)).setCell ⟨w.heap.size, 4, none⟩ (.bool false) = F
  obtain ⟨⟨f0, f1, f2, f3, f4⟩, hoth, hbel, _⟩ := set5_end HRES.out _ _ _ _ _ F hF.symm
  clear hF
  refine bodyPost_ret (v := .agg #[.int .i64 4, .int .u64 0, .string ⟨#[]⟩, .slice (some ⟨g', 0, none⟩) 2 cap, .bool false]) (by simp [results, Try.results19, go_sem, f0, f1, f2, f3, f4]) rfl ⟨g', cap, cur, rfl, (hoth g' hgne).trans HX.out.1, HX.out.2.1, HX.out.2.2.trans (hbel _ (Nat.le_refl _))⟩

/-- The item of the first check. -/
def awakeIt : It := .mk 4 0 ⟨#[]⟩ [.mk 0 1 ⟨#[]⟩ [] false, .mk 2 0 ⟨#[97]⟩ [] false] false

theorem lies_leaf (w : World) (B : Nat) (k : Int) (n : Nat) (s : ByteArray) (hk : -9223372036854775808 ≤ k ∧ k ≤ 9223372036854775807) (hn : n ≤ 18446744073709551615) (hs : s.size ≤ 140737488355328) :
    Lies w B (.mk k n s [] false) (itV (.mk k n s [] false) (.slice none 0 0)) :=
  .mk (.mk k n s [] false) none 0 (fun _ => .slice none 0 0) ⟨hk.1, hk.2, hn, hs, by simp [It.l]⟩ (fun i y h => by simp [It.l] at h) (fun i y h => by simp [It.l] at h)

theorem awake_lies {w : World} {B g' cap : Nat} {cur : Array Value} (hg : w.heap[g']? = some (.cells cur 25 (0, 0))) (hB : g' < B)
    (hrow : ∀ (i : Nat) (u : Value), (twoCells 0 1 ⟨#[]⟩ 2 0 ⟨#[97]⟩)[i]? = some u → cur[i]? = some u) :
    Lies w B awakeIt (.agg #[.int .i64 4, .int .u64 0, .string ⟨#[]⟩, .slice (some ⟨g', 0, none⟩) 2 cap, .bool false]) := by
  have hc : ∀ (i : Nat) (u : Value), (twoCells 0 1 ⟨#[]⟩ 2 0 ⟨#[97]⟩)[i]? = some u → w.cell? ⟨g', i, none⟩ = some u := fun i u hi => (cell_of_row w g' i _ _ _ hg).trans (hrow i u hi)
  refine .mk awakeIt (some ⟨g', 0, none⟩) cap (fun _ => .slice none 0 0) ⟨by decide, by decide, by decide, by decide, by decide⟩ ?_ ?_
  · intro i y hi
    match i, hi with
    | 0, hi =>
      simp [awakeIt, It.l] at hi
      subst hi
      exact ⟨g', 0, rfl, hB, ⟨hc 0 _ rfl, hc 1 _ rfl, hc 2 _ rfl, hc 3 _ rfl, hc 4 _ rfl⟩⟩
    | 1, hi =>
      simp [awakeIt, It.l] at hi
      subst hi
      exact ⟨g', 0, rfl, hB, ⟨hc 5 _ rfl, hc 6 _ rfl, hc 7 _ rfl, hc 8 _ rfl, hc 9 _ rfl⟩⟩
    | i + 2, hi => simp [awakeIt, It.l] at hi
  · intro i y hi
    match i, hi with
    | 0, hi =>
      simp [awakeIt, It.l] at hi
      subst hi
      exact lies_leaf w B 0 1 ⟨#[]⟩ (by decide) (by decide) (by decide)
    | 1, hi =>
      simp [awakeIt, It.l] at hi
      subst hi
      exact lies_leaf w B 2 0 ⟨#[97]⟩ (by decide) (by decide) (by decide)
    | i + 2, hi => simp [awakeIt, It.l] at hi

theorem awake_valid : validB awakeIt 8 = true := by simp [awakeIt, validB, validL, topB]
theorem awake_bytes : bytesOf awakeIt = [130, 1, 65, 97] := by decide

set_option maxHeartbeats 1000000 in
set_option maxRecDepth 100000 in
/-- dromondlaw02.awake: yes. -/
theorem awake_any (w : World) : Calls Try.prog 8 #[] w fun e w' => e = .returned (.bool true) ∧ Below w.heap.size w w' := by
  go_enter Try.func8, Try.ntmps8
  go_wp2_with fail
  refine (num_any 1 _).mono ?_
  rintro e w1 ⟨rfl, hb1⟩
  have H1 := Lib.hid hb1; clear hb1
  go_wp2_with fail
  refine (str_new _ _).mono ?_
  rintro e w2 ⟨rfl, hb2⟩
  have H2 := Lib.hid (H1.out.trans (hb2.mono H1.out.size)); clear hb2
  unfold leafV
  go_wp2_with fail
  refine (list_two 0 1 ⟨#[]⟩ 2 0 ⟨#[97]⟩ w2.heap.size _ (heap_alloc_new w2 _)).mono ?_
  rintro e w3 ⟨g', cap, cur, rfl, hg, hrow, hb3⟩
  have H3 := Lib.hid ((H2.out.alloc H2.out.size _).trans (hb3.mono (by have := H2.out.size; simp <;> omega))); clear hb3
  have hbuild := build_yes awakeIt w3 w3.heap.size _ (Nat.le_refl _) (awake_lies (cap := cap) hg (lt_of_some hg) hrow) awake_valid (by rw [awake_bytes]; decide)
  rw [awake_bytes] at hbuild
  have HB := Lib.hid hbuild; clear hbuild
  have HG := Lib.hid hg; clear hg hrow
  go_wp2_with fail
  refine HB.out.mono ?_
  rintro e w4 ⟨rfl, hb4⟩
  have H4 := Lib.hid (H3.out.trans (hb4.mono H3.out.size)); clear hb4
  go_wp2
  go_ret
  exact ⟨rfl, H4.out⟩

end Go.Proofs.Ytpmepnejjjlodaa
