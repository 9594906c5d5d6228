/-
  Contract of the first check of every statement: item.Build at item.List(item.Num(1), item.Str("a")). Conditions: none.
-/
import Derived.Test.YtbbmmndcejejcaaBuild
import Derived.Deep.DeepAppendWide
import Derived.Lib.SliceRun
namespace Go.Proofs.Ytbbmmndcejejcaa
open Go.ChangeShapes Go.WideShapes Go.ChangeAt Go.RowKit
open Plain
set_option linter.unusedVariables false

def leafV (k : Int) (n : Nat) (s : ByteArray) : Value := .agg #[.int .i64 k, .int .u64 n, .string s, .slice none 0 0, .bool false]

theorem num_any (n : Nat) (w : World) : Calls Try.prog 18 #[.int .u64 n] w fun e w' => e = .returned (leafV 0 n ⟨#[]⟩) ∧ Below w.heap.size w w' := by
  go_enter Try.func18, Try.ntmps18
  go_wp2
  refine bodyPost_ret (v := leafV 0 n ⟨#[]⟩) (by simp [results, Try.results18, go_sem, leafV]) rfl ⟨rfl, (Below.refl _ _).alloc (Nat.le_refl _) _⟩

theorem str_new (s : ByteArray) (w : World) : Calls Try.prog 20 #[.string s] w fun e w' => e = .returned (leafV 2 0 s) ∧ Below w.heap.size w w' := by
  go_enter Try.func20, Try.ntmps20
  go_wp2
  refine bodyPost_ret (v := leafV 2 0 s) (by simp [results, Try.results20, go_sem, leafV]) rfl ⟨rfl, (Below.refl _ _).alloc (Nat.le_refl _) _⟩

set_option maxRecDepth 100000 in
theorem clone_nil (w : World) : Calls Try.prog 34 #[.slice none 0 0] w fun e w' => e = .returned (.slice none 0 0) ∧ w' = w := by
  have q23 : ∀ (w : World) (a : Option Addr) (n c n' c' : Nat), (binOp .eql 23 (.slice a n c) (.slice none n' c')).run Try.prog w = .ok (.bool a.isNone) w := fun w a n c n' c' => Lib.run_eql_slice_nil w _ _ a n c n' c' Try.underlying23
  go_enter Try.func34, Try.ntmps34
  go_wp2
  go_ret
  exact ⟨rfl, rfl⟩

set_option maxHeartbeats 1000000 in
theorem within_leaf (k : Int) (n : Nat) (s : ByteArray) (w : World) : Calls Try.prog 35 #[leafV k n s, .int .i64 8] w fun e w' => e = .returned (.bool true) ∧ Below w.heap.size w w' := by
  unfold leafV
  go_enter Try.func35, Try.ntmps35
  go_wp2
  go_loopw [12] (fun i wr => i = .int .i64 0 ∧ Below w.heap.size w wr) (fun i _ => 0)
  case atStart => exact ⟨rfl, (Below.refl _ _).alloc (Nat.le_refl _) _⟩
  case round =>
    obtain ⟨rfl, hb⟩ := hrel
    go_wp2
    go_ret
    exact ⟨rfl, hb⟩

set_option maxHeartbeats 1000000 in
theorem clone_leaf (k : Int) (n : Nat) (s : ByteArray) (w : World) : Calls Try.prog 36 #[leafV k n s] w fun e w' => e = .returned (leafV k n s) ∧ Below w.heap.size w w' := by
  unfold leafV
  go_enter Try.func36, Try.ntmps36
  go_wp2_with fail
  refine (clone_nil _).mono ?_
  rintro e w1 ⟨rfl, rfl⟩
  go_wp2
  go_loopw [12] (fun i wr => i = .int .i64 0 ∧ wr = (w.alloc (.cells #[.int .i64 k, .int .u64 n, .string s, .slice none 0 0, .bool false] 25)).alloc (.cells #[.int .i64 0, .int .u64 0, .string ⟨#[]⟩, .slice none 0 0, .bool false] 25)) (fun i _ => 0)
  case atStart => exact ⟨rfl, rfl⟩
  case round =>
    obtain ⟨rfl, rfl⟩ := hrel
    go_wp2
    refine bodyPost_ret (v := leafV k n s) (by simp [results, Try.results36, go_sem, leafV]) rfl ⟨rfl, ((Below.refl _ _).alloc (Nat.le_refl _) _).alloc (by simp) _⟩

theorem addr_add (g j : Nat) : ((⟨g, 0, none⟩ : Addr).add j) = ⟨g, j, none⟩ := by
  simp [Addr.add]
  exact fun h => h.symm

theorem Try.infoItem : (Try.prog.info? 25).map (fun i => (i.zero, i.size, i.bytes)) = some (some (.agg #[.int .i64 0, .int .u64 0, .string ⟨#[]⟩, .slice none 0 0, .bool false]), 5, 64) := by kernel_rfl

/-- The cells of two leaves. -/
def twoCells (k : Int) (n : Nat) (s : ByteArray) (k' : Int) (n' : Nat) (s' : ByteArray) : List Value :=
  [.int .i64 k, .int .u64 n, .string s, .slice none 0 0, .bool false, .int .i64 k', .int .u64 n', .string s', .slice none 0 0, .bool false]

set_option maxHeartbeats 1000000 in
set_option maxRecDepth 100000 in
/-- slices.Clone at two leaves. -/
theorem clone_two (k : Int) (n : Nat) (s : ByteArray) (k' : Int) (n' : Nat) (s' : ByteArray) (g : Nat) (w : World) (hg : w.heap[g]? = some (.cells (twoCells k n s k' n' s').toArray 25 (0, 0))) :
    Calls Try.prog 34 #[.slice (some ⟨g, 0, none⟩) 2 2] w fun e w' => ∃ v, e = .returned v ∧ w'.ownsRow w.heap.size 25 5 v 2 (twoCells k n s k' n' s') ∧ Below w.heap.size w w' := by
  obtain ⟨i0, hi, hz0, hz1, hz2⟩ := info_parts Try.infoItem
  have hlt : g < w.heap.size := by
    rcases Nat.lt_or_ge g w.heap.size with h' | h'
    · exact h'
    · simp [Array.getElem?_eq_none h'] at hg
  have q23 : ∀ (w : World) (a : Option Addr) (n c n' c' : Nat), (binOp .eql 23 (.slice a n c) (.slice none n' c')).run Try.prog w = .ok (.bool a.isNone) w := fun w a n c n' c' => Lib.run_eql_slice_nil w _ _ a n c n' c' Try.underlying23
  go_enter Try.func34, Try.ntmps34
  have hcell : ∀ j u, (twoCells k n s k' n' s')[j]? = some u → w.cell? ((⟨g, 0, none⟩ : Addr).add j) = some u := by
    intro j u hj
    have := cell_of_row w g j _ _ _ hg
    rw [addr_add, this]
    simpa using hj
  go_wp2_with (at_builtin; refine wpList_append_own_wide _ rfl _ _ 23 rfl w.heap.size 25 i0 _ 5 64 Try.underlying23 hi hz0 hz1 hz2 rfl (by decide) _ 0 [] rfl (World.ownsRow_lit (base := w.heap.size) (e := 25) (size := 5) w #[] 0 (Nat.le_refl _) (by unfold maxLen; omega) rfl) ⟨g, 0, none⟩ 2 2 (twoCells k n s k' n' s') rfl rfl ?c1 ?c2 ?c3 ?c4 ?c5 ?_)
  case c1 =>
    intro j u hj
    have h := hcell j u hj
    rw [addr_add] at h ⊢
    rw [World.cell?_of_block (w := w) (a := ⟨g, j, none⟩) (Below.heap_alloc w _ g hlt)]
    exact h
  case c2 => intro u hu; simp only [twoCells, List.mem_cons, List.not_mem_nil, or_false] at hu; rcases hu with rfl | rfl | rfl | rfl | rfl | rfl | rfl | rfl | rfl | rfl <;> rfl
  case c3 => unfold maxLen; omega
  case c4 => omega
  case c5 => simp
  intro v' w1 hown' hgrow _
  have hb1 : Below w.heap.size w w1 := ((Below.refl _ _).alloc (Nat.le_refl _) _).grown hgrow (by simp) (fun g hg => by simp [Value.ownBlock] at hg; omega)
  have HO := Lib.hid hown'; clear hown'
  clear hgrow
  go_wp2
  go_ret
  exact ⟨_, rfl, HO.out, hb1⟩

theorem setCell_same {w : World} {b i : Nat} {v : Value} {cs : Array Value} {t : TypeId} {fr : Nat × Nat} (h : w.heap[b]? = some (.cells cs t fr)) (hv : cs[i]? = some v) : w.setCell ⟨b, i, none⟩ v = w := by
  have hh : (w.setCell ⟨b, i, none⟩ v).heap = w.heap := by
    apply Array.ext_getElem?
    intro k
    by_cases hk : k = b
    · subst hk
      simp only [World.setCell, Array.getElem?_modify, h]
      simp
      obtain ⟨hi, rfl⟩ := Array.getElem?_eq_some_iff.1 hv
      apply Array.ext_getElem?
      intro j
      rw [Array.getElem?_setIfInBounds]
      split
      · rename_i hj
        subst hj
        simp [hi]
      · rfl
    · exact Below.heap_setCell _ _ _ _ hk
  have : w.setCell ⟨b, i, none⟩ v = { w with heap := (w.setCell ⟨b, i, none⟩ v).heap } := rfl
  rw [this, hh]

theorem free5 {w : World} {g : Nat} {cs : Array Value} {t : TypeId} (h : w.heap[g]? = some (.cells cs t (0, 0))) (i : Nat) : w.frozen? ⟨g, i, none⟩ = false := by
  simp [World.frozen?, h]

theorem set5 {w : World} {g : Nat} {z0 z1 z2 z3 z4 : Value} {t : TypeId} (u0 u1 u2 u3 u4 : Value) (h : w.heap[g]? = some (.cells #[z0, z1, z2, z3, z4] t (0, 0))) :
    (((((w.setCell ⟨g, 0, none⟩ u0).setCell ⟨g, 1, none⟩ u1).setCell ⟨g, 2, none⟩ u2).setCell ⟨g, 3, none⟩ u3).setCell ⟨g, 4, none⟩ u4).heap[g]? = some (.cells #[u0, u1, u2, u3, u4] t (0, 0)) := by
  simp [World.setCell, Array.getElem?_modify, h]

/-- An item stored over another. -/
theorem set5_end {X : World} {g : Nat} {z0 z1 z2 z3 z4 : Value} {t : TypeId} (h : X.heap[g]? = some (.cells #[z0, z1, z2, z3, z4] t (0, 0))) (v0 v1 v2 v3 v4 : Value) (F : World)
    (hF : F = (((((X.setCell ⟨g, 0, none⟩ v0).setCell ⟨g, 1, none⟩ v1).setCell ⟨g, 2, none⟩ v2).setCell ⟨g, 3, none⟩ v3).setCell ⟨g, 4, none⟩ v4)) :
    (F.cell? ⟨g, 0, none⟩ = some v0 ∧ F.cell? ⟨g, 1, none⟩ = some v1 ∧ F.cell? ⟨g, 2, none⟩ = some v2 ∧ F.cell? ⟨g, 3, none⟩ = some v3 ∧ F.cell? ⟨g, 4, none⟩ = some v4) ∧
      (∀ i, i ≠ g → F.heap[i]? = X.heap[i]?) ∧ (∀ B, B ≤ g → Below B X F) ∧ F.heap[g]? = some (.cells #[v0, v1, v2, v3, v4] t (0, 0)) := by
  have h1 : F.heap[g]? = some (.cells #[v0, v1, v2, v3, v4] t (0, 0)) := by rw [hF]; exact set5 _ _ _ _ _ h
  refine ⟨⟨cell_of_row F _ 0 _ _ _ h1, cell_of_row F _ 1 _ _ _ h1, cell_of_row F _ 2 _ _ _ h1, cell_of_row F _ 3 _ _ _ h1, cell_of_row F _ 4 _ _ _ h1⟩, ?_, ?_, h1⟩
  · intro i hi
    rw [hF, Below.heap_setCell _ _ _ _ (by dsimp only; omega), Below.heap_setCell _ _ _ _ (by dsimp only; omega), Below.heap_setCell _ _ _ _ (by dsimp only; omega), Below.heap_setCell _ _ _ _ (by dsimp only; omega), Below.heap_setCell _ _ _ _ (by dsimp only; omega)]
  · intro B hB
    rw [hF]
    exact (((((Below.refl B X).setCell (p := ⟨g, 0, none⟩) hB v0).setCell (p := ⟨g, 1, none⟩) hB v1).setCell (p := ⟨g, 2, none⟩) hB v2).setCell (p := ⟨g, 3, none⟩) hB v3).setCell (p := ⟨g, 4, none⟩) hB v4

/-- Behind the clone: its row, and the result's block. -/
structure Own (w : World) (g' : Nat) (cur : Array Value) (wr : World) : Prop where
  row : wr.heap[g']? = some (.cells cur 25 (0, 0))
  res : wr.heap[w.heap.size]? = some (.cells #[.int .i64 0, .int .u64 0, .string ⟨#[]⟩, .slice none 0 0, .bool false] 25 (0, 0))
  below : Below w.heap.size w wr

theorem lt_of_some {w : World} {g : Nat} {o : Obj} (h : w.heap[g]? = some o) : g < w.heap.size := by
  rcases Nat.lt_or_ge g w.heap.size with h' | h'
  · exact h'
  · simp [Array.getElem?_eq_none h'] at h

theorem Own.next {w : World} {g' : Nat} {cur : Array Value} {wr w' : World} (h : Own w g' cur wr) (hb : Below wr.heap.size wr w') : Own w g' cur w' :=
  ⟨(hb.block _ (lt_of_some h.row)).trans h.row, (hb.block _ (lt_of_some h.res)).trans h.res, h.below.trans (hb.mono (Nat.le_of_lt (lt_of_some h.res)))⟩

set_option maxHeartbeats 2000000 in
set_option maxRecDepth 100000 in
/-- item.List at two leaves. -/
theorem list_two (k : Int) (n : Nat) (s : ByteArray) (k' : Int) (n' : Nat) (s' : ByteArray) (g : Nat) (w : World) (hg : w.heap[g]? = some (.cells (twoCells k n s k' n' s').toArray 25 (0, 0))) :
    Calls Try.prog 19 #[.slice (some ⟨g, 0, none⟩) 2 2] w fun e w' => ∃ g' cap cur, e = .returned (.agg #[.int .i64 4, .int .u64 0, .string ⟨#[]⟩, .slice (some ⟨g', 0, none⟩) 2 cap, .bool false]) ∧
      w'.heap[g']? = some (.cells cur 25 (0, 0)) ∧ (∀ (i : Nat) (u : Value), (twoCells k n s k' n' s')[i]? = some u → cur[i]? = some u) ∧ Below w.heap.size w w' := by
  have hcl := fun (o : Obj) => clone_two k n s k' n' s' g (w.alloc o) ((Below.heap_alloc w o g (lt_of_some hg)).trans hg)
  have HCL := Lib.hid hcl; clear hcl hg
  go_enter Try.func19, Try.ntmps19
  go_wp2_with fail
  refine (HCL.out _).mono ?_
  rintro e w1 ⟨v, rfl, hown, hb1⟩
  obtain ⟨g', cap, cur, rfl, hbg, hg', hcap, hcm, hsz, htake⟩ : ∃ g' cap cur, v = .slice (some ⟨g', 0, none⟩) 2 cap ∧ w.heap.size + 1 ≤ g' ∧ w1.heap[g']? = some (.cells cur 25 (0, 0)) ∧ 2 ≤ cap ∧ cap ≤ maxLen ∧ cur.size = cap * 5 ∧ cur.toList.take 10 = twoCells k n s k' n' s' := by
    rcases hown.2 with ⟨_, hz⟩ | ⟨g', cap, cur, hv, h1, r⟩
    · omega
    · exact ⟨g', cap, cur, hv, by simpa using h1, r⟩
  have hrow : ∀ (i : Nat) (u : Value), (twoCells k n s k' n' s')[i]? = some u → cur[i]? = some u := by
    intro i u hi
    rw [← htake, List.getElem?_take] at hi
    split at hi
    · simpa using hi
    · cases hi
  have hinv : Own w g' cur w1 := by
    refine ⟨hg', ?_, ((Below.refl _ _).alloc (Nat.le_refl _) _).trans (hb1.mono (by simp))⟩
    rw [hb1.block _ (by simp)]
    exact heap_alloc_new w _
  have hgne : ¬ g' = w.heap.size := by omega
  have HROW := Lib.hid hrow; clear hrow
  have HINV := Lib.hid hinv; clear hinv
  clear hown hb1 hg' htake hsz hcm
  go_wp2
  go_loopw [10] (fun i wr => ∃ j : Nat, j ≤ 2 ∧ i = .int .i64 j ∧ Own w g' cur wr) (fun i _ => 2 - (intOf i).toNat)
  case atStart => exact ⟨0, Nat.zero_le _, rfl, HINV.out⟩
  case round =>
    obtain ⟨j, hj, rfl, hinv⟩ := hrel
    have hrow := HROW.out
    obtain rfl | rfl | rfl : j = 0 ∨ j = 1 ∨ j = 2 := by omega
    · have hcur : ∀ (i : Nat) (u : Value), (twoCells k n s k' n' s')[i]? = some u → wr.cell? ⟨g', i, none⟩ = some u := fun i u hi => (cell_of_row wr g' i _ _ _ hinv.row).trans (hrow i u hi)
      have l0 := hcur 0 _ rfl
      have l1 := hcur 1 _ rfl
      have l2 := hcur 2 _ rfl
      have l3 := hcur 3 _ rfl
      have l4 := hcur 4 _ rfl
      clear hcur
      have HI := Lib.hid hinv; clear hinv
      go_wp2_with fail
      refine (within_leaf k n s _).mono ?_
      rintro e w2 ⟨rfl, hb2⟩
      have hinv2 := HI.out.next (((Below.refl _ _).alloc (Nat.le_refl _) _).trans (hb2.mono (by simp)))
      have hx := hb2.block wr.heap.size (by simp)
      rw [heap_alloc_new] at hx
      have x0 := cell_of_row w2 _ 0 _ _ _ hx
      have x1 := cell_of_row w2 _ 1 _ _ _ hx
      have x2 := cell_of_row w2 _ 2 _ _ _ hx
      have x3 := cell_of_row w2 _ 3 _ _ _ hx
      have x4 := cell_of_row w2 _ 4 _ _ _ hx
      simp only [List.getElem?_toArray, List.getElem?_cons_zero, List.getElem?_cons_succ] at x0 x1 x2 x3 x4
      have HI2 := Lib.hid hinv2; clear hinv2 hx hb2
      go_wp2_with fail
      refine (clone_leaf k n s _).mono ?_
      rintro e w3 ⟨rfl, hb3⟩
      unfold leafV
      have hinv3 := HI2.out.next hb3
      have hcur : ∀ (i : Nat) (u : Value), (twoCells k n s k' n' s')[i]? = some u → w3.cell? ⟨g', i, none⟩ = some u := fun i u hi => (cell_of_row w3 g' i _ _ _ hinv3.row).trans (hrow i u hi)
      have m0 := hcur 0 _ rfl
      have m1 := hcur 1 _ rfl
      have m2 := hcur 2 _ rfl
      have m3 := hcur 3 _ rfl
      have m4 := hcur 4 _ rfl
      clear hcur
      have mf : ∀ i, w3.frozen? ⟨g', i, none⟩ = false := free5 hinv3.row
      have hsame : ((((w3.setCell ⟨g', 0, none⟩ (.int .i64 k)).setCell ⟨g', 1, none⟩ (.int .u64 n)).setCell ⟨g', 2, none⟩ (.string s)).setCell ⟨g', 3, none⟩ (.slice none 0 0)).setCell ⟨g', 4, none⟩ (.bool false) = w3 := by
        rw [setCell_same hinv3.row (hrow 0 _ rfl), setCell_same hinv3.row (hrow 1 _ rfl), setCell_same hinv3.row (hrow 2 _ rfl), setCell_same hinv3.row (hrow 3 _ rfl), setCell_same hinv3.row (hrow 4 _ rfl)]
      have HSAME := Lib.hid hsame; clear hsame
      have HI3 := Lib.hid hinv3; clear hinv3 hb3
      go_wp2
      go_roundw
      case rel => exact ⟨1, by omega, by go_num, by rw [HSAME.out]; exact HI3.out⟩
      case measure => simp [intOf]
    · have hcur : ∀ (i : Nat) (u : Value), (twoCells k n s k' n' s')[i]? = some u → wr.cell? ⟨g', i, none⟩ = some u := fun i u hi => (cell_of_row wr g' i _ _ _ hinv.row).trans (hrow i u hi)
      have l0 := hcur 5 _ rfl
      have l1 := hcur 6 _ rfl
      have l2 := hcur 7 _ rfl
      have l3 := hcur 8 _ rfl
      have l4 := hcur 9 _ rfl
      clear hcur
      have HI := Lib.hid hinv; clear hinv
      go_wp2_with fail
      refine (within_leaf k' n' s' _).mono ?_
      rintro e w2 ⟨rfl, hb2⟩
      have hinv2 := HI.out.next (((Below.refl _ _).alloc (Nat.le_refl _) _).trans (hb2.mono (by simp)))
      have hx := hb2.block wr.heap.size (by simp)
      rw [heap_alloc_new] at hx
      have x0 := cell_of_row w2 _ 0 _ _ _ hx
      have x1 := cell_of_row w2 _ 1 _ _ _ hx
      have x2 := cell_of_row w2 _ 2 _ _ _ hx
      have x3 := cell_of_row w2 _ 3 _ _ _ hx
      have x4 := cell_of_row w2 _ 4 _ _ _ hx
      simp only [List.getElem?_toArray, List.getElem?_cons_zero, List.getElem?_cons_succ] at x0 x1 x2 x3 x4
      have HI2 := Lib.hid hinv2; clear hinv2 hx hb2
      go_wp2_with fail
      refine (clone_leaf k' n' s' _).mono ?_
      rintro e w3 ⟨rfl, hb3⟩
      unfold leafV
      have hinv3 := HI2.out.next hb3
      have hcur : ∀ (i : Nat) (u : Value), (twoCells k n s k' n' s')[i]? = some u → w3.cell? ⟨g', i, none⟩ = some u := fun i u hi => (cell_of_row w3 g' i _ _ _ hinv3.row).trans (hrow i u hi)
      have m0 := hcur 5 _ rfl
      have m1 := hcur 6 _ rfl
      have m2 := hcur 7 _ rfl
      have m3 := hcur 8 _ rfl
      have m4 := hcur 9 _ rfl
      clear hcur
      have mf : ∀ i, w3.frozen? ⟨g', i, none⟩ = false := free5 hinv3.row
      have hsame : ((((w3.setCell ⟨g', 5, none⟩ (.int .i64 k')).setCell ⟨g', 6, none⟩ (.int .u64 n')).setCell ⟨g', 7, none⟩ (.string s')).setCell ⟨g', 8, none⟩ (.slice none 0 0)).setCell ⟨g', 9, none⟩ (.bool false) = w3 := by
        rw [setCell_same hinv3.row (hrow 5 _ rfl), setCell_same hinv3.row (hrow 6 _ rfl), setCell_same hinv3.row (hrow 7 _ rfl), setCell_same hinv3.row (hrow 8 _ rfl), setCell_same hinv3.row (hrow 9 _ rfl)]
      have HSAME := Lib.hid hsame; clear hsame
      have HI3 := Lib.hid hinv3; clear hinv3 hb3
      go_wp2
      go_roundw
      case rel => exact ⟨2, by omega, by go_num, by rw [HSAME.out]; exact HI3.out⟩
      case measure => simp [intOf]
    · have r0 := cell_of_row wr _ 0 _ _ _ hinv.res
      have r1 := cell_of_row wr _ 1 _ _ _ hinv.res
      have r2 := cell_of_row wr _ 2 _ _ _ hinv.res
      have r3 := cell_of_row wr _ 3 _ _ _ hinv.res
      have r4 := cell_of_row wr _ 4 _ _ _ hinv.res
      simp only [List.getElem?_toArray, List.getElem?_cons_zero, List.getElem?_cons_succ] at r0 r1 r2 r3 r4
      have rf : ∀ i, wr.frozen? ⟨w.heap.size, i, none⟩ = false := free5 hinv.res
      have HI := Lib.hid hinv; clear hinv
      go_wp2
      generalize hF : ((((wr.setCell ⟨w.heap.size, 0, none⟩ (.int .i64 4)).setCell ⟨w.heap.size, 1, none⟩ (.int .u64 0)).setCell ⟨w.heap.size, 2, none⟩ (.string ⟨#[]⟩)).setCell ⟨w.heap.size, 3, none⟩ (.slice (some ⟨g', 0, none⟩) 2 cap)).setCell ⟨w.heap.size, 4, none⟩ (.bool false) = F
      obtain ⟨⟨f0, f1, f2, f3, f4⟩, hoth, hbel, _⟩ := set5_end HI.out.res _ _ _ _ _ F hF.symm
      clear hF
      refine bodyPost_ret (v := .agg #[.int .i64 4, .int .u64 0, .string ⟨#[]⟩, .slice (some ⟨g', 0, none⟩) 2 cap, .bool false]) (by simp [results, Try.results19, go_sem, f0, f1, f2, f3, f4]) rfl ⟨g', cap, cur, rfl, (hoth g' hgne).trans HI.out.row, HROW.out, HI.out.below.trans (hbel _ (Nat.le_refl _))⟩

/-- The item of the first check. -/
def awakeIt : It := .mk 4 0 ⟨#[]⟩ [.mk 0 1 ⟨#[]⟩ [] false, .mk 2 0 ⟨#[97]⟩ [] false] false

theorem lies_leaf (w : World) (B : Nat) (k : Int) (n : Nat) (s : ByteArray) (hk : -9223372036854775808 ≤ k ∧ k ≤ 9223372036854775807) (hn : n ≤ 18446744073709551615) (hs : s.size ≤ 140737488355328) :
    Lies w B (.mk k n s [] false) (itV (.mk k n s [] false) (.slice none 0 0)) :=
  .mk (.mk k n s [] false) none 0 (fun _ => .slice none 0 0) ⟨hk.1, hk.2, hn, hs, by simp [It.l]⟩ (fun i y h => by simp [It.l] at h) (fun i y h => by simp [It.l] at h)

theorem awake_lies {w : World} {B g' cap : Nat} {cur : Array Value} (hg : w.heap[g']? = some (.cells cur 25 (0, 0))) (hB : g' < B)
    (hrow : ∀ (i : Nat) (u : Value), (twoCells 0 1 ⟨#[]⟩ 2 0 ⟨#[97]⟩)[i]? = some u → cur[i]? = some u) :
    Lies w B awakeIt (.agg #[.int .i64 4, .int .u64 0, .string ⟨#[]⟩, .slice (some ⟨g', 0, none⟩) 2 cap, .bool false]) := by
  have hc : ∀ (i : Nat) (u : Value), (twoCells 0 1 ⟨#[]⟩ 2 0 ⟨#[97]⟩)[i]? = some u → w.cell? ⟨g', i, none⟩ = some u := fun i u hi => (cell_of_row w g' i _ _ _ hg).trans (hrow i u hi)
  refine .mk awakeIt (some ⟨g', 0, none⟩) cap (fun _ => .slice none 0 0) ⟨by decide, by decide, by decide, by decide, by decide⟩ ?_ ?_
  · intro i y hi
    match i, hi with
    | 0, hi =>
      simp [awakeIt, It.l] at hi
      subst hi
      exact ⟨g', 0, rfl, hB, ⟨hc 0 _ rfl, hc 1 _ rfl, hc 2 _ rfl, hc 3 _ rfl, hc 4 _ rfl⟩⟩
    | 1, hi =>
      simp [awakeIt, It.l] at hi
      subst hi
      exact ⟨g', 0, rfl, hB, ⟨hc 5 _ rfl, hc 6 _ rfl, hc 7 _ rfl, hc 8 _ rfl, hc 9 _ rfl⟩⟩
    | i + 2, hi => simp [awakeIt, It.l] at hi
  · intro i y hi
    match i, hi with
    | 0, hi =>
      simp [awakeIt, It.l] at hi
      subst hi
      exact lies_leaf w B 0 1 ⟨#[]⟩ (by decide) (by decide) (by decide)
    | 1, hi =>
      simp [awakeIt, It.l] at hi
      subst hi
      exact lies_leaf w B 2 0 ⟨#[97]⟩ (by decide) (by decide) (by decide)
    | i + 2, hi => simp [awakeIt, It.l] at hi

theorem awake_valid : validB awakeIt 8 = true := by simp [awakeIt, validB, validL, topB]
theorem awake_bytes : bytesOf awakeIt = [130, 1, 65, 97] := by decide

set_option maxHeartbeats 1000000 in
set_option maxRecDepth 100000 in
/-- dromondlaw02.awake: yes. -/
theorem awake_any (w : World) : Calls Try.prog 8 #[] w fun e w' => e = .returned (.bool true) ∧ Below w.heap.size w w' := by
  go_enter Try.func8, Try.ntmps8
  go_wp2_with fail
  refine (num_any 1 _).mono ?_
  rintro e w1 ⟨rfl, hb1⟩
  have H1 := Lib.hid hb1; clear hb1
  go_wp2_with fail
  refine (str_new _ _).mono ?_
  rintro e w2 ⟨rfl, hb2⟩
  have H2 := Lib.hid (H1.out.trans (hb2.mono H1.out.size)); clear hb2
  unfold leafV
  go_wp2_with fail
  refine (list_two 0 1 ⟨#[]⟩ 2 0 ⟨#[97]⟩ w2.heap.size _ (heap_alloc_new w2 _)).mono ?_
  rintro e w3 ⟨g', cap, cur, rfl, hg, hrow, hb3⟩
  have H3 := Lib.hid ((H2.out.alloc H2.out.size _).trans (hb3.mono (by have := H2.out.size; simp <;> omega))); clear hb3
  have hbuild := build_yes awakeIt w3 w3.heap.size _ (Nat.le_refl _) (awake_lies (cap := cap) hg (lt_of_some hg) hrow) awake_valid (by rw [awake_bytes]; decide)
  rw [awake_bytes] at hbuild
  have HB := Lib.hid hbuild; clear hbuild
  have HG := Lib.hid hg; clear hg hrow
  go_wp2_with fail
  refine HB.out.mono ?_
  rintro e w4 ⟨rfl, hb4⟩
  have H4 := Lib.hid (H3.out.trans (hb4.mono H3.out.size)); clear hb4
  go_wp2
  go_ret
  exact ⟨rfl, H4.out⟩

end Go.Proofs.Ytbbmmndcejejcaa
