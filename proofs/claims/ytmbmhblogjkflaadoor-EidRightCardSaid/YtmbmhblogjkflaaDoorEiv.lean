/-
  Contract of dromondref10.Item at a right name: its item, in new blocks. Conditions: none.
-/
import Derived.Test.YtmbmhblogjkflaaDoorEis
import Derived.Test.YtmbmhblogjkflaaDoorPure
namespace Go.Proofs.YtmbmhblogjkflaaDoor
namespace Eid
open Go.ChangeShapes Go.WideShapes Go.ChangeAt Go.RowKit
set_option linter.unusedVariables false
set_option linter.unusedSimpArgs false
set_option maxRecDepth 100000

theorem fits_num (n : Nat) (h : n ≤ 18446744073709551615) : Fits (numI n) := ⟨(by decide : (-9223372036854775808 : Int) ≤ 0), (by decide : (0 : Int) ≤ 9223372036854775807), h, (by decide : (⟨#[]⟩ : ByteArray).size ≤ 140737488355328), by simp [numI, It.l]⟩
theorem fits_text (s : ByteArray) (h : s.size ≤ 140737488355328) : Fits (textI s) := ⟨(by decide : (-9223372036854775808 : Int) ≤ 3), (by decide : (3 : Int) ≤ 9223372036854775807), (by decide : (0 : Nat) ≤ 18446744073709551615), h, by simp [textI, It.l]⟩
theorem fits_pair (a b : It) : Fits (pairI a b) := ⟨(by decide : (-9223372036854775808 : Int) ≤ 4), (by decide : (4 : Int) ≤ 9223372036854775807), (by decide : (0 : Nat) ≤ 18446744073709551615), (by decide : (⟨#[]⟩ : ByteArray).size ≤ 140737488355328), by simp [pairI, It.l]⟩
theorem lies_num (w : World) (B n : Nat) (h : n ≤ 18446744073709551615) : Lies w B (numI n) (itV (numI n) (.slice none 0 0)) :=
  .mk (numI n) none 0 (fun _ => .slice none 0 0) (fits_num n h) (fun i y h => by simp [numI, It.l] at h) (fun i y h => by simp [numI, It.l] at h)
theorem lies_text (w : World) (B : Nat) (s : ByteArray) (h : s.size ≤ 140737488355328) : Lies w B (textI s) (itV (textI s) (.slice none 0 0)) :=
  .mk (textI s) none 0 (fun _ => .slice none 0 0) (fits_text s h) (fun i y h => by simp [textI, It.l] at h) (fun i y h => by simp [textI, It.l] at h)
/-- A row of two items. -/
def pCells2 (a b : It) (sa sb : Value) : Array Value := #[.int .i64 a.kind, .int .u64 (a.n : Nat), .string a.s, sa, .bool a.opn, .int .i64 b.kind, .int .u64 (b.n : Nat), .string b.s, sb, .bool b.opn]
theorem lies_pair {w : World} {B g : Nat} {a b : It} {sa sb : Value} {T : TypeId} {cap : Nat} (hg : g < B) (h : w.heap[g]? = some (.cells (pCells2 a b sa sb) T (0, 0))) (ha : Lies w B a (itV a sa)) (hb : Lies w B b (itV b sb)) : Lies w B (pairI a b) (itV (pairI a b) (.slice (some ⟨g, 0, none⟩) 2 cap)) := by
  have h5 : ∀ i y, (pairI a b).l[i]? = some y → At5 w g (0 + i * 5) y (if i = 0 then sa else sb) ∧ Lies w B y (itV y (if i = 0 then sa else sb)) := by
    intro i y hy
    match i, hy with
    | 0, hy =>
      obtain rfl : a = y := by simpa [pairI, It.l] using hy
      exact ⟨⟨cell_of_row w _ 0 _ _ _ h, cell_of_row w _ 1 _ _ _ h, cell_of_row w _ 2 _ _ _ h, cell_of_row w _ 3 _ _ _ h, cell_of_row w _ 4 _ _ _ h⟩, ha⟩
    | 1, hy =>
      obtain rfl : b = y := by simpa [pairI, It.l] using hy
      exact ⟨⟨cell_of_row w _ 5 _ _ _ h, cell_of_row w _ 6 _ _ _ h, cell_of_row w _ 7 _ _ _ h, cell_of_row w _ 8 _ _ _ h, cell_of_row w _ 9 _ _ _ h⟩, hb⟩
    | i + 2, hy => simp [pairI, It.l] at hy
  exact .mk (pairI a b) (some ⟨g, 0, none⟩) cap (fun i => if i = 0 then sa else sb) (fits_pair a b) (fun i y hy => ⟨g, 0, rfl, hg, (h5 i y hy).1⟩) (fun i y hy => (h5 i y hy).2)

theorem heap_at {w : World} {o : Obj} (k : Nat) (h : k = w.heap.size) : (w.alloc o).heap[k]? = some o := by subst h; exact heap_alloc_new w _
theorem heap_old {w : World} {o p : Obj} {k : Nat} (h : w.heap[k]? = some p) : (w.alloc o).heap[k]? = some p := by
  have hlt : k < w.heap.size := by
    rcases Nat.lt_or_ge k w.heap.size with h1 | h1
    · exact h1
    · rw [Array.getElem?_eq_none h1] at h; cases h
  exact (((Below.refl w.heap.size w).alloc (Nat.le_refl _) o).block k hlt).trans h

set_option maxHeartbeats 16000000 in
theorem ritem_two (nm : ByteArray) (nd sv : Nat) (hn : nd ≤ 18446744073709551615) (hs : sv ≤ 18446744073709551615) (w : World) : Calls Tryd.prog 16 #[eV ⟨2, nm, nd, sv⟩] w fun r w' => ∃ v, r = .returned v ∧ Lies w' w'.heap.size (itE ⟨2, nm, nd, sv⟩) v ∧ Below w.heap.size w w' := by
  have HH := Lib.hid (And.intro hn hs); clear hn hs
  simp only [eV, Int.cast_ofNat_Int]
  go_enter Tryd.func16, Tryd.ntmps16
  go_wp2
  refine bodyPost_ret (v := .agg #[.int .i64 4, .int .u64 0, .string ⟨#[]⟩, .slice (some ⟨w.heap.size + 1 + 1 + 1 + 1, 0, none⟩) 2 2, .bool false]) (by simp [results, Tryd.results16, go_sem]) rfl ⟨_, rfl, ?_, ?_⟩
  · refine lies_pair (a := numI 2) (b := pairI (numI nd) (numI sv)) (sa := .slice none 0 0) (sb := .slice (some ⟨w.heap.size + 1 + 1 + 1, 0, none⟩) 2 2) (by simp) (heap_at _ (by simp)) (lies_num _ _ 2 (by decide)) ?_
    exact lies_pair (sa := .slice none 0 0) (sb := .slice none 0 0) (by simp) (heap_old (heap_at _ (by simp))) (lies_num _ _ nd HH.out.1) (lies_num _ _ sv HH.out.2)
  · exact (((((Below.refl w.heap.size w).alloc (Nat.le_refl _) _).alloc (by simp) _).alloc (by simp; omega) _).alloc (by simp; omega) _).alloc (by simp; omega) _

set_option maxHeartbeats 16000000 in
theorem ritem_none (w : World) : Calls Tryd.prog 16 #[eV noneE] w fun r w' => ∃ v, r = .returned v ∧ Lies w' w'.heap.size (itE noneE) v ∧ Below w.heap.size w w' := by
  simp only [eV, noneE, noneB, Int.cast_ofNat_Int]
  go_enter Tryd.func16, Tryd.ntmps16
  go_wp2
  refine bodyPost_ret (v := .agg #[.int .i64 4, .int .u64 0, .string ⟨#[]⟩, .slice (some ⟨w.heap.size + 1 + 1 + 1, 0, none⟩) 2 2, .bool false]) (by simp [results, Tryd.results16, go_sem]) rfl ⟨_, rfl, ?_, ?_⟩
  · exact lies_pair (a := numI 1) (b := numI 0) (sa := .slice none 0 0) (sb := .slice none 0 0) (by simp) (heap_at _ (by simp)) (lies_num _ _ 1 (by decide)) (lies_num _ _ 0 (by decide))
  · exact ((((Below.refl w.heap.size w).alloc (Nat.le_refl _) _).alloc (by simp) _).alloc (by simp; omega) _).alloc (by simp; omega) _

set_option maxHeartbeats 16000000 in
theorem ritem_full (nm : ByteArray) (hn : nm ≠ noneB) (hs : nm.size ≤ 1099511627776) (w : World) : Calls Tryd.prog 16 #[eV ⟨1, nm, 0, 0⟩] w fun r w' => ∃ v, r = .returned v ∧ Lies w' w'.heap.size (itE ⟨1, nm, 0, 0⟩) v ∧ Below w.heap.size w w' := by
  have hi : itE ⟨1, nm, 0, 0⟩ = pairI (numI 1) (textI nm) := by
    unfold itE partI
    rw [if_neg (show ¬ (1 : Int) = 2 by decide), if_neg hn]
    rfl
  rw [hi]
  have ht : (nm.toList == ([110, 111, 110, 101] : List UInt8)) = false := by rw [noneB_test, decide_eq_false hn]
  have ht' : (nm.toList != ([110, 111, 110, 101] : List UInt8)) = true := by rw [noneB_test', decide_eq_false hn]; rfl
  have HS := Lib.hid hs
  clear hn hi hs
  simp only [eV, Int.cast_ofNat_Int]
  go_enter Tryd.func16, Tryd.ntmps16
  go_wp2
  refine bodyPost_ret (v := .agg #[.int .i64 4, .int .u64 0, .string ⟨#[]⟩, .slice (some ⟨w.heap.size + 1 + 1 + 1, 0, none⟩) 2 2, .bool false]) (by simp [results, Tryd.results16, go_sem]) rfl ⟨_, rfl, ?_, ?_⟩
  · exact lies_pair (a := numI 1) (b := textI nm) (sa := .slice none 0 0) (sb := .slice none 0 0) (by simp) (heap_at _ (by simp)) (lies_num _ _ 1 (by decide)) (lies_text _ _ nm (Nat.le_trans HS.out (by decide)))
  · exact ((((Below.refl w.heap.size w).alloc (Nat.le_refl _) _).alloc (by simp) _).alloc (by simp; omega) _).alloc (by simp; omega) _

theorem right_small {e : Nm} (h : Right e) : e.scheme.toNat ≤ 2 ∧ e.node ≤ 4294967295 ∧ e.service ≤ 4294967295 ∧ e.name.size ≤ 60 := by
  rcases h with ⟨h1, h2, h3, h4⟩ | ⟨h1, h2, h3, h4, h5⟩
  · exact ⟨by omega, h3, h4, by rw [h2]; decide⟩
  · exact ⟨by omega, by omega, by omega, h4⟩

/-- The reference's Item. -/
theorem ritem (e : Nm) (h : Right e) (w : World) : Calls Tryd.prog 16 #[eV e] w fun r w' => ∃ v, r = .returned v ∧ Lies w' w'.heap.size (itE e) v ∧ Below w.heap.size w w' := by
  obtain ⟨s, nm, nd, sv⟩ := e
  rcases h with ⟨h1, h2, h3, h4⟩ | ⟨h1, h2, h3, h4, h5⟩
  · have h1' : s = 2 := h1
    subst h1'
    have h3' : nd ≤ 4294967295 := h3
    have h4' : sv ≤ 4294967295 := h4
    exact ritem_two nm nd sv (by omega) (by omega) w
  · have h1' : s = 1 := h1
    subst h1'
    have h2' : nd = 0 := h2
    have h3' : sv = 0 := h3
    subst h2' h3'
    by_cases hn : nm = noneB
    · subst hn
      exact ritem_none w
    · exact ritem_full nm hn (by have : nm.size ≤ 60 := h4; omega) w

/-! ### Its bytes -/
theorem allFit_item {e : Nm} (h : Right e) : AllFit (itE e) := by
  have hn : ∀ n, n ≤ 18446744073709551615 → AllFit (numI n) := fun n hn => .mk _ (fits_num n hn) (fun y hy => by simp [numI, It.l] at hy)
  have hp : ∀ a b, AllFit a → AllFit b → AllFit (pairI a b) := fun a b ha hb => .mk _ (fits_pair a b) (fun y hy => by
    simp only [pairI, It.l, List.mem_cons, List.not_mem_nil, or_false] at hy
    rcases hy with rfl | rfl
    · exact ha
    · exact hb)
  have hs := right_small h
  refine hp _ _ (hn _ (by omega)) ?_
  unfold partI
  split
  · exact hp _ _ (hn _ (by omega)) (hn _ (by omega))
  · split
    · exact hn 0 (by decide)
    · exact .mk _ (fits_text _ (by omega)) (fun y hy => by simp [textI, It.l] at hy)
theorem valid_item (e : Nm) : validB (itE e) 8 = true := by
  have hn : ∀ n m, validB (numI n) (m + 1) = true := fun n m => by simp [numI, validB, topB, validL, (empty_nil ⟨#[]⟩).2 rfl]
  have ht : ∀ s m, validB (textI s) (m + 1) = true := fun s m => by simp [textI, validB, topB, validL]
  have hp : ∀ a b m, validB a m = true → validB b m = true → validB (pairI a b) (m + 1) = true := fun a b m ha hb => by simp [pairI, validB, topB, validL, (empty_nil ⟨#[]⟩).2 rfl, ha, hb]
  refine hp _ _ 7 (hn _ 6) ?_
  unfold partI
  split
  · exact hp _ _ 6 (hn _ 5) (hn _ 5)
  · split
    · exact hn 0 6
    · exact ht _ 6
end Eid
end Go.Proofs.YtmbmhblogjkflaaDoor
