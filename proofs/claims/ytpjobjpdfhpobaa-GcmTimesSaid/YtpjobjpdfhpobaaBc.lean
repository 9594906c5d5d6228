/-
  Four bytes stored in the midst of a row; contract of aes.block.replaced. Conditions: the numbers are bytes.
-/
import Derived.Test.YtpjobjpdfhpobaaBb
namespace Go.Proofs.Ytpjobjpdfhpobaa
namespace Aes
open Go.ChangeShapes Go.WideShapes Go.ChangeAt Go.RowKit Go.Great
open Gf
set_option linter.unusedVariables false

/-- Four in a row set. -/
def set4 (l : List Nat) (o : Nat) (d : Nat → Nat) : List Nat := (((l.set o (d 0)).set (o + 1) (d 1)).set (o + 2) (d 2)).set (o + 3) (d 3)
/-- A world behind such a store. -/
def put4 (X : World) (g o : Nat) (d : Nat → Nat) : World := X.setCells g o (valsK .u8 (allF d 4)).toList

theorem put4_eq (X : World) (g o : Nat) (d : Nat → Nat) : put4 X g o d = (((X.setCell ⟨g, o, none⟩ (.int .u8 (d 0 : Nat))).setCell ⟨g, o + 1, none⟩ (.int .u8 (d 1 : Nat))).setCell ⟨g, o + 2, none⟩ (.int .u8 (d 2 : Nat))).setCell ⟨g, o + 3, none⟩ (.int .u8 (d 3 : Nat)) := rfl
theorem Wd.put4 {T : TypeId} {g : Nat} {l : List Nat} {X : World} (h : Wd .u8 T g l X) (o : Nat) (d : Nat → Nat) : Wd .u8 T g (set4 l o d) (put4 X g o d) := by
  rw [put4_eq]
  exact (((h.set o (d 0)).set (o + 1) (d 1)).set (o + 2) (d 2)).set (o + 3) (d 3)
theorem Wd.putFar {k : IntKind} {T : TypeId} {g : Nat} {l : List Nat} {X : World} (h : Wd k T g l X) {g' : Nat} (hg : g ≠ g') (o : Nat) (d : Nat → Nat) : Wd k T g l (Aes.put4 X g' o d) := by
  rw [put4_eq]
  exact (((h.far _ _ _ hg).far _ _ _ hg).far _ _ _ hg).far _ _ _ hg
theorem below_put4 {w X : World} (h : Below w.heap.size w X) {g : Nat} (hg : w.heap.size ≤ g) (o : Nat) (d : Nat → Nat) : Below w.heap.size w (Aes.put4 X g o d) := by
  rw [put4_eq]
  exact (((h.setCell (by simp only []; exact hg) _).setCell (by simp only []; exact hg) _).setCell (by simp only []; exact hg) _).setCell (by simp only []; exact hg) _
theorem set4_step (f g : Nat → Nat) (n o : Nat) : set4 (stepF f g n o) o (fun j => f (o + j)) = stepF f g n (o + 4) := by
  unfold set4
  simp only [Nat.add_zero]
  rw [stepF_next, stepF_next, stepF_next, stepF_next]
theorem there_of_wd {k : IntKind} {T : TypeId} {g : Nat} {l : List Nat} {X : World} (h : Wd k T g l X) (o : Nat) (ho : o + 4 ≤ l.length) : X.there g o 4 := fun j hj => by
  obtain ⟨z, hz⟩ : ∃ z, l[o + j]? = some z := ⟨_, List.getElem?_eq_getElem (by omega)⟩
  exact ⟨by rw [h.cell hz]; rfl, h.frozen _⟩
theorem range_of_wd {T : TypeId} {g : Nat} {l : List Nat} {X : World} (h : Wd .u8 T g l X) (o : Nat) (d : Nat → Nat) (hd : ∀ j < 4, l[o + j]? = some (d j)) : X.rangeAt g o (valsK .u8 (allF d 4)).toList := fun j v hv => by
  have hj : j < 4 := by
    have := (List.getElem?_eq_some_iff.1 hv).1
    rw [Array.length_toList, valsK_size, allF_length] at this
    exact this
  have e : (valsK .u8 (allF d 4))[j]? = some v := by rw [← Array.getElem?_toList]; exact hv
  rw [valsK_get .u8 _ j _ (allF_get d 4 j hj)] at e
  rw [h.cell (hd j hj), e]

theorem store_mid {ops : Array Oper} {rest : List Oper} {op : Oper} {a : Act} {X : World} {Q : Exit → Act → World → Prop} (hgd : op.guard = none) (x y : Operand) (ho : op.op = .store 74 x y)
    (g o : Nat) (hx : a.eval x = .pointer (some ⟨g, o, none⟩)) (d : Nat → Nat) (hy : a.eval y = .agg (valsK .u8 (allF d 4))) (ht : X.there g o 4)
    (h : wpList Try.prog ops Q rest (a.put op.dst undef) (put4 X g o d)) : wpList Try.prog ops Q (op :: rest) a X :=
  wpList_store_mid hgd 74 x y ho g o (valsK .u8 (allF d 4)) hx hy (by rw [valsK_size, allF_length]; exact ht) (by rw [valsK_size, allF_length]; exact zero4.2) (valsK_one _ _) h

/-- A column of an array of columns. -/
theorem idx_row {P : Program} (w : World) {t e e2 : TypeId} {n : Nat} {kk : IntKind} {i0 : TypeInfo} {cs : Array Value} {j : Nat} (ht : P.underlying t = some (.array n e)) (he : P.underlying e = some (.array 4 e2)) (hi : P.info? e = some i0) (hs : P.cellsOf e = 4)
    (hj : j < n) : (Instr.index t (.agg cs) (.int kk (j : Nat))).run P w = .ok (.agg (cs.extract (j * 4) (j * 4 + 4))) w := by
  have h1 : (0 : Int) ≤ (j : Int) ∧ (j : Int) < (n : Int) := by omega
  simp [Instr.index, asIntOf, run_underlying ht, part, isAgg, run_underlying he, run_sizeOf w hi, hs, hj, go_sem]

theorem extract4 (x : Nat → Nat) (j : Nat) (hj : j < 4) : (valsK .u8 (allF x 16)).extract (j * 4) (j * 4 + 4) = valsK .u8 (allF (fun i => x (j * 4 + i)) 4) := by
  apply Array.ext_getElem?
  intro i
  rw [Array.getElem?_extract]
  have hs : (valsK .u8 (allF x 16)).size = 16 := by rw [valsK_size, allF_length]
  by_cases hi : i < 4
  · rw [if_pos (by rw [hs]; omega), valsK_get .u8 _ _ _ (allF_get x 16 (j * 4 + i) (by omega)), valsK_get .u8 _ _ _ (allF_get (fun i => x (j * 4 + i)) 4 i hi)]
  · rw [if_neg (by rw [hs]; omega), Array.getElem?_eq_none (by rw [valsK_size, allF_length]; omega)]

theorem info48 : ∃ i0, Try.prog.info? 74 = some i0 := ⟨_, Option.eq_some_of_isSome (by kernel_rfl)⟩
theorem idx_col (X : World) (x : Nat → Nat) (j : Nat) (hj : j < 4) : (Instr.index 85 (.agg (valsK .u8 (allF x 16))) (.int .i64 (j : Int))).run Try.prog X = .ok (.agg (valsK .u8 (allF (fun i => x (j * 4 + i)) 4))) X := by
  obtain ⟨i0, hi⟩ := info48
  rw [← extract4 x j hj]
  exact idx_row X under16 under4 hi (by kernel_rfl) hj

theorem Row2.next {T : TypeId} {n : Nat} {w X Y : World} {l : List Nat} (h : Row2 T n w l X) (hb : Below X.heap.size X Y) : Row2 T n w l Y :=
  ⟨keepBlock h.hx hb, keepBlock h.hr hb, below_link h.below hb⟩
theorem Row2.put {n : Nat} {w X : World} {l : List Nat} {T : TypeId} (h : Row2 T n w l X) (o : Nat) (d : Nat → Nat) : Row2 T n w (set4 l o d) (put4 X w.heap.size o d) where
  hx := h.hx.put4 o d
  hr := h.hr.putFar (by omega) o d
  below := below_put4 h.below (Nat.le_refl _) o d

/-- A new column. -/
theorem new_col (X : World) (c : List Nat) : Wd .u8 74 X.heap.size c ((X.alloc (.cells (valsK .u8 (zerosN 4)) 74)).setRow X.heap.size (valsK .u8 c)) := Wd.setRow (heap_alloc_new X _) c
theorem below_new_col (X : World) (c : List Nat) : Below X.heap.size X ((X.alloc (.cells (valsK .u8 (zerosN 4)) 74)).setRow X.heap.size (valsK .u8 c)) :=
  below_setRow ((Below.refl _ _).alloc (Nat.le_refl _) _) (Nat.le_refl _) _

set_option maxHeartbeats 4000000 in
theorem block_any (x T : Nat → Nat) (G O : Nat) (w : World) (hx : ∀ i < 16, x i < 256) (hbox : Box G O T w) :
    Calls Try.prog 54 #[.agg (valsK .u8 (allF x 16)), .pointer (some ⟨G, O, none⟩)] w fun e w' => e = .returned (.agg (valsK .u8 (allF (fun i => T (x i)) 16))) ∧ Below w.heap.size w w' := by
  have hz := zero16.1
  have hne := zeros16_ne .u8
  have hz4 := zero4.1
  have hne4 := zeros4_ne .u8
  have HS := Lib.hid (Row2.start 85 16 w (allF x 16))
  have HX := Lib.hid hx
  have HBOX := Lib.hid hbox
  clear hx hbox
  obtain ⟨L, hL⟩ : ∃ L, L = allF x 16 := ⟨_, rfl⟩
  rw [← hL] at HS ⊢
  have HL := Lib.hid hL
  have HLS := Lib.hid (show (valsK .u8 L).size = 16 by rw [valsK_size, hL, allF_length])
  clear hL
  obtain ⟨R, hR⟩ : ∃ R, R = allF (fun i => T (x i)) 16 := ⟨_, rfl⟩
  rw [← hR]
  have HR := Lib.hid (show R = allF (fun i => T (x i)) 16 ∧ (valsK .u8 R).size = 16 from ⟨hR, by rw [valsK_size, hR, allF_length]⟩); clear hR
  go_enter Try.func54, Try.ntmps54
  go_wp2_with (refine load_whole (by rfl) 85 _ (by rfl) _ (by rfl) L HS.out.hx under16 (by rw [HLS.out]; exact zero16.2) ?_)
  go_loopw [8] (fun i wr => ∃ k : Nat, k ≤ 4 ∧ i = .int .i64 (k : Nat) ∧ Row2 85 16 w (stepF (fun i => T (x i)) x 16 (k * 4)) wr) (fun i _ => 4 - (intOf i).toNat)
  case atStart => exact ⟨0, Nat.zero_le _, rfl, by rw [Nat.zero_mul, stepF_zero, ← HL.out]; exact HS.out⟩
  case round =>
    obtain ⟨k, hk, rfl, hS⟩ := hrel
    by_cases hlt : k < 4
    · obtain ⟨C, hC⟩ : ∃ C, C = fun i => x (k * 4 + i) := ⟨_, rfl⟩
      have hidx : ∀ X, (Instr.index 85 (.agg (valsK .u8 L)) (.int .i64 (k : Int))).run Try.prog X = .ok (.agg (valsK .u8 (allF C 4))) X := by
        intro X
        rw [HL.out, hC]
        exact idx_col X x k hlt
      have hCl : ∀ i < 4, C i < 256 := by intro i hi; rw [hC]; exact HX.out _ (by omega)
      obtain ⟨D, hD⟩ : ∃ D, D = fun i => T (C i) := ⟨_, rfl⟩
      have HCALL : Hid (∀ X, Box G O T X → Calls Try.prog 62 #[.agg (valsK .u8 (allF C 4)), .pointer (some ⟨G, O, none⟩)] X fun e w' => e = .returned (.agg (valsK .u8 (allF D 4))) ∧ Below X.heap.size X w') := Lib.hid (fun X hX => by
        rw [hD]; exact column_any C T G O X hCl hX)
      have hst := fun Y (h : Row2 85 16 w (stepF (fun i => T (x i)) x 16 (k * 4)) Y) => h.put (k * 4) D
      rw [hD, hC, set4_step (fun i => T (x i)) x 16 (k * 4), ← hC, ← hD] at hst
      have e4 : (k + 1) * 4 = k * 4 + 4 := by omega
      rw [← e4] at hst
      have HST := Lib.hid hst; clear hst
      have HN := Lib.hid (new_col wr (allF C 4))
      have HBN := Lib.hid (below_new_col wr (allF C 4))
      have HSZ := Lib.hid (show (valsK .u8 (allF C 4)).size = 4 by rw [valsK_size, allF_length])
      have st := storeOld (wr.alloc (.cells (valsK .u8 (zerosN 4)) 74)) wr.heap.size 74 (valsK .u8 (zerosN 4)) (valsK .u8 (allF C 4)) (heap_alloc_new wr _) (by rw [HSZ.out, valsK_size]; rfl) (valsK_one _ _)
      have HQ := Lib.hid hS
      have q3 : (k : Int) < 4 := by omega
      clear hS hC hD hCl hz hne e4
      go_wp2_with (refine load_whole (by rfl) 74 _ (by rfl) _ (by rfl) (allF C 4) ?_ under4 ?_ ?_; exact HN.out; (rw [HSZ.out]; exact zero4.2))
      refine (HCALL.out _ (HBOX.out.keep (below_link HQ.out.below HBN.out))).mono ?_
      rintro e w3 ⟨rfl, hb⟩
      have h3 := HST.out w3 ((HQ.out.next HBN.out).next hb)
      have H3 := Lib.hid h3
      have HT := Lib.hid (there_of_wd ((HQ.out.next HBN.out).next hb).hx (k * 4) (by rw [stepF_length]; omega))
      clear h3 hb
      go_wp2_with (refine store_mid (by rfl) _ _ (by rfl) w.heap.size (k * 4) (by rfl) D (by rfl) ?_ ?_; exact HT.out)
      go_roundw
      case rel => exact ⟨k + 1, by omega, by go_num, H3.out⟩
      case measure => simp [intOf]; omega
    · obtain rfl : k = 4 := by omega
      rw [show 4 * 4 = 16 from rfl, stepF_all, ← HR.out.1] at hS
      have HQ := Lib.hid hS; clear hS
      go_wp2_with (first | (refine load_whole (by rfl) 85 _ (by rfl) _ (by rfl) R HQ.out.hx under16 (by rw [HR.out.2]; exact zero16.2) ?_) | (refine store_whole (by rfl) 85 _ _ (by rfl) _ (by rfl) R _ (by rfl) HQ.out.hr (by rw [HR.out.2, valsK_size]; rfl) (by rw [HR.out.2]; exact zero16.2) ?_))
      refine bodyPost_ret (results_cell_row rfl _ _ (w.heap.size + 1) 85 (valsK .u8 R) (0, 0) _ rfl (setRow_heap _ _ _ _ _ _ HQ.out.hr) under16 rfl (by rw [HR.out.2]; exact zero16.2)) rfl ⟨rfl, below_setRow HQ.out.below (by omega) _⟩

end Aes
end Go.Proofs.Ytpjobjpdfhpobaa
