/-
  Joined: Bb, Bc. Conditions: as each part says.
-/
import Derived.Test.YtedoggejbhbebaaJ25

/-
  Contracts of aes.replaced on a column and of aes.blockOf. Conditions: the numbers are bytes; the text has sixteen.
-/
namespace Go.Proofs.Ytedoggejbhbebaa
namespace Aes
open Go.ChangeShapes Go.WideShapes Go.ChangeAt Go.RowKit Go.Great
open Gf
set_option linter.unusedVariables false

/-- A row that came in and the result's, both of type T. -/
structure Row2 (T : TypeId) (n : Nat) (w : World) (l : List Nat) (wr : World) : Prop where
  hx : Wd .u8 T w.heap.size l wr
  hr : Wd .u8 T (w.heap.size + 1) (zerosN n) wr
  below : Below w.heap.size w wr
theorem Row2.start (T : TypeId) (n : Nat) (w : World) (l : List Nat) : Row2 T n w l ((w.alloc (.cells (valsK .u8 l) T)).alloc (.cells (valsK .u8 (zerosN n)) T)) where
  hx := keepAlloc (heap_alloc_new w _) _
  hr := by
    have := heap_alloc_new (w.alloc (.cells (valsK .u8 l) T)) (.cells (valsK .u8 (zerosN n)) T)
    rwa [alloc_size] at this
  below := below_alloc ((Below.refl _ _).alloc (Nat.le_refl _) _) _
theorem Row2.drew {T : TypeId} {n : Nat} {w X : World} {l : List Nat} (h : Row2 T n w l X) : Row2 T n w l X.drew := ⟨h.hx, h.hr, h.below.drew⟩
theorem Row2.step {T : TypeId} {n : Nat} {w X : World} {l : List Nat} (h : Row2 T n w l X) (j v : Nat) : Row2 T n w (l.set j v) (X.setCell ⟨w.heap.size, j, none⟩ (.int .u8 (v : Nat))) where
  hx := h.hx.set j v
  hr := h.hr.far _ _ _ (by omega)
  below := h.below.setCell (by simp only []; omega) _

/-- A box: what stands for each byte, in block G from O on. -/
def Box (G O : Nat) (T : Nat → Nat) (w : World) : Prop := G < w.heap.size ∧ ∀ j < 256, w.cell? ⟨G, O + j, none⟩ = some (.int .u8 (T j : Nat))
theorem Box.keep {G O : Nat} {T : Nat → Nat} {w w' : World} (h : Box G O T w) (hb : Below w.heap.size w w') : Box G O T w' :=
  ⟨Nat.lt_of_lt_of_le h.1 hb.size, fun j hj => by rw [hb.cell (p := ⟨G, O + j, none⟩) h.1]; exact h.2 j hj⟩

set_option maxHeartbeats 2000000 in
theorem column_any (x T : Nat → Nat) (G O : Nat) (w : World) (hx : ∀ i < 4, x i < 256) (hbox : Box G O T w) :
    Calls Try.prog 97 #[.agg (valsK .u8 (allF x 4)), .pointer (some ⟨G, O, none⟩)] w fun e w' => e = .returned (.agg (valsK .u8 (allF (fun i => T (x i)) 4))) ∧ Below w.heap.size w w' := by
  have hz := zero4.1
  have hne := zeros4_ne .u8
  obtain ⟨i0, hi0⟩ := info8
  have HI0 := Lib.hid hi0; clear hi0
  have HS := Lib.hid (Row2.start 106 4 w (allF x 4))
  have HX := Lib.hid hx
  have HBOX := Lib.hid hbox
  clear hx hbox
  obtain ⟨L, hL⟩ : ∃ L, L = allF x 4 := ⟨_, rfl⟩
  rw [← hL] at HS ⊢
  have HL := Lib.hid hL
  have HLS := Lib.hid (show (valsK .u8 L).size = 4 by rw [valsK_size, hL, allF_length])
  clear hL
  obtain ⟨R, hR⟩ : ∃ R, R = allF (fun i => T (x i)) 4 := ⟨_, rfl⟩
  rw [← hR]
  have HR := Lib.hid (show R = allF (fun i => T (x i)) 4 ∧ (valsK .u8 R).size = 4 from ⟨hR, by rw [valsK_size, hR, allF_length]⟩); clear hR
  go_enter Try.func97, Try.ntmps97
  go_wp2_with (refine load_whole (by rfl) 106 _ (by rfl) _ (by rfl) L HS.out.hx under4 (by rw [HLS.out]; exact zero4.2) ?_)
  go_loopw [8] (fun i wr => ∃ k : Nat, k ≤ 4 ∧ i = .int .i64 (k : Nat) ∧ Row2 106 4 w (stepF (fun i => T (x i)) x 4 k) wr) (fun i _ => 4 - (intOf i).toNat)
  case atStart => exact ⟨0, Nat.zero_le _, rfl, by rw [stepF_zero, ← HL.out]; exact HS.out⟩
  case round =>
    obtain ⟨k, hk, rfl, hS⟩ := hrel
    by_cases hlt : k < 4
    · obtain ⟨a, ha⟩ : ∃ a, a = x k := ⟨_, rfl⟩
      obtain ⟨b, hb⟩ : ∃ b, b = T a := ⟨_, rfl⟩
      have hal : a < 256 := by rw [ha]; exact HX.out k hlt
      have hst := hS.step k b
      rw [hb, ha, stepF_next (fun i => T (x i)) x 4 k, ← ha, ← hb] at hst
      have c1 := hS.hx.cell (stepF_get (fun i => T (x i)) x 4 k k hlt)
      rw [if_neg (Nat.lt_irrefl _), ← ha] at c1
      have hbx : wr.cell? ⟨G, O + a, none⟩ = some (.int .u8 (b : Nat)) := by
        rw [hS.below.cell (p := ⟨G, O + a, none⟩) HBOX.out.1, hb]; exact HBOX.out.2 a hal
      have hidx : ∀ X, (Instr.index 106 (.agg (valsK .u8 L)) (.int .i64 (k : Int))).run Try.prog X = .ok (.int .u8 (a : Nat)) X := by
        intro X
        rw [HL.out, ha]
        exact idx_int X under4 Try.underlying5 HI0.out (by kernel_rfl) hlt (valsK_get _ _ _ _ (allF_get x 4 k hlt))
      have f1 := hS.hx.frozen k
      have q3 : (k : Int) < 4 := by omega
      have q4 : (a : Int) < 256 := by omega
      have HST := Lib.hid hst; clear hst
      clear hS ha hb hz hne hal
      go_wp2
      go_roundw
      case rel => exact ⟨k + 1, by omega, by go_num, HST.out⟩
      case measure => simp [intOf]; omega
    · obtain rfl : k = 4 := by omega
      rw [stepF_all, ← HR.out.1] at hS
      have HQ := Lib.hid hS; clear hS
      go_wp2_with (first | (refine load_whole (by rfl) 106 _ (by rfl) _ (by rfl) R HQ.out.hx under4 (by rw [HR.out.2]; exact zero4.2) ?_) | (refine store_whole (by rfl) 106 _ _ (by rfl) _ (by rfl) R _ (by rfl) HQ.out.hr (by rw [HR.out.2, valsK_size]; rfl) (by rw [HR.out.2]; exact zero4.2) ?_))
      refine bodyPost_ret (results_cell_row rfl _ _ (w.heap.size + 1) 106 (valsK .u8 R) (0, 0) _ rfl (setRow_heap _ _ _ _ _ _ HQ.out.hr) under4 rfl (by rw [HR.out.2]; exact zero4.2)) rfl ⟨rfl, below_setRow HQ.out.below (by omega) _⟩

/-! ### blockOf -/

/-- A text's bytes. -/
def nums (b : ByteArray) : List Nat := b.data.toList.map UInt8.toNat
theorem nums_length (b : ByteArray) : (nums b).length = b.size := by simp [nums]
theorem nums_get (b : ByteArray) (k : Nat) (h : k < b.size) : (nums b)[k]? = some b[k].toNat := by
  rw [List.getElem?_eq_getElem (by rw [nums_length]; exact h)]
  simp [nums]
  rfl
theorem nums_lt (b : ByteArray) : ∀ c ∈ nums b, c < 256 := by
  intro c hc
  obtain ⟨x, -, rfl⟩ := List.mem_map.1 hc
  exact x.toNat_lt
/-- A text's byte at i. -/
def byteAt (b : ByteArray) (i : Nat) : Nat := (nums b).getD i 0
theorem byteAt_lt (b : ByteArray) (i : Nat) : byteAt b i < 256 := getD_lt (nums_lt b) i
theorem byteAt_get (b : ByteArray) (i : Nat) (h : i < b.size) : byteAt b i = b[i].toNat := by
  unfold byteAt
  rw [List.getD_eq_getElem?_getD, nums_get b i h]; rfl

/-- The result's row and the one that is filled. -/
structure Fil16 (w : World) (l : List Nat) (wr : World) : Prop where
  hr : Wd .u8 120 w.heap.size (zerosN 16) wr
  hs : Wd .u8 120 (w.heap.size + 1) l wr
  below : Below w.heap.size w wr
theorem Fil16.start (w : World) : Fil16 w (zerosN 16) ((w.alloc (.cells (valsK .u8 (zerosN 16)) 120)).alloc (.cells (valsK .u8 (zerosN 16)) 120)) where
  hr := keepAlloc (heap_alloc_new w _) _
  hs := by
    have := heap_alloc_new (w.alloc (.cells (valsK .u8 (zerosN 16)) 120)) (.cells (valsK .u8 (zerosN 16)) 120)
    rwa [alloc_size] at this
  below := below_alloc ((Below.refl _ _).alloc (Nat.le_refl _) _) _
theorem Fil16.drew {w X : World} {l : List Nat} (h : Fil16 w l X) : Fil16 w l X.drew := ⟨h.hr, h.hs, h.below.drew⟩
theorem Fil16.step {w X : World} {l : List Nat} (h : Fil16 w l X) (j v : Nat) : Fil16 w (l.set j v) (X.setCell ⟨w.heap.size + 1, j, none⟩ (.int .u8 (v : Nat))) where
  hr := h.hr.far _ _ _ (by omega)
  hs := h.hs.set j v
  below := h.below.setCell (by simp only []; omega) _

set_option maxHeartbeats 2000000 in
theorem blockOf_any (b : ByteArray) (w : World) (hb : b.size = 16) :
    Calls Try.prog 80 #[.string b] w fun e w' => e = .returned (.agg (valsK .u8 (allF (byteAt b) 16))) ∧ Below w.heap.size w w' := by
  have hz := zero16.1
  have hne := zeros16_ne .u8
  have HS := Lib.hid (Fil16.start w)
  have g0 : (b.size : Int) = 16 := by omega
  have HB := Lib.hid hb; clear hb
  obtain ⟨R, hR⟩ : ∃ R, R = allF (byteAt b) 16 := ⟨_, rfl⟩
  rw [← hR]
  have HR := Lib.hid (show R = allF (byteAt b) 16 ∧ (valsK .u8 R).size = 16 from ⟨hR, by rw [valsK_size, hR, allF_length]⟩); clear hR
  go_enter Try.func80, Try.ntmps80
  go_wp2
  go_loopw [5] (fun i wr => ∃ k : Nat, k ≤ 16 ∧ i = .int .i64 (k : Nat) ∧ Fil16 w (upF (byteAt b) 16 k) wr) (fun i _ => 16 - (intOf i).toNat)
  case atStart => exact ⟨0, Nat.zero_le _, rfl, by rw [upF_zero]; exact HS.out⟩
  case round =>
    obtain ⟨k, hk, rfl, hS⟩ := hrel
    by_cases hlt : k < 16
    · obtain ⟨q, hq⟩ : ∃ q, q = k / 4 := ⟨_, rfl⟩
      obtain ⟨r, hr⟩ : ∃ r, r = k % 4 := ⟨_, rfl⟩
      have hkb : k < b.size := by have := HB.out; omega
      obtain ⟨c, hc⟩ : ∃ c, c = byteAt b k := ⟨_, rfl⟩
      have hc2 : (b[k].toNat : Int) = (c : Int) := by rw [hc, byteAt_get b k hkb]
      have hst := hS.step k c
      rw [hc, upF_next (byteAt b) 16 k, ← hc] at hst
      have e4 : k = q * 4 + r := by omega
      have c1 := hS.hs.cell (upF_get (byteAt b) 16 k k hlt)
      have f1 := hS.hs.frozen k
      have HST := Lib.hid hst; clear hst
      have HE := Lib.hid e4
      rw [e4] at c1 f1
      have q1 : (k : Int) / 4 = (q : Int) := by omega
      have q2 : (k : Int) % 4 = (r : Int) := by omega
      have q3 : (q : Int) < 4 := by omega
      have q4 : (r : Int) < 4 := by omega
      clear hS hc hz hne hq hr e4
      go_wp2
      go_region
      all_goals (go_wp2; go_roundw)
      all_goals first
        | exact ⟨k + 1, by omega, by go_num, by rw [← HE.out]; exact HST.out.drew⟩
        | (simp [intOf]; omega)
    · obtain rfl : k = 16 := by omega
      rw [upF_all, ← HR.out.1] at hS
      have HQ := Lib.hid hS; clear hS
      go_wp2_with (first | (refine load_whole (by rfl) 120 _ (by rfl) _ (by rfl) R HQ.out.hs under16 (by rw [HR.out.2]; exact zero16.2) ?_) | (refine store_whole (by rfl) 120 _ _ (by rfl) _ (by rfl) R _ (by rfl) HQ.out.hr (by rw [HR.out.2, valsK_size]; rfl) (by rw [HR.out.2]; exact zero16.2) ?_))
      refine bodyPost_ret (results_cell_row rfl _ _ w.heap.size 120 (valsK .u8 R) (0, 0) _ rfl (setRow_heap _ _ _ _ _ _ HQ.out.hr) under16 rfl (by rw [HR.out.2]; exact zero16.2)) rfl ⟨rfl, below_setRow HQ.out.below (by omega) _⟩

end Aes
end Go.Proofs.Ytedoggejbhbebaa

/-
  Four bytes stored in the midst of a row; contract of aes.block.replaced. Conditions: the numbers are bytes.
-/
namespace Go.Proofs.Ytedoggejbhbebaa
namespace Aes
open Go.ChangeShapes Go.WideShapes Go.ChangeAt Go.RowKit Go.Great
open Gf
set_option linter.unusedVariables false

/-- Four in a row set. -/
def set4 (l : List Nat) (o : Nat) (d : Nat → Nat) : List Nat := (((l.set o (d 0)).set (o + 1) (d 1)).set (o + 2) (d 2)).set (o + 3) (d 3)
/-- A world behind such a store. -/
def put4 (X : World) (g o : Nat) (d : Nat → Nat) : World := X.setCells g o (valsK .u8 (allF d 4)).toList

theorem put4_eq (X : World) (g o : Nat) (d : Nat → Nat) : put4 X g o d = (((X.setCell ⟨g, o, none⟩ (.int .u8 (d 0 : Nat))).setCell ⟨g, o + 1, none⟩ (.int .u8 (d 1 : Nat))).setCell ⟨g, o + 2, none⟩ (.int .u8 (d 2 : Nat))).setCell ⟨g, o + 3, none⟩ (.int .u8 (d 3 : Nat)) := rfl
theorem Wd.put4 {T : TypeId} {g : Nat} {l : List Nat} {X : World} (h : Wd .u8 T g l X) (o : Nat) (d : Nat → Nat) : Wd .u8 T g (set4 l o d) (put4 X g o d) := by
  rw [put4_eq]
  exact (((h.set o (d 0)).set (o + 1) (d 1)).set (o + 2) (d 2)).set (o + 3) (d 3)
theorem Wd.putFar {k : IntKind} {T : TypeId} {g : Nat} {l : List Nat} {X : World} (h : Wd k T g l X) {g' : Nat} (hg : g ≠ g') (o : Nat) (d : Nat → Nat) : Wd k T g l (Aes.put4 X g' o d) := by
  rw [put4_eq]
  exact (((h.far _ _ _ hg).far _ _ _ hg).far _ _ _ hg).far _ _ _ hg
theorem below_put4 {w X : World} (h : Below w.heap.size w X) {g : Nat} (hg : w.heap.size ≤ g) (o : Nat) (d : Nat → Nat) : Below w.heap.size w (Aes.put4 X g o d) := by
  rw [put4_eq]
  exact (((h.setCell (by simp only []; exact hg) _).setCell (by simp only []; exact hg) _).setCell (by simp only []; exact hg) _).setCell (by simp only []; exact hg) _
theorem set4_step (f g : Nat → Nat) (n o : Nat) : set4 (stepF f g n o) o (fun j => f (o + j)) = stepF f g n (o + 4) := by
  unfold set4
  simp only [Nat.add_zero]
  rw [stepF_next, stepF_next, stepF_next, stepF_next]
theorem there_of_wd {k : IntKind} {T : TypeId} {g : Nat} {l : List Nat} {X : World} (h : Wd k T g l X) (o : Nat) (ho : o + 4 ≤ l.length) : X.there g o 4 := fun j hj => by
  obtain ⟨z, hz⟩ : ∃ z, l[o + j]? = some z := ⟨_, List.getElem?_eq_getElem (by omega)⟩
  exact ⟨by rw [h.cell hz]; rfl, h.frozen _⟩
theorem range_of_wd {T : TypeId} {g : Nat} {l : List Nat} {X : World} (h : Wd .u8 T g l X) (o : Nat) (d : Nat → Nat) (hd : ∀ j < 4, l[o + j]? = some (d j)) : X.rangeAt g o (valsK .u8 (allF d 4)).toList := fun j v hv => by
  have hj : j < 4 := by
    have := (List.getElem?_eq_some_iff.1 hv).1
    rw [Array.length_toList, valsK_size, allF_length] at this
    exact this
  have e : (valsK .u8 (allF d 4))[j]? = some v := by rw [← Array.getElem?_toList]; exact hv
  rw [valsK_get .u8 _ j _ (allF_get d 4 j hj)] at e
  rw [h.cell (hd j hj), e]

theorem store_mid {ops : Array Oper} {rest : List Oper} {op : Oper} {a : Act} {X : World} {Q : Exit → Act → World → Prop} (hgd : op.guard = none) (x y : Operand) (ho : op.op = .store 106 x y)
    (g o : Nat) (hx : a.eval x = .pointer (some ⟨g, o, none⟩)) (d : Nat → Nat) (hy : a.eval y = .agg (valsK .u8 (allF d 4))) (ht : X.there g o 4)
    (h : wpList Try.prog ops Q rest (a.put op.dst undef) (put4 X g o d)) : wpList Try.prog ops Q (op :: rest) a X :=
  wpList_store_mid hgd 106 x y ho g o (valsK .u8 (allF d 4)) hx hy (by rw [valsK_size, allF_length]; exact ht) (by rw [valsK_size, allF_length]; exact zero4.2) (valsK_one _ _) h

/-- A column of an array of columns. -/
theorem idx_row {P : Program} (w : World) {t e e2 : TypeId} {n : Nat} {kk : IntKind} {i0 : TypeInfo} {cs : Array Value} {j : Nat} (ht : P.underlying t = some (.array n e)) (he : P.underlying e = some (.array 4 e2)) (hi : P.info? e = some i0) (hs : P.cellsOf e = 4)
    (hj : j < n) : (Instr.index t (.agg cs) (.int kk (j : Nat))).run P w = .ok (.agg (cs.extract (j * 4) (j * 4 + 4))) w := by
  have h1 : (0 : Int) ≤ (j : Int) ∧ (j : Int) < (n : Int) := by omega
  simp [Instr.index, asIntOf, run_underlying ht, part, isAgg, run_underlying he, run_sizeOf w hi, hs, hj, go_sem]

theorem extract4 (x : Nat → Nat) (j : Nat) (hj : j < 4) : (valsK .u8 (allF x 16)).extract (j * 4) (j * 4 + 4) = valsK .u8 (allF (fun i => x (j * 4 + i)) 4) := by
  apply Array.ext_getElem?
  intro i
  rw [Array.getElem?_extract]
  have hs : (valsK .u8 (allF x 16)).size = 16 := by rw [valsK_size, allF_length]
  by_cases hi : i < 4
  · rw [if_pos (by rw [hs]; omega), valsK_get .u8 _ _ _ (allF_get x 16 (j * 4 + i) (by omega)), valsK_get .u8 _ _ _ (allF_get (fun i => x (j * 4 + i)) 4 i hi)]
  · rw [if_neg (by rw [hs]; omega), Array.getElem?_eq_none (by rw [valsK_size, allF_length]; omega)]

theorem info48 : ∃ i0, Try.prog.info? 106 = some i0 := ⟨_, Option.eq_some_of_isSome (by kernel_rfl)⟩
theorem idx_col (X : World) (x : Nat → Nat) (j : Nat) (hj : j < 4) : (Instr.index 120 (.agg (valsK .u8 (allF x 16))) (.int .i64 (j : Int))).run Try.prog X = .ok (.agg (valsK .u8 (allF (fun i => x (j * 4 + i)) 4))) X := by
  obtain ⟨i0, hi⟩ := info48
  rw [← extract4 x j hj]
  exact idx_row X under16 under4 hi (by kernel_rfl) hj

theorem Row2.next {T : TypeId} {n : Nat} {w X Y : World} {l : List Nat} (h : Row2 T n w l X) (hb : Below X.heap.size X Y) : Row2 T n w l Y :=
  ⟨keepBlock h.hx hb, keepBlock h.hr hb, below_link h.below hb⟩
theorem Row2.put {n : Nat} {w X : World} {l : List Nat} {T : TypeId} (h : Row2 T n w l X) (o : Nat) (d : Nat → Nat) : Row2 T n w (set4 l o d) (put4 X w.heap.size o d) where
  hx := h.hx.put4 o d
  hr := h.hr.putFar (by omega) o d
  below := below_put4 h.below (Nat.le_refl _) o d

/-- A new column. -/
theorem new_col (X : World) (c : List Nat) : Wd .u8 106 X.heap.size c ((X.alloc (.cells (valsK .u8 (zerosN 4)) 106)).setRow X.heap.size (valsK .u8 c)) := Wd.setRow (heap_alloc_new X _) c
theorem below_new_col (X : World) (c : List Nat) : Below X.heap.size X ((X.alloc (.cells (valsK .u8 (zerosN 4)) 106)).setRow X.heap.size (valsK .u8 c)) :=
  below_setRow ((Below.refl _ _).alloc (Nat.le_refl _) _) (Nat.le_refl _) _

set_option maxHeartbeats 4000000 in
theorem block_any (x T : Nat → Nat) (G O : Nat) (w : World) (hx : ∀ i < 16, x i < 256) (hbox : Box G O T w) :
    Calls Try.prog 81 #[.agg (valsK .u8 (allF x 16)), .pointer (some ⟨G, O, none⟩)] w fun e w' => e = .returned (.agg (valsK .u8 (allF (fun i => T (x i)) 16))) ∧ Below w.heap.size w w' := by
  have hz := zero16.1
  have hne := zeros16_ne .u8
  have hz4 := zero4.1
  have hne4 := zeros4_ne .u8
  have HS := Lib.hid (Row2.start 120 16 w (allF x 16))
  have HX := Lib.hid hx
  have HBOX := Lib.hid hbox
  clear hx hbox
  obtain ⟨L, hL⟩ : ∃ L, L = allF x 16 := ⟨_, rfl⟩
  rw [← hL] at HS ⊢
  have HL := Lib.hid hL
  have HLS := Lib.hid (show (valsK .u8 L).size = 16 by rw [valsK_size, hL, allF_length])
  clear hL
  obtain ⟨R, hR⟩ : ∃ R, R = allF (fun i => T (x i)) 16 := ⟨_, rfl⟩
  rw [← hR]
  have HR := Lib.hid (show R = allF (fun i => T (x i)) 16 ∧ (valsK .u8 R).size = 16 from ⟨hR, by rw [valsK_size, hR, allF_length]⟩); clear hR
  go_enter Try.func81, Try.ntmps81
  go_wp2_with (refine load_whole (by rfl) 120 _ (by rfl) _ (by rfl) L HS.out.hx under16 (by rw [HLS.out]; exact zero16.2) ?_)
  go_loopw [8] (fun i wr => ∃ k : Nat, k ≤ 4 ∧ i = .int .i64 (k : Nat) ∧ Row2 120 16 w (stepF (fun i => T (x i)) x 16 (k * 4)) wr) (fun i _ => 4 - (intOf i).toNat)
  case atStart => exact ⟨0, Nat.zero_le _, rfl, by rw [Nat.zero_mul, stepF_zero, ← HL.out]; exact HS.out⟩
  case round =>
    obtain ⟨k, hk, rfl, hS⟩ := hrel
    by_cases hlt : k < 4
    · obtain ⟨C, hC⟩ : ∃ C, C = fun i => x (k * 4 + i) := ⟨_, rfl⟩
      have hidx : ∀ X, (Instr.index 120 (.agg (valsK .u8 L)) (.int .i64 (k : Int))).run Try.prog X = .ok (.agg (valsK .u8 (allF C 4))) X := by
        intro X
        rw [HL.out, hC]
        exact idx_col X x k hlt
      have hCl : ∀ i < 4, C i < 256 := by intro i hi; rw [hC]; exact HX.out _ (by omega)
      obtain ⟨D, hD⟩ : ∃ D, D = fun i => T (C i) := ⟨_, rfl⟩
      have HCALL : Hid (∀ X, Box G O T X → Calls Try.prog 97 #[.agg (valsK .u8 (allF C 4)), .pointer (some ⟨G, O, none⟩)] X fun e w' => e = .returned (.agg (valsK .u8 (allF D 4))) ∧ Below X.heap.size X w') := Lib.hid (fun X hX => by
        rw [hD]; exact column_any C T G O X hCl hX)
      have hst := fun Y (h : Row2 120 16 w (stepF (fun i => T (x i)) x 16 (k * 4)) Y) => h.put (k * 4) D
      rw [hD, hC, set4_step (fun i => T (x i)) x 16 (k * 4), ← hC, ← hD] at hst
      have e4 : (k + 1) * 4 = k * 4 + 4 := by omega
      rw [← e4] at hst
      have HST := Lib.hid hst; clear hst
      have HN := Lib.hid (new_col wr (allF C 4))
      have HBN := Lib.hid (below_new_col wr (allF C 4))
      have HSZ := Lib.hid (show (valsK .u8 (allF C 4)).size = 4 by rw [valsK_size, allF_length])
      have st := storeOld (wr.alloc (.cells (valsK .u8 (zerosN 4)) 106)) wr.heap.size 106 (valsK .u8 (zerosN 4)) (valsK .u8 (allF C 4)) (heap_alloc_new wr _) (by rw [HSZ.out, valsK_size]; rfl) (valsK_one _ _)
      have HQ := Lib.hid hS
      have q3 : (k : Int) < 4 := by omega
      clear hS hC hD hCl hz hne e4
      go_wp2_with (refine load_whole (by rfl) 106 _ (by rfl) _ (by rfl) (allF C 4) ?_ under4 ?_ ?_; exact HN.out; (rw [HSZ.out]; exact zero4.2))
      refine (HCALL.out _ (HBOX.out.keep (below_link HQ.out.below HBN.out))).mono ?_
      rintro e w3 ⟨rfl, hb⟩
      have h3 := HST.out w3 ((HQ.out.next HBN.out).next hb)
      have H3 := Lib.hid h3
      have HT := Lib.hid (there_of_wd ((HQ.out.next HBN.out).next hb).hx (k * 4) (by rw [stepF_length]; omega))
      clear h3 hb
      go_wp2_with (refine store_mid (by rfl) _ _ (by rfl) w.heap.size (k * 4) (by rfl) D (by rfl) ?_ ?_; exact HT.out)
      go_roundw
      case rel => exact ⟨k + 1, by omega, by go_num, H3.out⟩
      case measure => simp [intOf]; omega
    · obtain rfl : k = 4 := by omega
      rw [show 4 * 4 = 16 from rfl, stepF_all, ← HR.out.1] at hS
      have HQ := Lib.hid hS; clear hS
      go_wp2_with (first | (refine load_whole (by rfl) 120 _ (by rfl) _ (by rfl) R HQ.out.hx under16 (by rw [HR.out.2]; exact zero16.2) ?_) | (refine store_whole (by rfl) 120 _ _ (by rfl) _ (by rfl) R _ (by rfl) HQ.out.hr (by rw [HR.out.2, valsK_size]; rfl) (by rw [HR.out.2]; exact zero16.2) ?_))
      refine bodyPost_ret (results_cell_row rfl _ _ (w.heap.size + 1) 120 (valsK .u8 R) (0, 0) _ rfl (setRow_heap _ _ _ _ _ _ HQ.out.hr) under16 rfl (by rw [HR.out.2]; exact zero16.2)) rfl ⟨rfl, below_setRow HQ.out.below (by omega) _⟩

end Aes
end Go.Proofs.Ytedoggejbhbebaa
