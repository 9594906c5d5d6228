/-
  Contracts of aes.replaced on a column and of aes.blockOf. Conditions: the numbers are bytes; the text has sixteen.
-/
import Derived.Test.YtpjobjpdfhpobaaBa
namespace Go.Proofs.Ytpjobjpdfhpobaa
namespace Aes
open Go.ChangeShapes Go.WideShapes Go.ChangeAt Go.RowKit Go.Great
open Gf
set_option linter.unusedVariables false

/-- A row that came in and the result's, both of type T. -/
structure Row2 (T : TypeId) (n : Nat) (w : World) (l : List Nat) (wr : World) : Prop where
  hx : Wd .u8 T w.heap.size l wr
  hr : Wd .u8 T (w.heap.size + 1) (zerosN n) wr
  below : Below w.heap.size w wr
theorem Row2.start (T : TypeId) (n : Nat) (w : World) (l : List Nat) : Row2 T n w l ((w.alloc (.cells (valsK .u8 l) T)).alloc (.cells (valsK .u8 (zerosN n)) T)) where
  hx := keepAlloc (heap_alloc_new w _) _
  hr := by
    have := heap_alloc_new (w.alloc (.cells (valsK .u8 l) T)) (.cells (valsK .u8 (zerosN n)) T)
    rwa [alloc_size] at this
  below := below_alloc ((Below.refl _ _).alloc (Nat.le_refl _) _) _
theorem Row2.drew {T : TypeId} {n : Nat} {w X : World} {l : List Nat} (h : Row2 T n w l X) : Row2 T n w l X.drew := ⟨h.hx, h.hr, h.below.drew⟩
theorem Row2.step {T : TypeId} {n : Nat} {w X : World} {l : List Nat} (h : Row2 T n w l X) (j v : Nat) : Row2 T n w (l.set j v) (X.setCell ⟨w.heap.size, j, none⟩ (.int .u8 (v : Nat))) where
  hx := h.hx.set j v
  hr := h.hr.far _ _ _ (by omega)
  below := h.below.setCell (by simp only []; omega) _

/-- A box: what stands for each byte, in block G from O on. -/
def Box (G O : Nat) (T : Nat → Nat) (w : World) : Prop := G < w.heap.size ∧ ∀ j < 256, w.cell? ⟨G, O + j, none⟩ = some (.int .u8 (T j : Nat))
theorem Box.keep {G O : Nat} {T : Nat → Nat} {w w' : World} (h : Box G O T w) (hb : Below w.heap.size w w') : Box G O T w' :=
  ⟨Nat.lt_of_lt_of_le h.1 hb.size, fun j hj => by rw [hb.cell (p := ⟨G, O + j, none⟩) h.1]; exact h.2 j hj⟩

set_option maxHeartbeats 2000000 in
theorem column_any (x T : Nat → Nat) (G O : Nat) (w : World) (hx : ∀ i < 4, x i < 256) (hbox : Box G O T w) :
    Calls Try.prog 62 #[.agg (valsK .u8 (allF x 4)), .pointer (some ⟨G, O, none⟩)] w fun e w' => e = .returned (.agg (valsK .u8 (allF (fun i => T (x i)) 4))) ∧ Below w.heap.size w w' := by
  have hz := zero4.1
  have hne := zeros4_ne .u8
  obtain ⟨i0, hi0⟩ := info8
  have HI0 := Lib.hid hi0; clear hi0
  have HS := Lib.hid (Row2.start 74 4 w (allF x 4))
  have HX := Lib.hid hx
  have HBOX := Lib.hid hbox
  clear hx hbox
  obtain ⟨L, hL⟩ : ∃ L, L = allF x 4 := ⟨_, rfl⟩
  rw [← hL] at HS ⊢
  have HL := Lib.hid hL
  have HLS := Lib.hid (show (valsK .u8 L).size = 4 by rw [valsK_size, hL, allF_length])
  clear hL
  obtain ⟨R, hR⟩ : ∃ R, R = allF (fun i => T (x i)) 4 := ⟨_, rfl⟩
  rw [← hR]
  have HR := Lib.hid (show R = allF (fun i => T (x i)) 4 ∧ (valsK .u8 R).size = 4 from ⟨hR, by rw [valsK_size, hR, allF_length]⟩); clear hR
  go_enter Try.func62, Try.ntmps62
  go_wp2_with (refine load_whole (by rfl) 74 _ (by rfl) _ (by rfl) L HS.out.hx under4 (by rw [HLS.out]; exact zero4.2) ?_)
  go_loopw [8] (fun i wr => ∃ k : Nat, k ≤ 4 ∧ i = .int .i64 (k : Nat) ∧ Row2 74 4 w (stepF (fun i => T (x i)) x 4 k) wr) (fun i _ => 4 - (intOf i).toNat)
  case atStart => exact ⟨0, Nat.zero_le _, rfl, by rw [stepF_zero, ← HL.out]; exact HS.out⟩
  case round =>
    obtain ⟨k, hk, rfl, hS⟩ := hrel
    by_cases hlt : k < 4
    · obtain ⟨a, ha⟩ : ∃ a, a = x k := ⟨_, rfl⟩
      obtain ⟨b, hb⟩ : ∃ b, b = T a := ⟨_, rfl⟩
      have hal : a < 256 := by rw [ha]; exact HX.out k hlt
      have hst := hS.step k b
      rw [hb, ha, stepF_next (fun i => T (x i)) x 4 k, ← ha, ← hb] at hst
      have c1 := hS.hx.cell (stepF_get (fun i => T (x i)) x 4 k k hlt)
      rw [if_neg (Nat.lt_irrefl _), ← ha] at c1
      have hbx : wr.cell? ⟨G, O + a, none⟩ = some (.int .u8 (b : Nat)) := by
        rw [hS.below.cell (p := ⟨G, O + a, none⟩) HBOX.out.1, hb]; exact HBOX.out.2 a hal
      have hidx : ∀ X, (Instr.index 74 (.agg (valsK .u8 L)) (.int .i64 (k : Int))).run Try.prog X = .ok (.int .u8 (a : Nat)) X := by
        intro X
        rw [HL.out, ha]
        exact idx_int X under4 Try.underlying5 HI0.out (by kernel_rfl) hlt (valsK_get _ _ _ _ (allF_get x 4 k hlt))
      have f1 := hS.hx.frozen k
      have q3 : (k : Int) < 4 := by omega
      have q4 : (a : Int) < 256 := by omega
      have HST := Lib.hid hst; clear hst
      clear hS ha hb hz hne hal
      go_wp2
      go_roundw
      case rel => exact ⟨k + 1, by omega, by go_num, HST.out⟩
      case measure => simp [intOf]; omega
    · obtain rfl : k = 4 := by omega
      rw [stepF_all, ← HR.out.1] at hS
      have HQ := Lib.hid hS; clear hS
      go_wp2_with (first | (refine load_whole (by rfl) 74 _ (by rfl) _ (by rfl) R HQ.out.hx under4 (by rw [HR.out.2]; exact zero4.2) ?_) | (refine store_whole (by rfl) 74 _ _ (by rfl) _ (by rfl) R _ (by rfl) HQ.out.hr (by rw [HR.out.2, valsK_size]; rfl) (by rw [HR.out.2]; exact zero4.2) ?_))
      refine bodyPost_ret (results_cell_row rfl _ _ (w.heap.size + 1) 74 (valsK .u8 R) (0, 0) _ rfl (setRow_heap _ _ _ _ _ _ HQ.out.hr) under4 rfl (by rw [HR.out.2]; exact zero4.2)) rfl ⟨rfl, below_setRow HQ.out.below (by omega) _⟩

/-! ### blockOf -/

/-- A text's bytes. -/
def nums (b : ByteArray) : List Nat := b.data.toList.map UInt8.toNat
theorem nums_length (b : ByteArray) : (nums b).length = b.size := by simp [nums]
theorem nums_get (b : ByteArray) (k : Nat) (h : k < b.size) : (nums b)[k]? = some b[k].toNat := by
  rw [List.getElem?_eq_getElem (by rw [nums_length]; exact h)]
  simp [nums]
  rfl
theorem nums_lt (b : ByteArray) : ∀ c ∈ nums b, c < 256 := by
  intro c hc
  obtain ⟨x, -, rfl⟩ := List.mem_map.1 hc
  exact x.toNat_lt
/-- A text's byte at i. -/
def byteAt (b : ByteArray) (i : Nat) : Nat := (nums b).getD i 0
theorem byteAt_lt (b : ByteArray) (i : Nat) : byteAt b i < 256 := getD_lt (nums_lt b) i
theorem byteAt_get (b : ByteArray) (i : Nat) (h : i < b.size) : byteAt b i = b[i].toNat := by
  unfold byteAt
  rw [List.getD_eq_getElem?_getD, nums_get b i h]; rfl

/-- The result's row and the one that is filled. -/
structure Fil16 (w : World) (l : List Nat) (wr : World) : Prop where
  hr : Wd .u8 85 w.heap.size (zerosN 16) wr
  hs : Wd .u8 85 (w.heap.size + 1) l wr
  below : Below w.heap.size w wr
theorem Fil16.start (w : World) : Fil16 w (zerosN 16) ((w.alloc (.cells (valsK .u8 (zerosN 16)) 85)).alloc (.cells (valsK .u8 (zerosN 16)) 85)) where
  hr := keepAlloc (heap_alloc_new w _) _
  hs := by
    have := heap_alloc_new (w.alloc (.cells (valsK .u8 (zerosN 16)) 85)) (.cells (valsK .u8 (zerosN 16)) 85)
    rwa [alloc_size] at this
  below := below_alloc ((Below.refl _ _).alloc (Nat.le_refl _) _) _
theorem Fil16.drew {w X : World} {l : List Nat} (h : Fil16 w l X) : Fil16 w l X.drew := ⟨h.hr, h.hs, h.below.drew⟩
theorem Fil16.step {w X : World} {l : List Nat} (h : Fil16 w l X) (j v : Nat) : Fil16 w (l.set j v) (X.setCell ⟨w.heap.size + 1, j, none⟩ (.int .u8 (v : Nat))) where
  hr := h.hr.far _ _ _ (by omega)
  hs := h.hs.set j v
  below := h.below.setCell (by simp only []; omega) _

set_option maxHeartbeats 2000000 in
theorem blockOf_any (b : ByteArray) (w : World) (hb : b.size = 16) :
    Calls Try.prog 53 #[.string b] w fun e w' => e = .returned (.agg (valsK .u8 (allF (byteAt b) 16))) ∧ Below w.heap.size w w' := by
  have hz := zero16.1
  have hne := zeros16_ne .u8
  have HS := Lib.hid (Fil16.start w)
  have g0 : (b.size : Int) = 16 := by omega
  have HB := Lib.hid hb; clear hb
  obtain ⟨R, hR⟩ : ∃ R, R = allF (byteAt b) 16 := ⟨_, rfl⟩
  rw [← hR]
  have HR := Lib.hid (show R = allF (byteAt b) 16 ∧ (valsK .u8 R).size = 16 from ⟨hR, by rw [valsK_size, hR, allF_length]⟩); clear hR
  go_enter Try.func53, Try.ntmps53
  go_wp2
  go_loopw [5] (fun i wr => ∃ k : Nat, k ≤ 16 ∧ i = .int .i64 (k : Nat) ∧ Fil16 w (upF (byteAt b) 16 k) wr) (fun i _ => 16 - (intOf i).toNat)
  case atStart => exact ⟨0, Nat.zero_le _, rfl, by rw [upF_zero]; exact HS.out⟩
  case round =>
    obtain ⟨k, hk, rfl, hS⟩ := hrel
    by_cases hlt : k < 16
    · obtain ⟨q, hq⟩ : ∃ q, q = k / 4 := ⟨_, rfl⟩
      obtain ⟨r, hr⟩ : ∃ r, r = k % 4 := ⟨_, rfl⟩
      have hkb : k < b.size := by have := HB.out; omega
      obtain ⟨c, hc⟩ : ∃ c, c = byteAt b k := ⟨_, rfl⟩
      have hc2 : (b[k].toNat : Int) = (c : Int) := by rw [hc, byteAt_get b k hkb]
      have hst := hS.step k c
      rw [hc, upF_next (byteAt b) 16 k, ← hc] at hst
      have e4 : k = q * 4 + r := by omega
      have c1 := hS.hs.cell (upF_get (byteAt b) 16 k k hlt)
      have f1 := hS.hs.frozen k
      have HST := Lib.hid hst; clear hst
      have HE := Lib.hid e4
      rw [e4] at c1 f1
      have q1 : (k : Int) / 4 = (q : Int) := by omega
      have q2 : (k : Int) % 4 = (r : Int) := by omega
      have q3 : (q : Int) < 4 := by omega
      have q4 : (r : Int) < 4 := by omega
      clear hS hc hz hne hq hr e4
      go_wp2
      go_region
      all_goals (go_wp2; go_roundw)
      all_goals first
        | exact ⟨k + 1, by omega, by go_num, by rw [← HE.out]; exact HST.out.drew⟩
        | (simp [intOf]; omega)
    · obtain rfl : k = 16 := by omega
      rw [upF_all, ← HR.out.1] at hS
      have HQ := Lib.hid hS; clear hS
      go_wp2_with (first | (refine load_whole (by rfl) 85 _ (by rfl) _ (by rfl) R HQ.out.hs under16 (by rw [HR.out.2]; exact zero16.2) ?_) | (refine store_whole (by rfl) 85 _ _ (by rfl) _ (by rfl) R _ (by rfl) HQ.out.hr (by rw [HR.out.2, valsK_size]; rfl) (by rw [HR.out.2]; exact zero16.2) ?_))
      refine bodyPost_ret (results_cell_row rfl _ _ w.heap.size 85 (valsK .u8 R) (0, 0) _ rfl (setRow_heap _ _ _ _ _ _ HQ.out.hr) under16 rfl (by rw [HR.out.2]; exact zero16.2)) rfl ⟨rfl, below_setRow HQ.out.below (by omega) _⟩

end Aes
end Go.Proofs.Ytpjobjpdfhpobaa
