/-
  Contracts of the reference's Table, of aes.inverses and aes.Sub, and of the statements' awake. Conditions: the number is a byte.
-/
import Derived.Test.YtpjobjpdfhpobaaAd
namespace Go.Proofs.Ytpjobjpdfhpobaa
namespace Aes
open Go.ChangeShapes Go.WideShapes Go.ChangeAt Go.RowKit Go.Great
open Gf
set_option linter.unusedVariables false

theorem storeOld (w : World) (g : Nat) (t : TypeId) (c c' : Array Value) (hg : w.heap[g]? = some (.cells c t (0, 0))) (ho : c.size = c'.size) (h1 : c'.all (·.oneCell') = true) :
    (storeCells ⟨g, 0, none⟩ c'.toList).run Try.prog w = .ok () (w.setRow g c') := by
  have := run_storeCells_from (P := Try.prog) g t c'.toList 0 c w hg (by simp; omega) (fun v hv => (Array.all_eq_true_iff_forall_mem.1 h1) v (by simpa using hv))
  simpa using this

theorem zero256i : (∀ w, (zeroValue 68).run Try.prog w = .ok (.agg (valsK .i64 (zerosN 256))) w) ∧ (Try.prog.info? 68).map (·.size) = some 256 :=
  zero_of_info (P := Try.prog) (t := 68) (v := .agg (valsK .i64 (zerosN 256))) (n := 256) (by kernel_rfl)
theorem under256i : Try.prog.underlying 68 = some (.array 256 3) := by kernel_rfl
theorem zero256u : (∀ w, (zeroValue 76).run Try.prog w = .ok (.agg (valsK .u8 (zerosN 256))) w) ∧ (Try.prog.info? 76).map (·.size) = some 256 :=
  zero_of_info (P := Try.prog) (t := 76) (v := .agg (valsK .u8 (zerosN 256))) (n := 256) (by kernel_rfl)
theorem under256u : Try.prog.underlying 76 = some (.array 256 5) := by kernel_rfl
theorem zeros_ne (k : IntKind) : ¬ valsK k (zerosN 256) = #[] := by intro h; have := congrArg Array.size h; rw [valsK_size, zerosN, List.length_replicate] at this; exact absurd this (by decide)

/-- Two rows: the result's, which is empty, and the one that is filled. -/
structure Fill (k : IntKind) (T : TypeId) (w : World) (l : List Nat) (wr : World) : Prop where
  hr : Wd k T w.heap.size (zerosN 256) wr
  hs : Wd k T (w.heap.size + 1) l wr
  below : Below w.heap.size w wr

theorem Fill.start (k : IntKind) (T : TypeId) (w : World) : Fill k T w (zerosN 256) ((w.alloc (.cells (valsK k (zerosN 256)) T)).alloc (.cells (valsK k (zerosN 256)) T)) where
  hr := keepAlloc (heap_alloc_new w _) _
  hs := by
    have := heap_alloc_new (w.alloc (.cells (valsK k (zerosN 256)) T)) (.cells (valsK k (zerosN 256)) T)
    rwa [alloc_size] at this
  below := below_alloc ((Below.refl _ _).alloc (Nat.le_refl _) _) _
theorem Fill.step {k : IntKind} {T : TypeId} {w X : World} {l : List Nat} (h : Fill k T w l X) (j v : Nat) : Fill k T w (l.set j v) (X.setCell ⟨w.heap.size + 1, j, none⟩ (.int k (v : Nat))) where
  hr := h.hr.far _ _ _ (by omega)
  hs := h.hs.set j v
  below := h.below.setCell (by simp only []; omega) _

set_option maxRecDepth 10000 in
set_option maxHeartbeats 2000000 in
theorem table_any (w : World) :
    Calls Try.prog 44 #[] w fun e w' => e = .returned (.agg (valsK .i64 (allF sub 256))) ∧ Below w.heap.size w w' := by
  have hz := zero256i.1
  have hne := zeros_ne .i64
  have HS := Lib.hid (Fill.start .i64 68 w)
  go_enter Try.func44, Try.ntmps44
  go_wp2
  go_loopw [2] (fun x wr => ∃ i : Nat, i ≤ 256 ∧ x = .int .i64 (i : Nat) ∧ Fill .i64 68 w (upF sub 256 i) wr) (fun x _ => 256 - (intOf x).toNat)
  case atStart => exact ⟨0, Nat.zero_le _, rfl, by rw [upF_zero]; exact HS.out⟩
  case round =>
    obtain ⟨i, hi, rfl, hS⟩ := hrel
    by_cases hlt : i < 256
    · have hst := hS.step i (sub i)
      rw [upF_next] at hst
      have hcell := hS.hs.cell (upF_get sub 256 i i hlt)
      have hf := hS.hs.frozen i
      have HQ := Lib.hid hS; clear hS
      have HST := Lib.hid hst; clear hst
      have HC := Lib.hid (fun X => rsub_any i X hlt)
      have q3 : (i : Int) < 256 := by omega
      clear hz hne
      go_wp2_with fail
      refine (HC.out _).mono ?_
      rintro e w' ⟨rfl, rfl⟩
      go_wp2
      go_roundw
      case rel => exact ⟨i + 1, by omega, by go_num, HST.out⟩
      case measure => simp [intOf]; omega
    · obtain rfl : i = 256 := by omega
      rw [upF_all] at hS
      have st := storeOld wr w.heap.size 68 (valsK .i64 (zerosN 256)) (valsK .i64 (allF sub 256)) hS.hr (by rw [valsK_size, valsK_size, allF_length]; rfl) (valsK_one _ _)
      have HQ := Lib.hid hS; clear hS
      go_wp2
      refine wp_load_row 68 _ rfl (w.heap.size + 1) rfl 68 _ (0, 0) _ HQ.out.hs under256i rfl (by rw [valsK_size, allF_length]; exact zero256i.2) ?_
      simp only [Act.put, List.setIfInBounds_toArray, List.set_cons_zero, List.set_cons_succ]
      go_wp2
      refine bodyPost_ret (results_cell_row rfl _ _ w.heap.size 68 (valsK .i64 (allF sub 256)) (0, 0) _ rfl (setRow_heap _ _ _ _ _ _ HQ.out.hr) under256i rfl (by rw [valsK_size, allF_length]; exact zero256i.2)) rfl ⟨rfl, below_setRow HQ.out.below (by omega) _⟩

/-! ### aes.inverses -/

/-- The powers of 3. -/
def p3 : Nat → Nat
  | 0 => 1
  | i + 1 => p3 i ^^^ xt 8 27 (p3 i)
theorem p3_lt (i : Nat) : p3 i < 256 := by
  induction i with
  | zero => show 1 < 256; decide
  | succ i ih => exact Nat.xor_lt_two_pow (n := 8) ih (xt8_lt _)
/-- What is there behind i of the powers. -/
def invTo : Nat → List Nat
  | 0 => zerosN 256
  | i + 1 => (invTo i).set (p3 i) (p3 (255 - i))
theorem invTo_length (i : Nat) : (invTo i).length = 256 := by
  induction i with
  | zero => exact List.length_replicate
  | succ i ih => rw [invTo, List.length_set, ih]
theorem invTo_all : invTo 256 = allF inverse 256 := by decide +kernel

theorem info8 : ∃ i0, Try.prog.info? 5 = some i0 := ⟨_, Option.eq_some_of_isSome (by kernel_rfl)⟩

end Aes
end Go.Proofs.Ytpjobjpdfhpobaa
