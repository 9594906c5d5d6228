/-
  The reference's polynomials: rows of 128 bits; contract of dromondref08.Of. Conditions: the block has sixteen bytes.
-/
import Derived.Test.YtpjobjpdfhpobaaBb
import Derived.Test.YtpjobjpdfhpobaaGcmSeal
namespace Go.Proofs.Ytpjobjpdfhpobaa
namespace Gcm
open Go.ChangeShapes Go.WideShapes Go.ChangeAt Go.RowKit Go.Great
open Gf Aes
set_option linter.unusedVariables false

theorem zero128u : (∀ w, (zeroValue 26).run Try.prog w = .ok (.agg (valsK .u8 (zerosN 128))) w) ∧ (Try.prog.info? 26).map (·.size) = some 128 :=
  zero_of_info (P := Try.prog) (t := 26) (v := .agg (valsK .u8 (zerosN 128))) (n := 128) (by kernel_rfl)
theorem under128u : Try.prog.underlying 26 = some (.array 128 5) := by kernel_rfl
theorem zeros128_ne (k : IntKind) : ¬ valsK k (zerosN 128) = #[] := by intro h; have := congrArg Array.size h; rw [valsK_size, zerosN, List.length_replicate] at this; exact absurd this (by decide)

/-- A polynomial's 128 bits. -/
def polyL (v : Nat) : List Nat := allF (coef v) 128

/-- Those of the first i bytes, and of the next one those from k on. -/
def ofTo (f : Nat → Nat) (i k : Nat) : List Nat := (List.range 128).map fun j => if j < 8 * i ∨ (8 * i + k ≤ j ∧ j < 8 * i + 8) then f j else 0
theorem ofTo_get (f : Nat → Nat) (i k j : Nat) (h : j < 128) : (ofTo f i k)[j]? = some (if j < 8 * i ∨ (8 * i + k ≤ j ∧ j < 8 * i + 8) then f j else 0) := by
  unfold ofTo
  rw [List.getElem?_map, List.getElem?_range h]
  rfl
theorem ofTo_length (f : Nat → Nat) (i k : Nat) : (ofTo f i k).length = 128 := by simp [ofTo]
theorem ofTo_step (f : Nat → Nat) (i k : Nat) (hi : i < 16) (hk : k < 8) : (ofTo f i (k + 1)).set (8 * i + k) (f (8 * i + k)) = ofTo f i k := by
  apply List.ext_getElem?
  intro j
  rw [List.getElem?_set]
  by_cases h : j < 128
  · by_cases e : 8 * i + k = j
    · subst e; rw [if_pos rfl, ofTo_length, if_pos h, ofTo_get _ _ _ _ h, if_pos (by omega)]
    · rw [if_neg e, ofTo_get _ _ _ _ h, ofTo_get _ _ _ _ h]
      have : (j < 8 * i ∨ (8 * i + (k + 1) ≤ j ∧ j < 8 * i + 8)) = (j < 8 * i ∨ (8 * i + k ≤ j ∧ j < 8 * i + 8)) := by apply propext; omega
      simp only [this]
  · rw [List.getElem?_eq_none (by rw [ofTo_length]; omega), List.getElem?_eq_none (by rw [ofTo_length]; omega)]
    split
    · rw [if_neg (by rw [ofTo_length]; omega)]
    · rfl
theorem ofTo_next (f : Nat → Nat) (i : Nat) : ofTo f i 0 = ofTo f (i + 1) 8 := by
  unfold ofTo
  apply List.map_congr_left
  intro j _
  have : (j < 8 * i ∨ (8 * i + 0 ≤ j ∧ j < 8 * i + 8)) = (j < 8 * (i + 1) ∨ (8 * (i + 1) + 8 ≤ j ∧ j < 8 * (i + 1) + 8)) := by apply propext; omega
  simp only [this]
theorem ofTo_start (f : Nat → Nat) : ofTo f 0 8 = zerosN 128 := by
  apply List.ext_getElem?
  intro j
  by_cases h : j < 128
  · rw [ofTo_get f 0 8 j h, if_neg (by omega)]
    unfold zerosN
    rw [List.getElem?_replicate, if_pos h]
  · rw [List.getElem?_eq_none (by rw [ofTo_length]; omega), List.getElem?_eq_none (by simp [zerosN]; omega)]
theorem ofTo_all (f : Nat → Nat) : ofTo f 16 8 = allF f 128 := by
  unfold ofTo allF
  exact List.map_congr_left fun j hj => if_pos (by have := List.mem_range.1 hj; omega)

/-- Two rows of 128: the result's, and the one that is filled. -/
structure Fil2 (w : World) (l : List Nat) (wr : World) : Prop where
  hr : Wd .u8 26 w.heap.size (zerosN 128) wr
  hs : Wd .u8 26 (w.heap.size + 1) l wr
  below : Below w.heap.size w wr
theorem Fil2.start (w : World) : Fil2 w (zerosN 128) ((w.alloc (.cells (valsK .u8 (zerosN 128)) 26)).alloc (.cells (valsK .u8 (zerosN 128)) 26)) where
  hr := keepAlloc (heap_alloc_new w _) _
  hs := by
    have := heap_alloc_new (w.alloc (.cells (valsK .u8 (zerosN 128)) 26)) (.cells (valsK .u8 (zerosN 128)) 26)
    rwa [alloc_size] at this
  below := below_alloc ((Below.refl _ _).alloc (Nat.le_refl _) _) _
theorem Fil2.step {w X : World} {l : List Nat} (h : Fil2 w l X) (j v : Nat) : Fil2 w (l.set j v) (X.setCell ⟨w.heap.size + 1, j, none⟩ (.int .u8 (v : Nat))) where
  hr := h.hr.far _ _ _ (by omega)
  hs := h.hs.set j v
  below := h.below.setCell (by simp only []; omega) _

/-- A block's number. -/
def numB (b : ByteArray) : Nat := big (nums b)

theorem numB_coef (b : ByteArray) (hb : b.size = 16) (i k : Nat) (hi : i < b.size) (hk : k < 8) : coef (turned 128 (numB b)) (8 * i + (7 - k)) = coef b[i].toNat k := by
  have e := coef_block (nums b) i k (nums_lt b) (by rw [nums_length]; exact hb) (by omega) hk
  have e2 : (nums b).getD i 0 = b[i].toNat := by
    have hl : i < (nums b).length := by rw [nums_length]; exact hi
    rw [List.getD_eq_getElem?_getD, List.getElem?_eq_getElem hl]
    simp [nums]
    rfl
  rw [e2] at e
  exact e

set_option maxRecDepth 10000 in
set_option maxHeartbeats 4000000 in
theorem of_any (b : ByteArray) (w : World) (hb : b.size = 16) :
    Calls Try.prog 12 #[.string b] w fun e w' => e = .returned (.agg (valsK .u8 (polyL (turned 128 (numB b))))) ∧ Below w.heap.size w w' := by
  have hz := zero128u.1
  have hne := zeros128_ne .u8
  obtain ⟨f, hf⟩ : ∃ f, f = coef (turned 128 (numB b)) := ⟨_, rfl⟩
  have hco : ∀ i k, (hi : i < b.size) → k < 8 → f (8 * i + (7 - k)) = b[i].toNat / 2 ^ k % 2 := fun i k hi hk => by rw [hf]; exact numB_coef b hb i k hi hk
  unfold polyL
  rw [← hf]
  clear hf
  have HCO := Lib.hid hco; clear hco
  have HS := Lib.hid (Fil2.start w)
  have HB := Lib.hid hb; clear hb
  go_enter Try.func12, Try.ntmps12
  go_wp2
  go_loopw [4] (fun x wr => ∃ i : Nat, i ≤ 16 ∧ x = .int .i64 (i : Nat) ∧ Fil2 w (ofTo f i 8) wr) (fun x _ => 16 - (intOf x).toNat)
  case atStart => exact ⟨0, Nat.zero_le _, rfl, by rw [ofTo_start]; exact HS.out⟩
  case round =>
    obtain ⟨i, hi, rfl, hS⟩ := hrel
    by_cases hlt : i < 16
    · have HQ := Lib.hid hS; clear hS
      have hib : i < b.size := by rw [HB.out]; exact hlt
      have q3 : (i : Int) < 16 := by omega
      have q4 : decide ((i : Int) < (b.size : Int)) = true := by simp; omega
      obtain ⟨c, hc⟩ : ∃ c, c = b[i].toNat := ⟨_, rfl⟩
      have hcl : c < 256 := by rw [hc]; exact UInt8.toNat_lt _
      clear hz hne
      go_wp2
      go_loopw [5, 6] (fun y x wr => ∃ k e : Nat, k ≤ 8 ∧ x = .int .i64 ((k : Int) - 1) ∧ y = .int .i64 (e : Nat) ∧ e = c / 2 ^ (8 - k) ∧ Fil2 w (ofTo f i k) wr) (fun _ x _ => (intOf x + 1).toNat)
      case atStart => exact ⟨8, c, Nat.le_refl _, rfl, by rw [hc], by simp, HQ.out⟩
      case round =>
        obtain ⟨k, e, hk, rfl, rfl, he, hF⟩ := hrel
        by_cases h0 : 0 < k
        · obtain ⟨m, rfl⟩ : ∃ m, k = m + 1 := ⟨k - 1, by omega⟩
          have e1 : ((m + 1 : Nat) : Int) - 1 = (m : Int) := by omega
          rw [e1]
          obtain ⟨o, ho⟩ : ∃ o, o = 8 * i + m := ⟨_, rfl⟩
          have hst := hF.step o (f o)
          have hcell := hF.hs.cell (ofTo_get f i (m + 1) o (by omega))
          rw [ho] at hst
          rw [ofTo_step f i m hlt (by omega), ← ho] at hst
          have hfr := hF.hs.frozen o
          have hv : f o = e % 2 := by
            have := HCO.out i (7 - m) hib (by omega)
            rw [show 7 - (7 - m) = m by omega, ← ho, ← hc] at this
            rw [this, he, show 8 - (m + 1) = 7 - m by omega]
          have hel : e < 256 := by rw [he]; exact Nat.lt_of_le_of_lt (Nat.div_le_self _ _) hcl
          have hen : e / 2 = c / 2 ^ (8 - m) := by
            rw [he, Nat.div_div_eq_div_mul, ← Nat.pow_succ]
            congr 2
            omega
          obtain ⟨d, hd⟩ : ∃ d, d = f o := ⟨_, rfl⟩
          rw [← hd] at hst hv
          have hdl : d < 2 := by omega
          obtain ⟨e', he'⟩ : ∃ e', e' = e / 2 := ⟨_, rfl⟩
          obtain ⟨t, ht⟩ : ∃ t, t = 8 * i := ⟨_, rfl⟩
          have q1 : 8 * (i : Int) = (t : Int) := by omega
          have q2 : (t : Int) + (m : Int) = (o : Int) := by omega
          have q8 : (d : Int) % 256 = (d : Int) := by omega
          have q9 : (0 : Int) ≤ (m : Int) := by omega
          have r1 : t ≤ 128 := by omega
          have r2 : m < 8 := by omega
          have q5 : (o : Int) < 128 := by omega
          have q6 : (e : Int) % 2 = (d : Int) := by omega
          have q7 : (e : Int) / 2 = (e' : Int) := by omega
          have HST := Lib.hid hst; clear hst
          have HF := Lib.hid hF; clear hF
          have HEN := Lib.hid (he'.trans hen)
          clear hen he' he hv ho hd hc ht e1
          go_wp2
          go_roundw
          case rel => exact ⟨m, e', by omega, by go_num, rfl, HEN.out, HST.out⟩
          case measure => simp [intOf]
        · obtain rfl : k = 0 := by omega
          rw [ofTo_next] at hF
          have HF := Lib.hid hF; clear hF he
          go_wp2
          exact ⟨⟨i + 1, by omega, by go_num, HF.out⟩, by simp [intOf]; omega⟩
    · obtain rfl : i = 16 := by omega
      rw [ofTo_all] at hS
      have st := storeOld wr w.heap.size 26 (valsK .u8 (zerosN 128)) (valsK .u8 (allF f 128)) hS.hr (by rw [valsK_size, valsK_size, allF_length]; rfl) (valsK_one _ _)
      have HQ := Lib.hid hS; clear hS
      go_wp2
      refine wp_load_row 26 _ rfl (w.heap.size + 1) rfl 26 _ (0, 0) _ HQ.out.hs under128u rfl (by rw [valsK_size, allF_length]; exact zero128u.2) ?_
      simp only [Act.put, List.setIfInBounds_toArray, List.set_cons_zero, List.set_cons_succ]
      go_wp2
      refine bodyPost_ret (results_cell_row rfl _ _ w.heap.size 26 (valsK .u8 (allF f 128)) (0, 0) _ rfl (setRow_heap _ _ _ _ _ _ HQ.out.hr) under128u rfl (by rw [valsK_size, allF_length]; exact zero128u.2)) rfl ⟨rfl, below_setRow HQ.out.below (by omega) _⟩

end Gcm
end Go.Proofs.Ytpjobjpdfhpobaa
