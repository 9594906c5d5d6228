/-
  Contracts of aes.inverses, aes.Sub and of the statements' awake. Conditions: the number is a byte.
-/
import Derived.Test.YtpjobjpdfhpobaaAe
namespace Go.Proofs.Ytpjobjpdfhpobaa
namespace Aes
open Go.ChangeShapes Go.WideShapes Go.ChangeAt Go.RowKit Go.Great
open Gf
set_option linter.unusedVariables false

structure Fil3 (w : World) (g : Nat) (l : List Nat) (wr : World) : Prop where
  hr : Wd .u8 76 w.heap.size (zerosN 256) wr
  hs : Wd .u8 76 (w.heap.size + 1) (allF p3 256) wr
  ha : Wd .u8 76 g l wr
  hg : w.heap.size + 1 < g
  below : Below w.heap.size w wr
theorem Fil3.step {w X : World} {g : Nat} {l : List Nat} (h : Fil3 w g l X) (j v : Nat) : Fil3 w g (l.set j v) (X.setCell ⟨g, j, none⟩ (.int .u8 (v : Nat))) where
  hr := h.hr.far _ _ _ (by have := h.hg; omega)
  hs := h.hs.far _ _ _ (by have := h.hg; omega)
  ha := h.ha.set j v
  hg := h.hg
  below := h.below.setCell (by have := h.hg; simp only []; omega) _
theorem Fil3.start {w X : World} (h : Fill .u8 76 w (allF p3 256) X) : Fil3 w X.heap.size (zerosN 256) (X.alloc (.cells (valsK .u8 (zerosN 256)) 76)) where
  hr := keepAlloc h.hr _
  hs := keepAlloc h.hs _
  ha := heap_alloc_new X _
  hg := (Array.getElem?_eq_some_iff.1 h.hs).1
  below := below_alloc h.below _

set_option maxRecDepth 10000 in
set_option maxHeartbeats 4000000 in
theorem inverses_any (w : World) :
    Calls Try.prog 49 #[] w fun e w' => e = .returned (.agg (valsK .u8 (allF inverse 256))) ∧ Below w.heap.size w w' := by
  have hz := zero256u.1
  have hne := zeros_ne .u8
  obtain ⟨i0, hi0⟩ := info8
  have HI0 := Lib.hid hi0; clear hi0
  have HS := Lib.hid (Fill.start .u8 76 w)
  go_enter Try.func49, Try.ntmps49
  go_wp2
  go_loopw [2, 7] (fun v2 x wr => ∃ i : Nat, i ≤ 256 ∧ x = .int .i64 (i : Nat) ∧ v2 = .int .u8 (p3 i : Nat) ∧ Fill .u8 76 w (upF p3 256 i) wr) (fun _ x _ => 256 - (intOf x).toNat)
  case atStart => exact ⟨0, Nat.zero_le _, rfl, rfl, by rw [upF_zero]; exact HS.out⟩
  case round =>
    obtain ⟨i, hi, rfl, rfl, hS⟩ := hrel
    by_cases hlt : i < 256
    · have hst := hS.step i (p3 i)
      rw [upF_next] at hst
      have hcell := hS.hs.cell (upF_get p3 256 i i hlt)
      have hf := hS.hs.frozen i
      have hpl := p3_lt i
      have HT := Lib.hid (fun X => twice_any (p3 i) X hpl)
      have hx := u8_xor_nat (p3 i) (xt 8 27 (p3 i)) hpl (xt8_lt _)
      have hx' : bits .xor .u8 (p3 i : Nat) (xt 8 27 (p3 i) : Nat) = ((p3 (i + 1) : Nat) : Int) := hx
      have HQ := Lib.hid hS; clear hS
      have HST := Lib.hid hst; clear hst
      have q3 : (i : Int) < 256 := by omega
      clear hz hne hx hpl
      obtain ⟨b, hb⟩ : ∃ b, b = p3 (i + 1) := ⟨_, rfl⟩
      obtain ⟨a, ha⟩ : ∃ a, a = p3 i := ⟨_, rfl⟩
      rw [← hb] at hx'
      rw [← ha] at hx' HT HST ⊢
      have HB := Lib.hid hb
      clear hb ha
      go_wp2_with fail
      refine (HT.out _).mono ?_
      rintro e w' ⟨rfl, rfl⟩
      go_wp2
      go_roundw
      case rel => exact ⟨i + 1, by omega, by go_num, by rw [← HB.out], HST.out⟩
      case measure => simp [intOf]; omega
    · obtain rfl : i = 256 := by omega
      rw [upF_all] at hS
      have h3 := Fil3.start hS
      obtain ⟨g, hg⟩ : ∃ g, g = wr.heap.size := ⟨_, rfl⟩
      rw [← hg] at h3
      have hg' : wr.heap.size = g := hg.symm
      have H3 := Lib.hid h3
      clear hS h3 hg
      go_wp2
      refine wp_load_row 76 _ rfl (w.heap.size + 1) rfl 76 _ (0, 0) _ H3.out.hs under256u rfl (by rw [valsK_size, allF_length]; exact zero256u.2) ?_
      simp only [Act.put, List.setIfInBounds_toArray, List.set_cons_zero, List.set_cons_succ]
      obtain ⟨AG, hAG⟩ : ∃ AG, AG = valsK .u8 (allF p3 256) := ⟨_, rfl⟩
      rw [← hAG]
      have HAG := Lib.hid hAG; clear hAG
      go_wp2
      go_loopw [19] (fun x wr => ∃ i : Nat, i ≤ 256 ∧ x = .int .i64 (i : Nat) ∧ Fil3 w g (invTo i) wr) (fun x _ => 256 - (intOf x).toNat)
      case atStart => exact ⟨0, Nat.zero_le _, rfl, H3.out⟩
      case round =>
        obtain ⟨i, hi, rfl, hS⟩ := hrel
        by_cases hlt : i < 256
        · obtain ⟨c, hc⟩ : ∃ c, c = p3 i := ⟨_, rfl⟩
          obtain ⟨m, hm⟩ : ∃ m, m = 255 - i := ⟨_, rfl⟩
          obtain ⟨d, hd⟩ : ∃ d, d = p3 m := ⟨_, rfl⟩
          have hcl : c < 256 := by rw [hc]; exact p3_lt i
          have hml : m < 256 := by omega
          have hidx : ∀ X, (Instr.index 76 (.agg AG) (.int .i64 (i : Int))).run Try.prog X = .ok (.int .u8 (c : Nat)) X := by
            intro X
            rw [HAG.out, hc]
            exact idx_int X under256u Try.underlying5 HI0.out (by kernel_rfl) hlt (valsK_get _ _ _ _ (allF_get p3 256 i hlt))
          have hst := hS.step c d
          rw [hc, hd, hm] at hst
          change Fil3 w g (invTo (i + 1)) _ at hst
          rw [← hm, ← hd, ← hc] at hst
          have hcell := hS.hs.cell (allF_get p3 256 m hml)
          rw [← hd] at hcell
          obtain ⟨z, hz1⟩ : ∃ z, (invTo i)[c]? = some z := ⟨_, List.getElem?_eq_getElem (by rw [invTo_length]; exact hcl)⟩
          have hcell2 := hS.ha.cell hz1
          have hf := hS.ha.frozen c
          have q1 : (255 : Int) - (i : Int) = (m : Int) := by omega
          have q2 : (m : Int) < 256 := by omega
          have q3 : (c : Int) < 256 := by omega
          have HST := Lib.hid hst; clear hst
          clear hS hc hd hm hz1 hcl hml hz hne
          go_wp2
          go_roundw
          case rel => exact ⟨i + 1, by omega, by go_num, HST.out⟩
          case measure => simp [intOf]; omega
        · obtain rfl : i = 256 := by omega
          rw [invTo_all] at hS
          have st := storeOld wr w.heap.size 76 (valsK .u8 (zerosN 256)) (valsK .u8 (allF inverse 256)) hS.hr (by rw [valsK_size, valsK_size, allF_length]; rfl) (valsK_one _ _)
          have HQ := Lib.hid hS; clear hS
          go_wp2
          refine wp_load_row 76 _ rfl g rfl 76 _ (0, 0) _ HQ.out.ha under256u rfl (by rw [valsK_size, allF_length]; exact zero256u.2) ?_
          simp only [Act.put, List.setIfInBounds_toArray, List.set_cons_zero, List.set_cons_succ]
          go_wp2
          refine bodyPost_ret (results_cell_row rfl _ _ w.heap.size 76 (valsK .u8 (allF inverse 256)) (0, 0) _ rfl (setRow_heap _ _ _ _ _ _ HQ.out.hr) under256u rfl (by rw [valsK_size, allF_length]; exact zero256u.2)) rfl ⟨rfl, below_setRow HQ.out.below (by omega) _⟩


theorem subTo_inverse (a : Nat) : subTo (inverse a) 8 = sub a := rfl

end Aes
end Go.Proofs.Ytpjobjpdfhpobaa
