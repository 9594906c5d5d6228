/-
  Joined: Cc, Dk. Conditions: as each part says.
-/
import Derived.Test.YtedoggejbhbebaaJ36

/-
  Contract of aes.New. Conditions: none.
-/
namespace Go.Proofs.Ytedoggejbhbebaa
namespace Aes
open Go.ChangeShapes Go.WideShapes Go.ChangeAt Go.RowKit Go.Great Go.ChangeMaps
open Gf
set_option linter.unusedVariables false
set_option maxRecDepth 100000

theorem zero52 : (∀ w, (zeroValue 111).run Try.prog w = .ok (.agg (cipCells 0 (zerosN 752))) w) ∧ (Try.prog.info? 111).map (·.size) = some 753 :=
  zero_of_info (P := Try.prog) (t := 111) (v := .agg (cipCells 0 (zerosN 752))) (n := 753) (by kernel_rfl)

/-- The reverse, behind i bytes. -/
def backTo : Nat → List Nat
  | 0 => zerosN 256
  | i + 1 => (backTo i).set (sub i) i
theorem backTo_length (i : Nat) : (backTo i).length = 256 := by
  induction i with
  | zero => exact List.length_replicate
  | succ i ih => rw [backTo, List.length_set, ih]
theorem backTo_all : backTo 256 = allF unsub 256 := by decide +kernel

/-- A cipher behind i bytes of its boxes. -/
def boxL (i : Nat) : List Nat := zerosN 240 ++ (upF sub 256 i ++ backTo i)
theorem boxL_length (i : Nat) : (boxL i).length = 752 := by
  unfold boxL
  rw [List.length_append, List.length_append, upF_length, backTo_length, zerosN, List.length_replicate]
theorem boxL_zero : boxL 0 = zerosN 752 := by
  unfold boxL
  rw [upF_zero]
  show zerosN 240 ++ (zerosN 256 ++ zerosN 256) = _
  unfold zerosN
  rw [List.replicate_append_replicate, List.replicate_append_replicate]
theorem boxL_next (i : Nat) (hi : i < 256) : ((boxL i).set (240 + i) (sub i)).set (496 + sub i) i = boxL (i + 1) := by
  unfold boxL
  have h0 : (zerosN 240).length = 240 := List.length_replicate
  have e1 : (zerosN 240 ++ (upF sub 256 i ++ backTo i)).set (240 + i) (sub i) = zerosN 240 ++ (upF sub 256 (i + 1) ++ backTo i) := by
    rw [List.set_append_right _ _ (by rw [h0]; omega), h0, Nat.add_sub_cancel_left, List.set_append_left _ _ (by rw [upF_length]; exact hi), upF_next]
  rw [e1, List.set_append_right _ _ (by rw [h0]; omega), h0, List.set_append_right _ _ (by rw [upF_length]; omega), upF_length, show 496 + sub i - 240 - 256 = sub i by omega]
  rfl

theorem cb_cip {g R : Nat} {W : Nat → Nat} {X : World} (h : Cb g R (allF W 240 ++ (allF sub 256 ++ allF unsub 256)) X) : Cip g R W sub unsub X where
  lt := (Array.getElem?_eq_some_iff.1 h).1
  rounds := h.rounds
  words j hj := h.cell (by rw [List.getElem?_append_left (by rw [allF_length]; exact hj)]; exact allF_get W 240 j hj)
  there j hj := by
    have := h.cell (j := 240 + j) (x := sub j) (by rw [List.getElem?_append_right (by rw [allF_length]; omega), allF_length, Nat.add_sub_cancel_left, List.getElem?_append_left (by rw [allF_length]; exact hj)]; exact allF_get sub 256 j hj)
    rw [← this]; congr 2; omega
  back j hj := by
    have := h.cell (j := 496 + j) (x := unsub j) (by rw [List.getElem?_append_right (by rw [allF_length]; omega), allF_length, List.getElem?_append_right (by rw [allF_length]; omega), allF_length, show 496 + j - 240 - 256 = j by omega]; exact allF_get unsub 256 j hj)
    rw [← this]; congr 2; omega

set_option maxRecDepth 10000 in
set_option maxHeartbeats 2000000 in
theorem new_none (key : ByteArray) (w : World) (h1 : key.size ≠ 16) (h2 : key.size ≠ 32) :
    Calls Try.prog 60 #[.string key] w fun e w' => e = .returned (.tuple #[.pointer none, .int .i64 1]) ∧ Below w.heap.size w w' := by
  have hz := zero52.1
  have d1 : ((key.size : Int) == 16) = false := by simp; omega
  have d2 : ((key.size : Int) == 32) = false := by simp; omega
  have d3 : ¬ (key.size : Int) = 16 := by omega
  have d4 : ¬ (key.size : Int) = 32 := by omega
  clear h1 h2
  go_enter Try.func60, Try.ntmps60
  go_wp2
  go_ret2
  exact ⟨rfl, (Below.refl _ _).alloc (Nat.le_refl _) _⟩

set_option maxRecDepth 10000 in
set_option maxHeartbeats 8000000 in
theorem new_4 (key : ByteArray) (w : World) (hk : key.size = 16) :
    Calls Try.prog 60 #[.string key] w fun e w' => e = .returned (.tuple #[.pointer (some ⟨w.heap.size, 0, none⟩), .int .i64 0]) ∧ Cip w.heap.size 10 (wordAt 4 (nums key)) sub unsub w' ∧ Below w.heap.size w w' := by
  have hz := zero52.1
  obtain ⟨i0, hi0⟩ := info8
  have HI0 := Lib.hid hi0; clear hi0
  have d3 : (key.size : Int) = 16 := by omega
  have HK := Lib.hid hk; clear hk
  obtain ⟨g, hg⟩ : ∃ g, g = w.heap.size := ⟨_, rfl⟩
  have hc0 : Cb g 0 (zerosN 752) (w.alloc (.cells (cipCells 0 (zerosN 752)) 111)) := by rw [hg]; exact heap_alloc_new w _
  have hcr := hc0.rounds
  have hfr := hc0.frozen 0
  have hb0 : Below g w (w.alloc (.cells (cipCells 0 (zerosN 752)) 111)) := (Below.refl _ _).alloc (by omega) _
  have HC := Lib.hid (show Cb g 10 (boxL 0) (w.alloc (.cells ((cipCells 0 (zerosN 752)).setIfInBounds 0 (.int .i64 10)) 111)) ∧ Below g w (w.alloc (.cells ((cipCells 0 (zerosN 752)).setIfInBounds 0 (.int .i64 10)) 111)) from ⟨by
    have e : (cipCells 0 (zerosN 752)).setIfInBounds 0 (.int .i64 10) = cipCells 10 (boxL 0) := by rw [boxL_zero]; exact cip_set0 0 10 _
    rw [e, hg]; exact heap_alloc_new w _, (Below.refl _ _).alloc (by omega) _⟩)
  have hg' := hg.symm
  rw [← hg]
  obtain ⟨AG, hAG⟩ : ∃ AG, AG = valsK .u8 (allF inverse 256) := ⟨_, rfl⟩
  have HI := Lib.hid (fun X => inverses_any X)
  rw [← hAG] at HI
  have HAG := Lib.hid hAG
  clear hAG hc0 hb0 hg
  go_enter Try.func60, Try.ntmps60
  go_wp2_with fail
  refine (HI.out _).mono ?_
  rintro e w1 ⟨rfl, hb1⟩
  have HC1 := Lib.hid (show Cb g 10 (boxL 0) w1 ∧ Below g w w1 from ⟨keepBlock HC.out.1 hb1, HC.out.2.trans (hb1.mono (Nat.le_of_lt (Array.getElem?_eq_some_iff.1 HC.out.1).1))⟩)
  clear hb1 hcr hfr HC hz
  go_wp2
  go_loopw [23] (fun i wr => ∃ k : Nat, k ≤ 256 ∧ i = .int .i64 (k : Nat) ∧ Cb g 10 (boxL k) wr ∧ Below g w wr) (fun i _ => 256 - (intOf i).toNat)
  case atStart => exact ⟨0, Nat.zero_le _, rfl, HC1.out⟩
  case round =>
    obtain ⟨k, hk, rfl, hS, hB⟩ := hrel
    by_cases hlt : k < 256
    · obtain ⟨v, hv⟩ : ∃ v, v = inverse k := ⟨_, rfl⟩
      obtain ⟨s, hs⟩ : ∃ s, s = sub k := ⟨_, rfl⟩
      have hidx : ∀ X, (Instr.index 108 (.agg AG) (.int .i64 (k : Int))).run Try.prog X = .ok (.int .u8 (v : Nat)) X := by
        intro X
        rw [HAG.out, hv]
        exact idx_int X under256u Try.underlying5 HI0.out (by kernel_rfl) hlt (valsK_get _ _ _ _ (allF_get inverse 256 k hlt))
      have CS : Hid (∀ X, Calls Try.prog 74 #[.int .u8 v] X fun e w' => e = .returned (.int .u8 (s : Nat)) ∧ w' = X) := Lib.hid (fun X => by
        rw [hs, hv, ← subTo_inverse]; exact spread_any (inverse k) X (inverse_lt hlt))
      have hsl : s < 256 := by rw [hs]; exact sub_lt k hlt
      have hA : ∀ Y, Cb g 10 (boxL k) Y → Cb g 10 (boxL (k + 1)) ((Y.setCell ⟨g, 241 + k, none⟩ (.int .u8 (s : Nat))).setCell ⟨g, 497 + s, none⟩ (.int .u8 (k : Nat))) := fun Y hY => by
        have h2 := (hY.set (240 + k) s).set (496 + s) k
        rw [hs, boxL_next k hlt, ← hs, show 1 + (240 + k) = 241 + k by omega, show 1 + (496 + s) = 497 + s by omega] at h2
        exact h2
      have hB2 : ∀ Y, Cb g 10 (boxL k) Y → Cb g 10 (boxL (k + 1)) ((Y.setCell ⟨g, 497 + s, none⟩ (.int .u8 (k : Nat))).setCell ⟨g, 241 + k, none⟩ (.int .u8 (s : Nat))) := fun Y hY => by
        have h2 := (hY.set (496 + s) k).set (240 + k) s
        rw [List.set_comm _ _ (by omega), hs, boxL_next k hlt, ← hs, show 1 + (240 + k) = 241 + k by omega, show 1 + (496 + s) = 497 + s by omega] at h2
        exact h2
      obtain ⟨za, hza⟩ : ∃ z, (boxL k)[240 + k]? = some z := ⟨_, List.getElem?_eq_getElem (by rw [boxL_length]; omega)⟩
      obtain ⟨zb, hzb⟩ : ∃ z, (boxL k)[496 + s]? = some z := ⟨_, List.getElem?_eq_getElem (by rw [boxL_length]; omega)⟩
      have ca : wr.cell? ⟨g, 241 + k, none⟩ = some (.int .u8 (za : Nat)) := by rw [show 241 + k = 1 + (240 + k) by omega]; exact hS.cell hza
      have cb : wr.cell? ⟨g, 497 + s, none⟩ = some (.int .u8 (zb : Nat)) := by rw [show 497 + s = 1 + (496 + s) by omega]; exact hS.cell hzb
      have fa := hS.frozen (241 + k)
      have fb := hS.frozen (497 + s)
      have cab : ∀ u, (wr.setCell ⟨g, 241 + k, none⟩ u).cell? ⟨g, 497 + s, none⟩ = some (.int .u8 (zb : Nat)) := fun u => by
        rw [World.cell?_setCell_other _ _ _ _ (fun x => by injection x; omega)]; exact cb
      have cba : ∀ u, (wr.setCell ⟨g, 497 + s, none⟩ u).cell? ⟨g, 241 + k, none⟩ = some (.int .u8 (za : Nat)) := fun u => by
        rw [World.cell?_setCell_other _ _ _ _ (fun x => by injection x; omega)]; exact ca
      have q1 : IntKind.u8.wrap (k : Int) = (k : Int) := by rw [IntKind.wrap_u8]; omega
      have q1' : (k : Int) % 256 = (k : Int) := by omega
      have q2 : (k : Int) < 256 := by omega
      have q3 : (s : Int) < 256 := by omega
      have HA := Lib.hid (hA wr hS)
      have HB := Lib.hid (hB2 wr hS)
      have HBA := Lib.hid (show Below g w ((wr.setCell ⟨g, 241 + k, none⟩ (.int .u8 (s : Nat))).setCell ⟨g, 497 + s, none⟩ (.int .u8 (k : Nat))) from (hB.setCell (Nat.le_refl _) _).setCell (Nat.le_refl _) _)
      have HBB := Lib.hid (show Below g w ((wr.setCell ⟨g, 497 + s, none⟩ (.int .u8 (k : Nat))).setCell ⟨g, 241 + k, none⟩ (.int .u8 (s : Nat))) from (hB.setCell (Nat.le_refl _) _).setCell (Nat.le_refl _) _)
      clear hS hB hA hB2 hza hzb hv hs hsl
      go_wp2_with fail
      refine (CS.out _).mono ?_
      rintro e w2 ⟨rfl, rfl⟩
      go_wp2
      go_region
      all_goals (go_wp2; go_roundw)
      all_goals first
        | exact ⟨k + 1, by omega, by go_num, HA.out, HBA.out.drew⟩
        | exact ⟨k + 1, by omega, by go_num, HB.out, HBB.out.drew⟩
        | (simp [intOf]; omega)
    · obtain rfl : k = 256 := by omega
      have hS' : Cb g (4 + 6) (zerosN 240 ++ (allF sub 256 ++ allF unsub 256)) wr := by
        have e : boxL 256 = zerosN 240 ++ (allF sub 256 ++ allF unsub 256) := by
          unfold boxL; rw [upF_all, backTo_all]
        rw [← e]; exact hS
      have CE := Lib.hid (expand_any g 4 key (allF sub 256 ++ allF unsub 256) wr (by decide) (by rw [HK.out]) hS' (fun j hj => by
        rw [List.getElem?_append_left (by rw [allF_length]; exact hj)]; exact allF_get sub 256 j hj))
      have HB := Lib.hid hB
      clear hS hS' hB
      go_wp2_with fail
      refine CE.out.mono ?_
      rintro e w3 ⟨rfl, hc3, hb3⟩
      have H3 := Lib.hid (And.intro (cb_cip hc3) (HB.out.trans hb3))
      clear hc3 hb3
      go_wp2
      go_ret2
      exact ⟨rfl, H3.out⟩

set_option maxRecDepth 10000 in
set_option maxHeartbeats 8000000 in
theorem new_8 (key : ByteArray) (w : World) (hk : key.size = 32) :
    Calls Try.prog 60 #[.string key] w fun e w' => e = .returned (.tuple #[.pointer (some ⟨w.heap.size, 0, none⟩), .int .i64 0]) ∧ Cip w.heap.size 14 (wordAt 8 (nums key)) sub unsub w' ∧ Below w.heap.size w w' := by
  have hz := zero52.1
  obtain ⟨i0, hi0⟩ := info8
  have HI0 := Lib.hid hi0; clear hi0
  have d3 : (key.size : Int) = 32 := by omega
  have HK := Lib.hid hk; clear hk
  obtain ⟨g, hg⟩ : ∃ g, g = w.heap.size := ⟨_, rfl⟩
  have hc0 : Cb g 0 (zerosN 752) (w.alloc (.cells (cipCells 0 (zerosN 752)) 111)) := by rw [hg]; exact heap_alloc_new w _
  have hcr := hc0.rounds
  have hfr := hc0.frozen 0
  have hb0 : Below g w (w.alloc (.cells (cipCells 0 (zerosN 752)) 111)) := (Below.refl _ _).alloc (by omega) _
  have HC := Lib.hid (show Cb g 14 (boxL 0) (w.alloc (.cells ((cipCells 0 (zerosN 752)).setIfInBounds 0 (.int .i64 14)) 111)) ∧ Below g w (w.alloc (.cells ((cipCells 0 (zerosN 752)).setIfInBounds 0 (.int .i64 14)) 111)) from ⟨by
    have e : (cipCells 0 (zerosN 752)).setIfInBounds 0 (.int .i64 14) = cipCells 14 (boxL 0) := by rw [boxL_zero]; exact cip_set0 0 14 _
    rw [e, hg]; exact heap_alloc_new w _, (Below.refl _ _).alloc (by omega) _⟩)
  have hg' := hg.symm
  rw [← hg]
  obtain ⟨AG, hAG⟩ : ∃ AG, AG = valsK .u8 (allF inverse 256) := ⟨_, rfl⟩
  have HI := Lib.hid (fun X => inverses_any X)
  rw [← hAG] at HI
  have HAG := Lib.hid hAG
  clear hAG hc0 hb0 hg
  go_enter Try.func60, Try.ntmps60
  go_wp2_with fail
  refine (HI.out _).mono ?_
  rintro e w1 ⟨rfl, hb1⟩
  have HC1 := Lib.hid (show Cb g 14 (boxL 0) w1 ∧ Below g w w1 from ⟨keepBlock HC.out.1 hb1, HC.out.2.trans (hb1.mono (Nat.le_of_lt (Array.getElem?_eq_some_iff.1 HC.out.1).1))⟩)
  clear hb1 hcr hfr HC hz
  go_wp2
  go_loopw [23] (fun i wr => ∃ k : Nat, k ≤ 256 ∧ i = .int .i64 (k : Nat) ∧ Cb g 14 (boxL k) wr ∧ Below g w wr) (fun i _ => 256 - (intOf i).toNat)
  case atStart => exact ⟨0, Nat.zero_le _, rfl, HC1.out⟩
  case round =>
    obtain ⟨k, hk, rfl, hS, hB⟩ := hrel
    by_cases hlt : k < 256
    · obtain ⟨v, hv⟩ : ∃ v, v = inverse k := ⟨_, rfl⟩
      obtain ⟨s, hs⟩ : ∃ s, s = sub k := ⟨_, rfl⟩
      have hidx : ∀ X, (Instr.index 108 (.agg AG) (.int .i64 (k : Int))).run Try.prog X = .ok (.int .u8 (v : Nat)) X := by
        intro X
        rw [HAG.out, hv]
        exact idx_int X under256u Try.underlying5 HI0.out (by kernel_rfl) hlt (valsK_get _ _ _ _ (allF_get inverse 256 k hlt))
      have CS : Hid (∀ X, Calls Try.prog 74 #[.int .u8 v] X fun e w' => e = .returned (.int .u8 (s : Nat)) ∧ w' = X) := Lib.hid (fun X => by
        rw [hs, hv, ← subTo_inverse]; exact spread_any (inverse k) X (inverse_lt hlt))
      have hsl : s < 256 := by rw [hs]; exact sub_lt k hlt
      have hA : ∀ Y, Cb g 14 (boxL k) Y → Cb g 14 (boxL (k + 1)) ((Y.setCell ⟨g, 241 + k, none⟩ (.int .u8 (s : Nat))).setCell ⟨g, 497 + s, none⟩ (.int .u8 (k : Nat))) := fun Y hY => by
        have h2 := (hY.set (240 + k) s).set (496 + s) k
        rw [hs, boxL_next k hlt, ← hs, show 1 + (240 + k) = 241 + k by omega, show 1 + (496 + s) = 497 + s by omega] at h2
        exact h2
      have hB2 : ∀ Y, Cb g 14 (boxL k) Y → Cb g 14 (boxL (k + 1)) ((Y.setCell ⟨g, 497 + s, none⟩ (.int .u8 (k : Nat))).setCell ⟨g, 241 + k, none⟩ (.int .u8 (s : Nat))) := fun Y hY => by
        have h2 := (hY.set (496 + s) k).set (240 + k) s
        rw [List.set_comm _ _ (by omega), hs, boxL_next k hlt, ← hs, show 1 + (240 + k) = 241 + k by omega, show 1 + (496 + s) = 497 + s by omega] at h2
        exact h2
      obtain ⟨za, hza⟩ : ∃ z, (boxL k)[240 + k]? = some z := ⟨_, List.getElem?_eq_getElem (by rw [boxL_length]; omega)⟩
      obtain ⟨zb, hzb⟩ : ∃ z, (boxL k)[496 + s]? = some z := ⟨_, List.getElem?_eq_getElem (by rw [boxL_length]; omega)⟩
      have ca : wr.cell? ⟨g, 241 + k, none⟩ = some (.int .u8 (za : Nat)) := by rw [show 241 + k = 1 + (240 + k) by omega]; exact hS.cell hza
      have cb : wr.cell? ⟨g, 497 + s, none⟩ = some (.int .u8 (zb : Nat)) := by rw [show 497 + s = 1 + (496 + s) by omega]; exact hS.cell hzb
      have fa := hS.frozen (241 + k)
      have fb := hS.frozen (497 + s)
      have cab : ∀ u, (wr.setCell ⟨g, 241 + k, none⟩ u).cell? ⟨g, 497 + s, none⟩ = some (.int .u8 (zb : Nat)) := fun u => by
        rw [World.cell?_setCell_other _ _ _ _ (fun x => by injection x; omega)]; exact cb
      have cba : ∀ u, (wr.setCell ⟨g, 497 + s, none⟩ u).cell? ⟨g, 241 + k, none⟩ = some (.int .u8 (za : Nat)) := fun u => by
        rw [World.cell?_setCell_other _ _ _ _ (fun x => by injection x; omega)]; exact ca
      have q1 : IntKind.u8.wrap (k : Int) = (k : Int) := by rw [IntKind.wrap_u8]; omega
      have q1' : (k : Int) % 256 = (k : Int) := by omega
      have q2 : (k : Int) < 256 := by omega
      have q3 : (s : Int) < 256 := by omega
      have HA := Lib.hid (hA wr hS)
      have HB := Lib.hid (hB2 wr hS)
      have HBA := Lib.hid (show Below g w ((wr.setCell ⟨g, 241 + k, none⟩ (.int .u8 (s : Nat))).setCell ⟨g, 497 + s, none⟩ (.int .u8 (k : Nat))) from (hB.setCell (Nat.le_refl _) _).setCell (Nat.le_refl _) _)
      have HBB := Lib.hid (show Below g w ((wr.setCell ⟨g, 497 + s, none⟩ (.int .u8 (k : Nat))).setCell ⟨g, 241 + k, none⟩ (.int .u8 (s : Nat))) from (hB.setCell (Nat.le_refl _) _).setCell (Nat.le_refl _) _)
      clear hS hB hA hB2 hza hzb hv hs hsl
      go_wp2_with fail
      refine (CS.out _).mono ?_
      rintro e w2 ⟨rfl, rfl⟩
      go_wp2
      go_region
      all_goals (go_wp2; go_roundw)
      all_goals first
        | exact ⟨k + 1, by omega, by go_num, HA.out, HBA.out.drew⟩
        | exact ⟨k + 1, by omega, by go_num, HB.out, HBB.out.drew⟩
        | (simp [intOf]; omega)
    · obtain rfl : k = 256 := by omega
      have hS' : Cb g (8 + 6) (zerosN 240 ++ (allF sub 256 ++ allF unsub 256)) wr := by
        have e : boxL 256 = zerosN 240 ++ (allF sub 256 ++ allF unsub 256) := by
          unfold boxL; rw [upF_all, backTo_all]
        rw [← e]; exact hS
      have CE := Lib.hid (expand_any g 8 key (allF sub 256 ++ allF unsub 256) wr (by decide) (by rw [HK.out]) hS' (fun j hj => by
        rw [List.getElem?_append_left (by rw [allF_length]; exact hj)]; exact allF_get sub 256 j hj))
      have HB := Lib.hid hB
      clear hS hS' hB
      go_wp2_with fail
      refine CE.out.mono ?_
      rintro e w3 ⟨rfl, hc3, hb3⟩
      have H3 := Lib.hid (And.intro (cb_cip hc3) (HB.out.trans hb3))
      clear hc3 hb3
      go_wp2
      go_ret2
      exact ⟨rfl, H3.out⟩

end Aes
end Go.Proofs.Ytedoggejbhbebaa

/-
  Contracts of aes.New and aes.Cipher.Do, by the key. Conditions: the key has 16 or 32 bytes; the block has 16.
-/
namespace Go.Proofs.Ytedoggejbhbebaa
namespace Aes
open Go.ChangeShapes Go.WideShapes Go.ChangeAt Go.RowKit Go.Great Go.ChangeMaps
open Gf
set_option linter.unusedVariables false
set_option maxRecDepth 100000

theorem new_ok (key : ByteArray) (n : Nat) (w : World) (hn : n = 4 ∨ n = 8) (hk : key.size = 4 * n) :
    Calls Try.prog 60 #[.string key] w fun e w' => e = .returned (.tuple #[.pointer (some ⟨w.heap.size, 0, none⟩), .int .i64 0]) ∧ Cip w.heap.size (n + 6) (wordAt n (nums key)) sub unsub w' ∧ Below w.heap.size w w' := by
  rcases hn with rfl | rfl
  · exact new_4 key w hk
  · exact new_8 key w hk

/-- What Do and Undo make, as texts. -/
def doneB (n : Nat) (key b : ByteArray) : ByteArray := toB (allF (done (wordAt n (nums key)) (n + 6) (byteAt b)) 16)
def undoneB (n : Nat) (key b : ByteArray) : ByteArray := toB (allF (undone (wordAt n (nums key)) (n + 6) (byteAt b)) 16)
theorem doneB_size (n : Nat) (key b : ByteArray) : (doneB n key b).size = 16 := by unfold doneB; rw [toB_size, allF_length]
theorem undoneB_size (n : Nat) (key b : ByteArray) : (undoneB n key b).size = 16 := by unfold undoneB; rw [toB_size, allF_length]

/-- A cipher of a key. -/
def Key (g n : Nat) (key : ByteArray) (X : World) : Prop := Cip g (n + 6) (wordAt n (nums key)) sub unsub X
theorem Key.next {g n : Nat} {key : ByteArray} {X Y : World} (h : Key g n key X) (hb : Below X.heap.size X Y) : Key g n key Y := Cip.next h hb
theorem do_key (g n : Nat) (key b : ByteArray) (X : World) (hn : n = 4 ∨ n = 8) (hb : b.size = 16) (h : Key g n key X) :
    Calls Try.prog 67 #[.pointer (some ⟨g, 0, none⟩), .string b] X fun e w' => e = .returned (.string (doneB n key b)) ∧ Below X.heap.size X w' :=
  do_any g (n + 6) _ b X hb (fun j => wordAt_lt (nums_lt key) j) (by omega) (by omega) h

end Aes
end Go.Proofs.Ytedoggejbhbebaa
