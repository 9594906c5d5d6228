/-
  Joined: Bd, Be. Conditions: as each part says.
-/
import Derived.Test.YtedoggejbhbebaaJ26
import Derived.StillTailTactics

/-
  Contract of aes.block.rotated. Conditions: the numbers are bytes; a row is turned once or three times as often as its index says.
-/
namespace Go.Proofs.Ytedoggejbhbebaa
namespace Aes
open Go.ChangeShapes Go.WideShapes Go.ChangeAt Go.RowKit Go.Great
open Gf
set_option linter.unusedVariables false

/-- Each row turned. -/
def turnedBy (t : Nat) (x : Nat → Nat) (i : Nat) : Nat := x ((i / 4 + t * (i % 4)) % 4 * 4 + i % 4)

/-- What came in, the result's row, the row that is filled. -/
structure Rot (w : World) (l m : List Nat) (wr : World) : Prop where
  hx : Wd .u8 120 w.heap.size l wr
  hr : Wd .u8 120 (w.heap.size + 1) (zerosN 16) wr
  hy : Wd .u8 120 (w.heap.size + 1 + 1) m wr
  below : Below w.heap.size w wr
theorem Rot.start (w : World) (l : List Nat) : Rot w l (zerosN 16) (((w.alloc (.cells (valsK .u8 l) 120)).alloc (.cells (valsK .u8 (zerosN 16)) 120)).alloc (.cells (valsK .u8 (zerosN 16)) 120)) where
  hx := keepAlloc (keepAlloc (heap_alloc_new w _) _) _
  hr := by
    have := keepAlloc (heap_alloc_new (w.alloc (.cells (valsK .u8 l) 120)) (.cells (valsK .u8 (zerosN 16)) 120)) (.cells (valsK .u8 (zerosN 16)) 120)
    rwa [alloc_size] at this
  hy := by
    have := heap_alloc_new ((w.alloc (.cells (valsK .u8 l) 120)).alloc (.cells (valsK .u8 (zerosN 16)) 120)) (.cells (valsK .u8 (zerosN 16)) 120)
    rwa [alloc_size, alloc_size] at this
  below := below_alloc (below_alloc ((Below.refl _ _).alloc (Nat.le_refl _) _) _) _
theorem Rot.drew {w X : World} {l m : List Nat} (h : Rot w l m X) : Rot w l m X.drew := ⟨h.hx, h.hr, h.hy, h.below.drew⟩
theorem Rot.step {w X : World} {l m : List Nat} (h : Rot w l m X) (j v : Nat) : Rot w l (m.set j v) (X.setCell ⟨w.heap.size + 1 + 1, j, none⟩ (.int .u8 (v : Nat))) where
  hx := h.hx.far _ _ _ (by omega)
  hr := h.hr.far _ _ _ (by omega)
  hy := h.hy.set j v
  below := h.below.setCell (by simp only []; omega) _

set_option maxHeartbeats 4000000 in
theorem rotated_any (x : Nat → Nat) (t : Nat) (w : World) (ht : t ≤ 3) :
    Calls Try.prog 82 #[.agg (valsK .u8 (allF x 16)), .int .i64 (t : Nat)] w fun e w' => e = .returned (.agg (valsK .u8 (allF (turnedBy t x) 16))) ∧ Below w.heap.size w w' := by
  have hz := zero16.1
  have hne := zeros16_ne .u8
  have HS := Lib.hid (Rot.start w (allF x 16))
  have HT := Lib.hid ht; clear ht
  obtain ⟨L, hL⟩ : ∃ L, L = allF x 16 := ⟨_, rfl⟩
  rw [← hL] at HS ⊢
  have HL := Lib.hid hL
  clear hL
  obtain ⟨F, hF⟩ : ∃ F, F = turnedBy t x := ⟨_, rfl⟩
  rw [← hF]
  have HF := Lib.hid hF; clear hF
  obtain ⟨R, hR⟩ : ∃ R, R = allF F 16 := ⟨_, rfl⟩
  rw [← hR]
  have HR := Lib.hid (show R = allF F 16 ∧ (valsK .u8 R).size = 16 from ⟨hR, by rw [valsK_size, hR, allF_length]⟩); clear hR
  go_enter Try.func82, Try.ntmps82
  go_wp2
  go_loopw [8] (fun i wr => ∃ k : Nat, k ≤ 4 ∧ i = .int .i64 (k : Nat) ∧ Rot w L (upF F 16 (k * 4)) wr) (fun i _ => 4 - (intOf i).toNat)
  case atStart => exact ⟨0, Nat.zero_le _, rfl, by rw [Nat.zero_mul, upF_zero]; exact HS.out⟩
  case round =>
    obtain ⟨k, hk, rfl, hS⟩ := hrel
    by_cases hlt : k < 4
    · have HQ := Lib.hid hS; clear hS
      have HK := Lib.hid hlt
      go_wp2
      go_loopw [11] (fun i wr => ∃ r : Nat, r ≤ 4 ∧ i = .int .i64 (r : Nat) ∧ Rot w L (upF F 16 (k * 4 + r)) wr) (fun i _ => 4 - (intOf i).toNat)
      case atStart => exact ⟨0, Nat.zero_le _, rfl, HQ.out⟩
      case round =>
        obtain ⟨r, hr, rfl, hS⟩ := hrel
        by_cases hrt : r < 4
        · obtain ⟨p, hp⟩ : ∃ p, p = t * r := ⟨_, rfl⟩
          have hpl : p ≤ 12 := by
            have := Nat.mul_le_mul HT.out (show r ≤ 3 by omega)
            omega
          obtain ⟨m, hm⟩ : ∃ m, m = (k + p) % 4 := ⟨_, rfl⟩
          obtain ⟨c, hc⟩ : ∃ c, c = x (m * 4 + r) := ⟨_, rfl⟩
          have hFc : F (k * 4 + r) = c := by
            rw [HF.out, hc, hm, hp]
            unfold turnedBy
            rw [show (k * 4 + r) / 4 = k by omega, show (k * 4 + r) % 4 = r by omega]
          have c1 := hS.hx.cell (show L[m * 4 + r]? = some c by rw [HL.out, allF_get _ _ _ (by omega), hc])
          have c2 := hS.hy.cell (upF_get F 16 (k * 4 + r) (k * 4 + r) (by omega))
          have f2 := hS.hy.frozen (k * 4 + r)
          have hst := hS.step (k * 4 + r) c
          rw [← hFc, upF_next F 16 (k * 4 + r), hFc] at hst
          have q1 : IntKind.i64.wrap ((t : Int) * (r : Int)) = (p : Int) := by
            rw [← Int.natCast_mul, ← hp, IntKind.wrap_i64]; omega
          have q2 : IntKind.i64.wrap ((k : Int) + (p : Int)) = ((k : Int) + (p : Int)) := by rw [IntKind.wrap_i64]; omega
          have q3 : Int.tmod ((k : Int) + (p : Int)) 4 = (m : Int) := by rw [Int.tmod_eq_emod_of_nonneg (by omega), hm]; omega
          have q3' : ((k : Int) + (p : Int)) % 4 = (m : Int) := by omega
          have q4 : (m : Int) < 4 := by omega
          have q5 : (r : Int) < 4 := by omega
          have q6 : (k : Int) < 4 := by omega
          have HST := Lib.hid hst; clear hst
          clear hS hz hne hp hm hc hFc hpl
          go_wp2
          go_region
          all_goals (go_wp2; go_roundw)
          all_goals first
            | exact ⟨r + 1, by omega, by go_num, HST.out.drew⟩
            | (simp [intOf]; omega)
        · obtain rfl : r = 4 := by omega
          have HQ2 := Lib.hid hS; clear hS
          go_wp2
          go_roundw
          case rel => exact ⟨k + 1, by have := HK.out; omega, by go_num, by rw [show (k + 1) * 4 = k * 4 + 4 by omega]; exact HQ2.out⟩
          case measure => have := HK.out; simp [intOf]; omega
    · obtain rfl : k = 4 := by omega
      rw [show 4 * 4 = 16 from rfl, upF_all, ← HR.out.1] at hS
      have HQ := Lib.hid hS; clear hS
      go_wp2_with (first | (refine load_whole (by rfl) 120 _ (by rfl) _ (by rfl) R ?_ under16 ?_ ?_; exact HQ.out.hy; (rw [HR.out.2]; exact zero16.2)) | (refine store_whole (by rfl) 120 _ _ (by rfl) _ (by rfl) R (zerosN 16) (by rfl) ?_ ?_ ?_ ?_; exact HQ.out.hr; (rw [HR.out.2, valsK_size]; rfl); (rw [HR.out.2]; exact zero16.2)))
      refine bodyPost_ret (results_cell_row rfl _ _ (w.heap.size + 1) 120 (valsK .u8 R) (0, 0) _ rfl (setRow_heap _ _ _ _ _ _ HQ.out.hr) under16 rfl (by rw [HR.out.2]; exact zero16.2)) rfl ⟨rfl, below_setRow HQ.out.below (by omega) _⟩

end Aes
end Go.Proofs.Ytedoggejbhbebaa

/-
  A cipher in memory; contract of aes.Cipher.mixed and Rounds. Conditions: the numbers are bytes; the round is one of the cipher's.
-/
namespace Go.Proofs.Ytedoggejbhbebaa
namespace Aes
open Go.ChangeShapes Go.WideShapes Go.ChangeAt Go.RowKit Go.Great
open Gf
set_option linter.unusedVariables false

/-- A cipher in block g: rounds, words' bytes, the box and its reverse. -/
structure Cip (g R : Nat) (W T B : Nat → Nat) (w : World) : Prop where
  lt : g < w.heap.size
  rounds : w.cell? ⟨g, 0, none⟩ = some (.int .i64 (R : Nat))
  words : ∀ j < 240, w.cell? ⟨g, 1 + j, none⟩ = some (.int .u8 (W j : Nat))
  there : ∀ j < 256, w.cell? ⟨g, 241 + j, none⟩ = some (.int .u8 (T j : Nat))
  back : ∀ j < 256, w.cell? ⟨g, 497 + j, none⟩ = some (.int .u8 (B j : Nat))
theorem Cip.next {g R : Nat} {W T B : Nat → Nat} {w w' : World} (h : Cip g R W T B w) (hb : Below w.heap.size w w') : Cip g R W T B w' where
  lt := Nat.lt_of_lt_of_le h.lt hb.size
  rounds := by rw [hb.cell (p := ⟨g, 0, none⟩) h.lt]; exact h.rounds
  words j hj := by rw [hb.cell (p := ⟨g, 1 + j, none⟩) h.lt]; exact h.words j hj
  there j hj := by rw [hb.cell (p := ⟨g, 241 + j, none⟩) h.lt]; exact h.there j hj
  back j hj := by rw [hb.cell (p := ⟨g, 497 + j, none⟩) h.lt]; exact h.back j hj

/-- A column's four. -/
def col4 (a b c d : Nat) : Nat → Nat := fun i => [a, b, c, d].getD i 0
theorem col4_eq (f : Nat → Nat) : valsK .u8 (allF f 4) = #[.int .u8 (f 0 : Nat), .int .u8 (f 1 : Nat), .int .u8 (f 2 : Nat), .int .u8 (f 3 : Nat)] := rfl

theorem storePut (X : World) (g o : Nat) (d : Nat → Nat) (h : X.there g o 4) : (storeCells ⟨g, o, none⟩ (valsK .u8 (allF d 4)).toList).run Try.prog X = .ok () (put4 X g o d) := by
  have hl : (valsK .u8 (allF d 4)).toList.length = 4 := by rw [Array.length_toList, valsK_size, allF_length]
  have := run_storeCells_cells (P := Try.prog) g o (valsK .u8 (allF d 4)).toList 0 X (fun j hj => (h j (by rw [← hl]; exact hj)).1) (fun j hj => (h j (by rw [← hl]; exact hj)).2) (fun v hv => (Array.all_eq_true_iff_forall_mem.1 (valsK_one .u8 (allF d 4))) v (by simpa using hv))
  exact this

set_option maxHeartbeats 4000000 in
theorem mixed_any (x : Nat → Nat) (r g R : Nat) (W T B : Nat → Nat) (w : World) (hx : ∀ i < 16, x i < 256) (hW : ∀ j < 240, W j < 256) (hr : r ≤ 14) (hC : Cip g R W T B w) :
    Calls Try.prog 79 #[.pointer (some ⟨g, 0, none⟩), .agg (valsK .u8 (allF x 16)), .int .i64 (r : Nat)] w fun e w' => e = .returned (.agg (valsK .u8 (allF (added W r x) 16))) ∧ Below w.heap.size w w' := by
  have hz := zero16.1
  have hne := zeros16_ne .u8
  have HS := Lib.hid (Row2.start 120 16 w (allF x 16))
  have HX := Lib.hid hx
  have HW := Lib.hid hW
  have HR0 := Lib.hid hr
  have HC := Lib.hid hC
  clear hx hW hr hC
  obtain ⟨L, hL⟩ : ∃ L, L = allF x 16 := ⟨_, rfl⟩
  rw [← hL] at HS ⊢
  have HL := Lib.hid hL
  clear hL
  obtain ⟨F, hF⟩ : ∃ F, F = added W r x := ⟨_, rfl⟩
  rw [← hF]
  have HF := Lib.hid hF; clear hF
  obtain ⟨A, hA⟩ : ∃ A, A = allF F 16 := ⟨_, rfl⟩
  rw [← hA]
  have HA := Lib.hid (show A = allF F 16 ∧ (valsK .u8 A).size = 16 from ⟨hA, by rw [valsK_size, hA, allF_length]⟩); clear hA
  go_enter Try.func79, Try.ntmps79
  go_wp2
  go_loopw [8] (fun i wr => ∃ k : Nat, k ≤ 4 ∧ i = .int .i64 (k : Nat) ∧ Row2 120 16 w (stepF F x 16 (k * 4)) wr) (fun i _ => 4 - (intOf i).toNat)
  case atStart => exact ⟨0, Nat.zero_le _, rfl, by rw [Nat.zero_mul, stepF_zero, ← HL.out]; exact HS.out⟩
  case round =>
    obtain ⟨k, hk, rfl, hS⟩ := hrel
    by_cases hlt : k < 4
    · obtain ⟨n, hn⟩ : ∃ n, n = 4 * r + k := ⟨_, rfl⟩
      have hnl : n < 60 := by have := HR0.out; omega
      obtain ⟨C, hCe⟩ : ∃ C : Nat → Nat, C = fun i => x (k * 4 + i) := ⟨_, rfl⟩
      obtain ⟨K, hK⟩ : ∃ K : Nat → Nat, K = fun i => W (n * 4 + i) := ⟨_, rfl⟩
      obtain ⟨D, hD⟩ : ∃ D : Nat → Nat, D = fun i => C i ^^^ K i := ⟨_, rfl⟩
      have hDF : ∀ i, D i = F (k * 4 + i) := by
        intro i
        rw [hD, hCe, hK, HF.out]
        unfold added
        show x (k * 4 + i) ^^^ W (n * 4 + i) = x (k * 4 + i) ^^^ W (16 * r + (k * 4 + i))
        rw [hn, show (4 * r + k) * 4 + i = 16 * r + (k * 4 + i) by omega]
      have HCALL : Hid (∀ X, Calls Try.prog 98 #[.agg #[.int .u8 (C 0 : Nat), .int .u8 (C 1 : Nat), .int .u8 (C 2 : Nat), .int .u8 (C 3 : Nat)], .agg #[.int .u8 (K 0 : Nat), .int .u8 (K 1 : Nat), .int .u8 (K 2 : Nat), .int .u8 (K 3 : Nat)]] X fun e w' => e = .returned (.agg (valsK .u8 (allF D 4))) ∧ Below X.heap.size X w') := Lib.hid (fun X => by
        rw [hD]
        exact sum_any C K X (fun i hi => by rw [hCe]; exact HX.out _ (by omega)) (fun i hi => by rw [hK]; exact HW.out _ (by omega)))
      have hst := fun Y (h : Row2 120 16 w (stepF F x 16 (k * 4)) Y) => h.put (k * 4) D
      rw [show D = fun i => F (k * 4 + i) from funext hDF, set4_step F x 16 (k * 4), ← show D = fun i => F (k * 4 + i) from funext hDF, ← show (k + 1) * 4 = k * 4 + 4 by omega] at hst
      have cx : ∀ i < 4, wr.cell? ⟨w.heap.size, k * 4 + i, none⟩ = some (.int .u8 (C i : Nat)) := fun i hi => by
        rw [hS.hx.cell (stepF_get F x 16 (k * 4) (k * 4 + i) (by omega)), if_neg (by omega), hCe]
      have cw : ∀ i < 4, wr.cell? ⟨g, 1 + n * 4 + i, none⟩ = some (.int .u8 (K i : Nat)) := fun i hi => by
        rw [hS.below.cell (p := ⟨g, 1 + n * 4 + i, none⟩) HC.out.lt, Nat.add_assoc, HC.out.words (n * 4 + i) (by omega), hK]
      have x0 : wr.cell? ⟨w.heap.size, k * 4, none⟩ = some (.int .u8 (C 0 : Nat)) := cx 0 (by decide)
      have x1 := cx 1 (by decide)
      have x2 := cx 2 (by decide)
      have x3 := cx 3 (by decide)
      have k0 : wr.cell? ⟨g, 1 + n * 4, none⟩ = some (.int .u8 (K 0 : Nat)) := cw 0 (by decide)
      have k1 := cw 1 (by decide)
      have k2 := cw 2 (by decide)
      have k3 := cw 3 (by decide)
      have q1 : IntKind.i64.wrap (4 * (r : Int)) = 4 * (r : Int) := by have := HR0.out; rw [IntKind.wrap_i64]; omega
      have q2 : IntKind.i64.wrap (4 * (r : Int) + (k : Int)) = (n : Int) := by rw [IntKind.wrap_i64]; omega
      have q2' : 4 * (r : Int) + (k : Int) = (n : Int) := by omega
      have q2'' : IntKind.i64.wrap (n : Int) = (n : Int) := by rw [IntKind.wrap_i64]; omega
      have q3 : (k : Int) < 4 := by omega
      have q4 : (n : Int) < 60 := by omega
      have HST := Lib.hid hst; clear hst
      have HQ := Lib.hid hS
      clear hS hCe hK hD hDF cx cw hn hnl hz hne
      go_wp2
      go_region_with ((go_at_call 98; with_reducible refine (HCALL.out _).mono ?_; rintro e w3 ⟨rfl, hb⟩; first | have h3 := HQ.out.next hb | have h3 := HQ.out.drew.next hb; have st := storePut w3 w.heap.size (k * 4) D (there_of_wd h3.hx (k * 4) (by rw [stepF_length]; omega)); have H3 := Lib.hid h3; clear h3 hb))
      all_goals (go_wp2; go_roundw)
      all_goals first
        | exact ⟨k + 1, by omega, by go_num, (HST.out _ H3.out)⟩
        | exact ⟨k + 1, by omega, by go_num, (HST.out _ H3.out).drew⟩
        | (simp [intOf]; omega)
    · obtain rfl : k = 4 := by omega
      rw [show 4 * 4 = 16 from rfl, stepF_all, ← HA.out.1] at hS
      have HQ := Lib.hid hS; clear hS
      go_wp2_with (first | (refine load_whole (by rfl) 120 _ (by rfl) _ (by rfl) A ?_ under16 ?_ ?_; exact HQ.out.hx; (rw [HA.out.2]; exact zero16.2)) | (refine store_whole (by rfl) 120 _ _ (by rfl) _ (by rfl) A (zerosN 16) (by rfl) ?_ ?_ ?_ ?_; exact HQ.out.hr; (rw [HA.out.2, valsK_size]; rfl); (rw [HA.out.2]; exact zero16.2)))
      refine bodyPost_ret (results_cell_row rfl _ _ (w.heap.size + 1) 120 (valsK .u8 A) (0, 0) _ rfl (setRow_heap _ _ _ _ _ _ HQ.out.hr) under16 rfl (by rw [HA.out.2]; exact zero16.2)) rfl ⟨rfl, below_setRow HQ.out.below (by omega) _⟩

end Aes
end Go.Proofs.Ytedoggejbhbebaa
