/-
  The reference's Do. Conditions: the block has 16 bytes; the words and the table are as they should be.
-/
import Derived.Test.YtpjobjpdfhpobaaEa
import Derived.Laws.OwnMore
namespace Go.Proofs.Ytpjobjpdfhpobaa
namespace Aes
open Go.ChangeShapes Go.WideShapes Go.ChangeAt Go.RowKit Go.Great Go.ChangeMaps
open Gf
set_option linter.unusedVariables false
set_option maxRecDepth 100000

theorem zero16i : (∀ w, (zeroValue 95).run Try.prog w = .ok (.agg (valsK .i64 (zerosN 16))) w) ∧ (Try.prog.info? 95).map (·.size) = some 16 :=
  zero_of_info (P := Try.prog) (t := 95) (v := .agg (valsK .i64 (zerosN 16))) (n := 16) (by kernel_rfl)

/-- The table, the block's row, and what was there. -/
structure Sd (w : World) (l : List Nat) (X : World) : Prop where
  ht : Wd .i64 68 w.heap.size (allF sub 256) X
  hs : Wd .i64 95 (w.heap.size + 1) l X
  below : Below w.heap.size w X
theorem Sd.start (w : World) : Sd w (zerosN 16) ((w.alloc (.cells (valsK .i64 (allF sub 256)) 68)).alloc (.cells (valsK .i64 (zerosN 16)) 95)) where
  ht := keepAlloc (heap_alloc_new w _) _
  hs := by
    have := heap_alloc_new (w.alloc (.cells (valsK .i64 (allF sub 256)) 68)) (.cells (valsK .i64 (zerosN 16)) 95)
    rwa [alloc_size] at this
  below := below_alloc ((Below.refl _ _).alloc (Nat.le_refl _) _) _
theorem Sd.next {w X Y : World} {l : List Nat} (h : Sd w l X) (hb : Below X.heap.size X Y) : Sd w l Y := ⟨keepBlock h.ht hb, keepBlock h.hs hb, below_link h.below hb⟩
theorem Sd.drew {w X : World} {l : List Nat} (h : Sd w l X) : Sd w l X.drew := ⟨h.ht, h.hs, h.below.drew⟩
theorem Sd.step {w X : World} {l : List Nat} (h : Sd w l X) (j v : Nat) : Sd w (l.set j v) (X.setCell ⟨w.heap.size + 1, j, none⟩ (.int .i64 (v : Nat))) :=
  ⟨h.ht.far _ _ _ (by omega), h.hs.set j v, h.below.setCell (by simp only []; omega) _⟩
theorem Sd.lt {w X : World} {l : List Nat} (h : Sd w l X) : w.heap.size + 1 < X.heap.size := (Array.getElem?_eq_some_iff.1 h.hs).1
/-- With a second row in block c. -/
structure Sx (w : World) (l : List Nat) (c : Nat) (m : List Nat) (X : World) : Prop where
  sd : Sd w l X
  hx : Wd .i64 95 c m X
  far : w.heap.size + 1 < c
theorem Sd.second {w X : World} {l : List Nat} (h : Sd w l X) : Sx w l X.heap.size (zerosN 16) (X.alloc (.cells (valsK .i64 (zerosN 16)) 95)) :=
  ⟨h.next ((Below.refl _ _).alloc (Nat.le_refl _) _), heap_alloc_new X _, h.lt⟩
theorem Sx.drew {w X : World} {l m : List Nat} {c : Nat} (h : Sx w l c m X) : Sx w l c m X.drew := ⟨h.sd.drew, h.hx, h.far⟩
theorem Sx.drewN {w X : World} {l m : List Nat} {c : Nat} (h : Sx w l c m X) (n : Nat) : Sx w l c m (X.drewN n) := ⟨⟨h.sd.ht, h.sd.hs, h.sd.below.trans ⟨rfl, rfl, rfl, Nat.le_refl _, fun _ _ => rfl⟩⟩, h.hx, h.far⟩
theorem Sx.stepX {w X : World} {l m : List Nat} {c : Nat} (h : Sx w l c m X) (j v : Nat) : Sx w l c (m.set j v) (X.setCell ⟨c, j, none⟩ (.int .i64 (v : Nat))) :=
  ⟨⟨h.sd.ht.far _ _ _ (by have := h.far; omega), h.sd.hs.far _ _ _ (by have := h.far; omega), h.sd.below.setCell (by have := h.far; simp only []; omega) _⟩, h.hx.set j v, h.far⟩
theorem Sx.stepS {w X : World} {l m : List Nat} {c : Nat} (h : Sx w l c m X) (j v : Nat) : Sx w (l.set j v) c m (X.setCell ⟨w.heap.size + 1, j, none⟩ (.int .i64 (v : Nat))) :=
  ⟨h.sd.step j v, h.hx.far _ _ _ (by have := h.far; omega), h.far⟩

/-- The row in the making: below k it holds x. -/
structure Row3 (w : World) (n : Nat) (x : Nat → Nat) (k : Nat) (wr : World) : Prop where
  row : ∃ ys, wr.ownsRow w.heap.size 5 1 (.slice (some ⟨w.heap.size, 0, none⟩) n n) n ys ∧ ∀ j, j < n → ys[j]? = some (.int .u8 (if j < k then x j else 0 : Nat))
  below : Below w.heap.size w wr
theorem Row3.start {w w' : World} {n : Nat} {x : Nat → Nat} (hown : w'.ownsRow w.heap.size 5 1 (.slice (some ⟨w.heap.size, 0, none⟩) n n) n (madeCells (Value.int .u8 0).cells (n * 1)).toList) (hgrow : w.grownBy w' none) : Row3 w n x 0 w' := by
  refine ⟨⟨_, hown, fun j hj => ?_⟩, (Below.refl _ _).grown hgrow (Nat.le_refl _) (fun k hk => by cases hk)⟩
  have e : (Value.int .u8 0).cells = #[.int .u8 0] := rfl
  rw [e, toList_madeCells_one, Nat.mul_one]
  simp [hj]
theorem Row3.cell {w wr : World} {n k : Nat} {x : Nat → Nat} (h : Row3 w n x k wr) (hk : k < n) : wr.cell? ⟨w.heap.size, k, none⟩ = some (.int .u8 0) := by
  obtain ⟨ys, hown, hys⟩ := h.row
  rw [hown.cellAt k (by omega), hys k hk]
  simp
theorem Row3.frozen {w wr : World} {n k : Nat} {x : Nat → Nat} (h : Row3 w n x k wr) : wr.frozen? ⟨w.heap.size, k, none⟩ = false := by
  obtain ⟨ys, hown, hys⟩ := h.row
  exact hown.frozenAt k
theorem Row3.step {w wr : World} {n k : Nat} {x : Nat → Nat} (h : Row3 w n x k wr) (hk : k < n) : Row3 w n x (k + 1) (wr.setCell ⟨w.heap.size, k, none⟩ (.int .u8 (x k : Nat))) := by
  obtain ⟨ys, hown, hys⟩ := h.row
  have hst := hown.stored k (.int .u8 (x k : Nat))
  refine ⟨⟨_, hst.1, fun j hj => ?_⟩, h.below.grown hst.2 h.below.size (fun g hg => by cases hg; exact Nat.le_refl _)⟩
  have hl : ys.length = n := by have := hown.1; omega
  rw [List.getElem?_set]
  by_cases e : k = j
  · subst e
    simp [hl, hk]
  · rw [if_neg e, hys j hj]
    have : (j < k + 1) = (j < k) := by apply propext; omega
    simp [this]
theorem Row3.back {w wr : World} {x : Nat → Nat} {n : Nat} (h : Row3 w n x n wr) (hx : ∀ j < n, x j < 256) :
    (convert 24 9 (.slice (some ⟨w.heap.size, 0, none⟩) n n)).run Try.prog wr = .ok (.string (toB (allF x n))) wr := by
  obtain ⟨ys, hown, hys⟩ := h.row
  have e : n = ((allF x n).map UInt8.ofNat).length := by rw [List.length_map, allF_length]
  conv => lhs; rw [show Value.slice (some ⟨w.heap.size, 0, none⟩) n n = Value.slice (some ⟨w.heap.size, 0, none⟩) ((allF x n).map UInt8.ofNat).length n by rw [← e]]
  refine run_convert_bytes_back wr 24 9 5 _ n ((allF x n).map UInt8.ofNat) Try.underlying24 Try.underlying5 Try.underlying9 fun j hj => ?_
  have hj' : j < n := by rw [← e] at hj; exact hj
  rw [hown.cells (g := w.heap.size) rfl j _ (hys j hj'), if_pos hj']
  have hg : (allF x n)[j]? = some (x j) := allF_get x n j hj'
  have e2 : (allF x n)[j]'(by rw [allF_length]; exact hj') = x j := by
    rw [List.getElem?_eq_getElem (by rw [allF_length]; exact hj')] at hg
    exact Option.some.inj hg
  simp [e2, Nat.mod_eq_of_lt (hx j hj')]

theorem i64_id {n : Int} (h : 0 ≤ n ∧ n ≤ 65536) : IntKind.i64.wrap n = n := by rw [IntKind.wrap_i64]; omega

/-- The places of a column's others, reckoned from i. -/
theorem mix_idx (i : Nat) (hi : i < 16) : ∃ d q4 r4 k1 k2 k3 : Nat, ((i : Int) / 4 = (d : Int) ∧ (d : Int) * 4 = (q4 : Int) ∧ (i : Int) % 4 = (r4 : Int)) ∧
    (Int.tmod ((r4 : Int) + 1) 4 = (k1 : Int) ∧ Int.tmod ((r4 : Int) + 2) 4 = (k2 : Int) ∧ Int.tmod ((r4 : Int) + 3) 4 = (k3 : Int)) ∧
    (((r4 : Int) + 1) % 4 = (k1 : Int) ∧ ((r4 : Int) + 2) % 4 = (k2 : Int) ∧ ((r4 : Int) + 3) % 4 = (k3 : Int)) ∧
    ((q4 : Int) + (k1 : Int) = ((down i 1 : Nat) : Int) ∧ (q4 : Int) + (k2 : Int) = ((down i 2 : Nat) : Int) ∧ (q4 : Int) + (k3 : Int) = ((down i 3 : Nat) : Int)) ∧
    (IntKind.i64.wrap ((r4 : Int) + 1) = (r4 : Int) + 1 ∧ IntKind.i64.wrap ((r4 : Int) + 2) = (r4 : Int) + 2 ∧ IntKind.i64.wrap ((r4 : Int) + 3) = (r4 : Int) + 3) ∧ r4 < 4 ∧ d < 4 := by
  refine ⟨i / 4, i / 4 * 4, i % 4, (i % 4 + 1) % 4, (i % 4 + 2) % 4, (i % 4 + 3) % 4, ⟨by omega, by omega, by omega⟩, ⟨?_, ?_, ?_⟩, ⟨by omega, by omega, by omega⟩, ⟨by unfold down; omega, by unfold down; omega, by unfold down; omega⟩, ⟨i64_id (by omega), i64_id (by omega), i64_id (by omega)⟩, by omega, by omega⟩
  · rw [Int.tmod_eq_emod_of_nonneg (by omega)]; omega
  · rw [Int.tmod_eq_emod_of_nonneg (by omega)]; omega
  · rw [Int.tmod_eq_emod_of_nonneg (by omega)]; omega
theorem int_lt {i n : Nat} (h : i < n) : (i : Int) < (n : Int) := by omega
theorem int_lt16 {i : Nat} (h : i < 16) : (i : Int) < 16 := by omega
theorem word_idx (r i : Nat) : 16 * (r : Int) + (i : Int) = ((16 * r + i : Nat) : Int) := by omega
theorem word_lt {M R r i : Nat} (hM : M = 16 * (R + 1)) (hr : r ≤ R) (hi : i < 16) : 16 * r + i < M := by omega
theorem small_id {p : Nat} (h : p < 16) : IntKind.i64.wrap (p : Int) = (p : Int) := i64_id (by omega)
theorem word_id {M R o : Nat} (hM : M = 16 * (R + 1)) (hR : R ≤ 14) (h : o < M) : IntKind.i64.wrap (o : Int) = (o : Int) := i64_id (by omega)
theorem byte_w {x : Nat} (h : x < 256) : x < 65536 := by omega

/-- The words as they lie in memory. -/
def Words (gW M : Nat) (W : Nat → Nat) (w : World) : Prop := gW < w.heap.size ∧ ∀ j < M, w.cell? ⟨gW, j, none⟩ = some (.int .i64 (W j : Nat))
theorem Words.at_ {gW M : Nat} {W : Nat → Nat} {w X : World} (h : Words gW M W w) (hb : Below w.heap.size w X) {j : Nat} (hj : j < M) : X.cell? ⟨gW, j, none⟩ = some (.int .i64 (W j : Nat)) := by
  rw [hb.cell (p := ⟨gW, j, none⟩) h.1]; exact h.2 j hj

set_option maxRecDepth 100000 in
set_option maxHeartbeats 8000000 in
theorem rdo_any (gW M cap R : Nat) (W : Nat → Nat) (b : ByteArray) (w : World) (hM : M = 16 * (R + 1)) (hR1 : 1 ≤ R) (hR : R ≤ 14) (hb : b.size = 16) (hW : ∀ j, W j < 256) (hWc : Words gW M W w) :
    Calls Try.prog 46 #[.agg (valsK .i64 (allF sub 256)), .slice (some ⟨gW, 0, none⟩) M cap, .string b] w fun e w' => e = .returned (.string (toB (allF (done W R (byteAt b)) 16))) ∧ Below w.heap.size w w' := by
  obtain ⟨i0, hi, hz0, hz1, hz2⟩ := info_parts infoByte
  obtain ⟨TB, hTB⟩ : ∃ TB, TB = allF sub 256 := ⟨_, rfl⟩
  have hz := zero16i.1
  have hne := zeros16_ne .i64
  have HS := Lib.hid (Sd.start w)
  rw [← hTB] at HS ⊢
  obtain ⟨B, hB⟩ : ∃ B, B = byteAt b := ⟨_, rfl⟩
  have hBl : Bytes B := fun i _ => by rw [hB]; exact byteAt_lt b i
  have hSb : ∀ k ≤ R, Bytes (doneTo W R B k) := fun k hk => doneTo_bytes (fun j _ => hW j) hBl k hk
  obtain ⟨S, hS⟩ : ∃ S, S = doneTo W R B := ⟨_, rfl⟩
  have hS0 : S 0 = added W 0 B := by rw [hS]; rfl
  have hS1 : ∀ k, S (k + 1) = roundOf W R (k + 1) (S k) := fun k => by rw [hS]; rfl
  have hSe : done W R (byteAt b) = S R := by rw [hS, hB]; rfl
  rw [hSe]
  rw [← hS] at hSb
  have HSS := Lib.hid (And.intro hS0 (And.intro hS1 hSb))
  have HW := Lib.hid hW
  have HWC := Lib.hid hWc
  have HBB := Lib.hid (And.intro hB hb)
  have HR := Lib.hid (And.intro hR1 (And.intro hR hM))
  have g0 : (b.size : Int) = 16 := by omega
  have g1 : (M : Int) / 16 = (R : Int) + 1 := by omega
  have g2 : (R : Int) + 1 - 1 = (R : Int) := by omega
  clear hTB hB hBl hSb hS hS0 hS1 hSe hW hWc hb hM hR1
  go_enter Try.func46, Try.ntmps46
  go_wp2
  go_loopw [8] (fun i wr => ∃ k : Nat, k ≤ 16 ∧ i = .int .i64 (k : Nat) ∧ Sd w (upF (S 0) 16 k) wr) (fun i _ => 16 - (intOf i).toNat)
  case atStart => exact ⟨0, Nat.zero_le _, rfl, by rw [upF_zero]; exact HS.out⟩
  case round =>
    obtain ⟨k, hk, rfl, hX⟩ := hrel
    by_cases hlt : k < 16
    · have hkb : k < b.size := by have := HBB.out.2; omega
      obtain ⟨d, hd⟩ : ∃ d, d = byteAt b k := ⟨_, rfl⟩
      have hd2 : (b[k].toNat : Int) = (d : Int) := by rw [hd, byteAt_get b k hkb]
      have hdl : d < 256 := by rw [hd]; exact byteAt_lt b k
      obtain ⟨e, he⟩ : ∃ e, e = W k := ⟨_, rfl⟩
      have hel : e < 256 := by rw [he]; exact HW.out k
      have c1 := HWC.out.at_ hX.below (show k < M by have := HR.out; omega)
      rw [← he] at c1
      have c2 := hX.hs.cell (upF_get (S 0) 16 k k hlt)
      have f2 := hX.hs.frozen k
      have qx := i64_xor_nat d e (by omega) (by omega)
      obtain ⟨z, hz3⟩ : ∃ z, z = d ^^^ e := ⟨_, rfl⟩
      rw [← hz3] at qx
      have hSz : S 0 k = z := by
        rw [HSS.out.1, hz3, hd, he, HBB.out.1]
        unfold added
        rw [Nat.mul_zero, Nat.zero_add]
      have hst := hX.step k z
      rw [← hSz, upF_next, hSz] at hst
      have q1 : IntKind.i64.wrap (d : Int) = (d : Int) := by rw [IntKind.wrap_i64]; omega
      have q2 : (k : Int) < 16 := by omega
      have q3 : (k : Int) < (M : Int) := by have := HR.out; omega
      have HST := Lib.hid hst
      clear hst hX hd he hz3 hSz hdl hel hz hne
      go_wp2
      go_region
      all_goals (go_wp2; go_roundw)
      all_goals first
        | exact ⟨k + 1, by omega, by go_num, HST.out.drew⟩
        | (simp [intOf]; omega)
    · obtain rfl : k = 16 := by omega
      rw [upF_all] at hX
      have HX := Lib.hid hX
      clear hX hlt
      go_wp2
      go_loopw [10] (fun i wr => ∃ k : Nat, k ≤ R ∧ i = .int .i64 ((k + 1 : Nat) : Int) ∧ Sd w (allF (S k) 16) wr) (fun i _ => R + 1 - (intOf i).toNat)
      case atStart => exact ⟨0, Nat.zero_le _, rfl, HX.out⟩
      case round =>
        obtain ⟨k, hk, rfl, hX⟩ := hrel
        obtain ⟨r, hr⟩ : ∃ r, r = k + 1 := ⟨_, rfl⟩
        rw [← hr]
        by_cases hlt : k < R
        · have g3 : decide ((r : Int) ≤ (R : Int)) = true := by simp; omega
          have g4 : decide (r ≤ R) = true := by simp; omega
          have hrl : r ≤ 14 := by omega
          have HK := Lib.hid (show r = k + 1 ∧ k < R from ⟨hr, hlt⟩)
          obtain ⟨s, hs⟩ : ∃ s, s = S k := ⟨_, rfl⟩
          rw [← hs] at hX
          have hsb : Bytes s := by rw [hs]; exact HSS.out.2.2 k hk
          have hnx : S (k + 1) = roundOf W R r s := by rw [HSS.out.2.1 k, hs, hr]
          obtain ⟨F, hF⟩ : ∃ F, F = subbed s := ⟨_, rfl⟩
          have hFb : Bytes F := by rw [hF]; exact subbed_bytes hsb
          obtain ⟨G, hG⟩ : ∃ G, G = roundOf W R r s := ⟨_, rfl⟩
          have HFG := Lib.hid (show F = subbed s ∧ Bytes F ∧ G = roundOf W R r s ∧ S (k + 1) = G ∧ Bytes s from ⟨hF, hFb, hG, by rw [hnx, hG], hsb⟩)
          obtain ⟨c, hc⟩ : ∃ c, c = wr.heap.size := ⟨_, rfl⟩
          have hx2 := hX.second
          rw [← hc] at hx2
          have hc' := hc.symm
          have HX2 := Lib.hid hx2
          clear hr hlt hs hsb hnx hF hFb hG hc hx2 hX hk
          go_wp2
          generalize wr.alloc (.cells (valsK .i64 (zerosN 16)) 95) = wq at *
          go_loopw [12] (fun i wr => ∃ i' : Nat, i' ≤ 16 ∧ i = .int .i64 (i' : Nat) ∧ Sx w (allF s 16) c (upF F 16 i') wr) (fun i _ => 16 - (intOf i).toNat)
          case atStart => exact ⟨0, Nat.zero_le _, rfl, by rw [upF_zero]; exact HX2.out⟩
          case round =>
            obtain ⟨i, hi16, rfl, hX⟩ := hrel
            by_cases hlt : i < 16
            · obtain ⟨r4, hr4⟩ : ∃ q, q = i % 4 := ⟨_, rfl⟩
              obtain ⟨m, hm⟩ : ∃ m, m = (i + 4 * r4) % 16 := ⟨_, rfl⟩
              obtain ⟨a, ha⟩ : ∃ a, a = s m := ⟨_, rfl⟩
              have hml : m < 16 := by omega
              have hal : a < 256 := by rw [ha]; exact HFG.out.2.2.2.2 m hml
              obtain ⟨v, hv⟩ : ∃ v, v = sub a := ⟨_, rfl⟩
              have hFi : F i = v := by rw [HFG.out.1, hv, ha, hm, hr4]; rfl
              have c1 := hX.sd.hs.cell (allF_get s 16 m hml)
              rw [← ha] at c1
              have c2 := hX.sd.ht.cell (allF_get sub 256 a hal)
              rw [← hv] at c2
              have c3 := hX.hx.cell (upF_get F 16 i i hlt)
              have f3 := hX.hx.frozen i
              have hst := hX.stepX i v
              rw [← hFi, upF_next, hFi] at hst
              have q1 : (i : Int) % 4 = (r4 : Int) := by omega
              have q2 : ((i : Int) + 4 * (r4 : Int)) % 16 = (m : Int) := by omega
              have q3 : (m : Int) < 16 := by omega
              have q4 : (a : Int) < 256 := by omega
              have q5 : (i : Int) < 16 := by omega
              have q6 : r4 < 4 := by omega
              have HST := Lib.hid hst
              clear hst hX hr4 hm ha hml hal hv hFi hz hne hc'
              go_wp2
              go_roundw
              case rel => exact ⟨i + 1, by omega, by go_num, HST.out⟩
              case measure => simp [intOf]; omega
            · obtain rfl : i = 16 := by omega
              rw [upF_all] at hX
              have HX3 := Lib.hid (show Sx w (stepF G s 16 0) c (allF F 16) wr from by rw [stepF_zero]; exact hX)
              clear hX hlt
              go_wp2
              go_loopw [13] (fun i wr => ∃ i' : Nat, i' ≤ 16 ∧ i = .int .i64 (i' : Nat) ∧ Sx w (stepF G s 16 i') c (allF F 16) wr) (fun i _ => 16 - (intOf i).toNat)
              case atStart => exact ⟨0, Nat.zero_le _, rfl, HX3.out⟩
              case round =>
                obtain ⟨i, hi16, rfl, hX⟩ := hrel
                by_cases hlt : i < 16
                · have hRR := HR.out
                  have hKK := HK.out
                  have hrR' : r ≤ R := by rw [hKK.1]; exact hKK.2
                  obtain ⟨x, hx⟩ : ∃ x, x = F i := ⟨_, rfl⟩
                  have hxl : x < 256 := by rw [hx]; exact HFG.out.2.1 i hlt
                  have c0 := hX.hx.cell (allF_get F 16 i hlt)
                  rw [← hx] at c0
                  obtain ⟨o, ho⟩ : ∃ o, o = 16 * r + i := ⟨_, rfl⟩
                  have hoM : o < M := by rw [ho]; exact word_lt hRR.2.2 hrR' hlt
                  obtain ⟨y, hy⟩ : ∃ y, y = W o := ⟨_, rfl⟩
                  have hyl : y < 256 := by rw [hy]; exact HW.out o
                  have c5 := HWC.out.at_ hX.sd.below hoM
                  rw [← hy] at c5
                  have c6 := hX.sd.hs.cell (stepF_get G s 16 i i hlt)
                  rw [if_neg (Nat.lt_irrefl _)] at c6
                  have f6 := hX.sd.hs.frozen i
                  have q1 : 16 * (r : Int) + (i : Int) = (o : Int) := by rw [ho]; exact word_idx r i
                  have q1' : IntKind.i64.wrap (o : Int) = (o : Int) := word_id hRR.2.2 hRR.2.1 hoM
                  have q2 : (o : Int) < (M : Int) := int_lt hoM
                  have q3 : (i : Int) < 16 := int_lt16 hlt
                  have HLT := Lib.hid hlt
                  by_cases hrR : r < R
                  · have g5 : decide ((r : Int) < (R : Int)) = true := decide_eq_true (int_lt hrR)
                    have g6 : decide (r < R) = true := decide_eq_true hrR
                    obtain ⟨d, q4, r4, k1, k2, k3, ⟨v0, v1, v2⟩, ⟨m1, m2, m3⟩, ⟨m1', m2', m3'⟩, ⟨b1, b2, b3⟩, ⟨a1, a2, a3⟩, hr4, hd4⟩ := mix_idx i hlt
                    have l1 : down i 1 < 16 := down_lt hlt
                    have l2 : down i 2 < 16 := down_lt hlt
                    have l3 : down i 3 < 16 := down_lt hlt
                    obtain ⟨p1, e1⟩ : ∃ p, p = down i 1 := ⟨_, rfl⟩
                    obtain ⟨p2, e2⟩ : ∃ p, p = down i 2 := ⟨_, rfl⟩
                    obtain ⟨p3, e3⟩ : ∃ p, p = down i 3 := ⟨_, rfl⟩
                    rw [← e1] at b1 l1
                    rw [← e2] at b2 l2
                    rw [← e3] at b3 l3
                    obtain ⟨x1, hx1⟩ : ∃ x, x = F p1 := ⟨_, rfl⟩
                    obtain ⟨x2, hx2⟩ : ∃ x, x = F p2 := ⟨_, rfl⟩
                    obtain ⟨x3, hx3⟩ : ∃ x, x = F p3 := ⟨_, rfl⟩
                    have xl1 : x1 < 256 := by rw [hx1]; exact HFG.out.2.1 _ l1
                    have xl2 : x2 < 256 := by rw [hx2]; exact HFG.out.2.1 _ l2
                    have xl3 : x3 < 256 := by rw [hx3]; exact HFG.out.2.1 _ l3
                    have c1 := hX.hx.cell (allF_get F 16 p1 l1)
                    have c2 := hX.hx.cell (allF_get F 16 p2 l2)
                    have c3 := hX.hx.cell (allF_get F 16 p3 l3)
                    rw [← hx1] at c1
                    rw [← hx2] at c2
                    rw [← hx3] at c3
                    obtain ⟨t2, ht2⟩ : ∃ t, t = times x 2 := ⟨_, rfl⟩
                    obtain ⟨t3, ht3⟩ : ∃ t, t = times x1 3 := ⟨_, rfl⟩
                    have tl2 : t2 < 256 := by rw [ht2]; exact times_lt hxl 2
                    have tl3 : t3 < 256 := by rw [ht3]; exact times_lt xl1 3
                    have T2 : Hid (∀ X, Calls Try.prog 59 #[.int .i64 x, .int .i64 2] X fun e w' => e = .returned (.int .i64 (t2 : Nat)) ∧ w' = X) := Lib.hid (fun X => by rw [ht2]; exact rtimes_any x 2 X hxl (by decide))
                    have T3 : Hid (∀ X, Calls Try.prog 59 #[.int .i64 x1, .int .i64 3] X fun e w' => e = .returned (.int .i64 (t3 : Nat)) ∧ w' = X) := Lib.hid (fun X => by rw [ht3]; exact rtimes_any x1 3 X xl1 (by decide))
                    obtain ⟨u, hu⟩ : ∃ u, u = t2 ^^^ t3 := ⟨_, rfl⟩
                    obtain ⟨u2, hu2⟩ : ∃ v, v = u ^^^ x2 := ⟨_, rfl⟩
                    obtain ⟨u3, hu3⟩ : ∃ v, v = u2 ^^^ x3 := ⟨_, rfl⟩
                    obtain ⟨z, hzz⟩ : ∃ z, z = u3 ^^^ y := ⟨_, rfl⟩
                    have ul : u < 256 := by rw [hu]; exact Nat.xor_lt_two_pow (n := 8) tl2 tl3
                    have ul2 : u2 < 256 := by rw [hu2]; exact Nat.xor_lt_two_pow (n := 8) ul xl2
                    have ul3 : u3 < 256 := by rw [hu3]; exact Nat.xor_lt_two_pow (n := 8) ul2 xl3
                    have w1 := i64_xor_nat t2 t3 (byte_w tl2) (byte_w tl3)
                    have w2 := i64_xor_nat u x2 (byte_w ul) (byte_w xl2)
                    have w3 := i64_xor_nat u2 x3 (byte_w ul2) (byte_w xl3)
                    have w4 := i64_xor_nat u3 y (byte_w ul3) (byte_w hyl)
                    rw [← hu] at w1
                    rw [← hu2] at w2
                    rw [← hu3] at w3
                    rw [← hzz] at w4
                    have hGi : G i = z := by
                      rw [HFG.out.2.2.1]
                      unfold roundOf
                      rw [if_pos hrR, ← HFG.out.1]
                      unfold added mixed mix4
                      rw [← e1, ← e2, ← e3, ← hx1, ← hx2, ← hx3, ← hx, ← ht2, ← ht3, ← hu, ← hu2, ← hu3, ← ho, ← hy, ← hzz]
                    have hst := fun n => (hX.drewN n).stepS i z
                    rw [← hGi, stepF_next, hGi] at hst
                    have b1' := small_id l1
                    have b2' := small_id l2
                    have b3' := small_id l3
                    have d1 := int_lt16 l1
                    have d2 := int_lt16 l2
                    have d3 := int_lt16 l3
                    have HST := Lib.hid hst
                    clear hst hX hx hxl ho hoM hy hyl hrR hrR' e1 e2 e3 l1 l2 l3 hx1 hx2 hx3 xl1 xl2 xl3 ht2 ht3 tl2 tl3 hu hu2 hu3 hzz ul ul2 ul3 hGi hz hne hRR hKK hlt
                    go_wp2
                    go_quiet ((go_at_call 59; first | (with_reducible exact Calls.quiet_of_same (T2.out _)) | (with_reducible exact Calls.quiet_of_same (T3.out _))))
                    go_wp2
                    clear a1 a2 a3 b1' b2' b3' q1' m1 m2 m3 m1' m2' m3' w1 w2 w3 w4 v0 v1 v2 b1 b2 b3 d1 d2 d3 hr4 hd4 q1 q2
                    go_roundw
                    case rel => exact ⟨i + 1, HLT.out, by go_num, HST.out _⟩
                    case measure => have := HLT.out; simp [intOf]; omega
                  · have g5 : decide ((r : Int) < (R : Int)) = false := decide_eq_false (fun h => hrR (Int.ofNat_lt.1 h))
                    have g6 : decide (r < R) = false := decide_eq_false hrR
                    obtain ⟨z, hzz⟩ : ∃ z, z = x ^^^ y := ⟨_, rfl⟩
                    have w4 := i64_xor_nat x y (byte_w hxl) (byte_w hyl)
                    rw [← hzz] at w4
                    have hGi : G i = z := by
                      rw [HFG.out.2.2.1]
                      unfold roundOf
                      rw [if_neg hrR, ← HFG.out.1]
                      unfold added
                      rw [← hx, ← ho, ← hy, ← hzz]
                    have hst := hX.stepS i z
                    rw [← hGi, stepF_next, hGi] at hst
                    have HST := Lib.hid hst
                    clear hst hX hx hxl ho hoM hy hyl hrR hrR' hzz hGi hz hne hRR hKK hlt
                    go_wp2
                    clear w4 q1 q1' q2
                    go_roundw
                    case rel => exact ⟨i + 1, HLT.out, by go_num, HST.out⟩
                    case measure => have := HLT.out; simp [intOf]; omega
                · obtain rfl : i = 16 := by omega
                  rw [stepF_all, ← HFG.out.2.2.2.1] at hX
                  have HX4 := Lib.hid hX.sd
                  clear hX hlt
                  go_wp2
                  go_roundw
                  case rel => exact ⟨k + 1, by have := HK.out; omega, by rw [HK.out.1]; go_num, HX4.out⟩
                  case measure => have := HK.out; simp [intOf]; omega
        · have e0 : k = R := by omega
          rw [e0] at hX
          have g3 : decide ((r : Int) ≤ (R : Int)) = false := by simp; omega
          have g4 : decide (r ≤ R) = false := by simp; omega
          have HX5 := Lib.hid hX
          have hSR := HSS.out.2.2 R (Nat.le_refl _)
          have HSR := Lib.hid hSR
          clear hX hr hlt e0 hSR hk hz hne
          go_wp2_with (at_make; refine wpList_make_full _ rfl _ _ 24 rfl wr.heap.size 5 i0 (.int .u8 0) 1 Try.underlying24 hi hz0 hz1 _ _ _ _ 16 rfl rfl rfl rfl (by rw [hz2]; omega) (by unfold maxLen; omega) (Nat.le_refl _) ?_; intro w2 hown hgrow; have hrow := Row3.start (x := S R) hown hgrow; have HR3 := Lib.hid hrow; clear hrow hown hgrow)
          go_loopw [18] (fun i wr' => ∃ i' : Nat, i' ≤ 16 ∧ i = .int .i64 (i' : Nat) ∧ Row3 wr 16 (S R) i' wr') (fun i _ => 16 - (intOf i).toNat)
          case atStart => exact ⟨0, Nat.zero_le _, rfl, HR3.out⟩
          case round =>
            obtain ⟨i, hi16, rfl, hrow⟩ := hrel
            by_cases hlt : i < 16
            · obtain ⟨x, hx⟩ : ∃ x, x = S R i := ⟨_, rfl⟩
              have hxl : x < 256 := by rw [hx]; exact HSR.out i hlt
              have c1 := (HX5.out.next hrow.below).hs.cell (allF_get (S R) 16 i hlt)
              rw [← hx] at c1
              have hcell := hrow.cell hlt
              have hfr := hrow.frozen
              have hst := hrow.step hlt
              rw [← hx] at hst
              have q1 : IntKind.u8.wrap (x : Int) = (x : Int) := by rw [IntKind.wrap_u8]; omega
              have q1' : (x : Int) % 256 = (x : Int) := by omega
              have q2 : (i : Int) < 16 := by omega
              have HST := Lib.hid hst
              clear hst hx hxl hrow
              go_wp2
              go_roundw
              case rel => exact ⟨i + 1, by omega, by go_num, HST.out⟩
              case measure => simp [intOf]; omega
            · obtain rfl : i = 16 := by omega
              have hback := hrow.back HSR.out
              have HB := Lib.hid (below_link HX5.out.below hrow.below)
              clear hrow hlt
              go_wp2
              go_ret
              exact ⟨rfl, HB.out⟩

end Aes
end Go.Proofs.Ytpjobjpdfhpobaa
