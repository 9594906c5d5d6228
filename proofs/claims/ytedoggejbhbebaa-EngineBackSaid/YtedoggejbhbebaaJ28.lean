/-
  Joined: Bf, Bg. Conditions: as each part says.
-/
import Derived.Test.YtedoggejbhbebaaJ27
import Derived.ChangeMaps5
import Derived.Deep.AppendLies

/-
  Contract of aes.block.multiplied. Conditions: the numbers are bytes.
-/
namespace Go.Proofs.Ytedoggejbhbebaa
namespace Aes
open Go.ChangeShapes Go.WideShapes Go.ChangeAt Go.RowKit Go.Great
open Gf
set_option linter.unusedVariables false
set_option maxRecDepth 100000

/-- Of the byte at p the sum of the first j products. -/
def accTo (f x : Nat → Nat) (p : Nat) : Nat → Nat
  | 0 => 0
  | j + 1 => accTo f x p j ^^^ times (x (down p j)) (f j)
def mulBy (f x : Nat → Nat) (p : Nat) : Nat := accTo f x p 4
theorem accTo_lt {f x : Nat → Nat} (hx : ∀ i < 16, x i < 256) {p : Nat} (hp : p < 16) (j : Nat) : accTo f x p j < 256 := by
  induction j with
  | zero => show 0 < 256; decide
  | succ j ih => exact Nat.xor_lt_two_pow (n := 8) ih (times_lt (hx _ (down_lt hp)) _)

/-- What came in, the factors, the result's row, the row that is filled. -/
structure Mul (w : World) (l f m : List Nat) (wr : World) : Prop where
  hx : Wd .u8 120 w.heap.size l wr
  hf : Wd .u8 106 (w.heap.size + 1) f wr
  hr : Wd .u8 120 (w.heap.size + 1 + 1) (zerosN 16) wr
  hy : Wd .u8 120 (w.heap.size + 1 + 1 + 1) m wr
  below : Below w.heap.size w wr
theorem Mul.start (w : World) (l f : List Nat) : Mul w l f (zerosN 16) ((((w.alloc (.cells (valsK .u8 l) 120)).alloc (.cells (valsK .u8 f) 106)).alloc (.cells (valsK .u8 (zerosN 16)) 120)).alloc (.cells (valsK .u8 (zerosN 16)) 120)) where
  hx := keepAlloc (keepAlloc (keepAlloc (heap_alloc_new w _) _) _) _
  hf := by
    have := keepAlloc (keepAlloc (heap_alloc_new (w.alloc (.cells (valsK .u8 l) 120)) (.cells (valsK .u8 f) 106)) (.cells (valsK .u8 (zerosN 16)) 120)) (.cells (valsK .u8 (zerosN 16)) 120)
    rwa [alloc_size] at this
  hr := by
    have := keepAlloc (heap_alloc_new ((w.alloc (.cells (valsK .u8 l) 120)).alloc (.cells (valsK .u8 f) 106)) (.cells (valsK .u8 (zerosN 16)) 120)) (.cells (valsK .u8 (zerosN 16)) 120)
    rwa [alloc_size, alloc_size] at this
  hy := by
    have := heap_alloc_new (((w.alloc (.cells (valsK .u8 l) 120)).alloc (.cells (valsK .u8 f) 106)).alloc (.cells (valsK .u8 (zerosN 16)) 120)) (.cells (valsK .u8 (zerosN 16)) 120)
    rwa [alloc_size, alloc_size, alloc_size] at this
  below := below_alloc (below_alloc (below_alloc ((Below.refl _ _).alloc (Nat.le_refl _) _) _) _) _
theorem Mul.next {w X Y : World} {l f m : List Nat} (h : Mul w l f m X) (hb : Below X.heap.size X Y) : Mul w l f m Y :=
  ⟨keepBlock h.hx hb, keepBlock h.hf hb, keepBlock h.hr hb, keepBlock h.hy hb, below_link h.below hb⟩
theorem Mul.drew {w X : World} {l f m : List Nat} (h : Mul w l f m X) : Mul w l f m X.drew := ⟨h.hx, h.hf, h.hr, h.hy, h.below.drew⟩
theorem Mul.step {w X : World} {l f m : List Nat} (h : Mul w l f m X) (j v : Nat) : Mul w l f (m.set j v) (X.setCell ⟨w.heap.size + 1 + 1 + 1, j, none⟩ (.int .u8 (v : Nat))) where
  hx := h.hx.far _ _ _ (by omega)
  hf := h.hf.far _ _ _ (by omega)
  hr := h.hr.far _ _ _ (by omega)
  hy := h.hy.set j v
  below := h.below.setCell (by simp only []; omega) _
/-- With a column in block c. -/
structure Mulc (w : World) (l f m : List Nat) (c : Nat) (col : List Nat) (wr : World) : Prop where
  mul : Mul w l f m wr
  hc : Wd .u8 106 c col wr
  far : w.heap.size + 1 + 1 + 1 < c
theorem Mulc.drew {w X : World} {l f m : List Nat} {c : Nat} {col : List Nat} (h : Mulc w l f m c col X) : Mulc w l f m c col X.drew := ⟨h.mul.drew, h.hc, h.far⟩
theorem Mulc.step {w X : World} {l f m : List Nat} {c : Nat} {col : List Nat} (h : Mulc w l f m c col X) (j v : Nat) : Mulc w l f (m.set j v) c col (X.setCell ⟨w.heap.size + 1 + 1 + 1, j, none⟩ (.int .u8 (v : Nat))) :=
  ⟨h.mul.step j v, h.hc.far _ _ _ (by have := h.far; omega), h.far⟩
theorem Mul.col {w X : World} {l f m : List Nat} (h : Mul w l f m X) (col : List Nat) : Mulc w l f m X.heap.size col ((X.alloc (.cells (valsK .u8 (zerosN 4)) 106)).setRow X.heap.size (valsK .u8 col)) :=
  ⟨h.next (below_new_col X col), new_col X col, (Array.getElem?_eq_some_iff.1 h.hy).1⟩

theorem upF_set_zero (F : Nat → Nat) (n p : Nat) (hp : p < n) : (upF F n p).set p 0 = upF F n p := by
  apply List.ext_getElem?
  intro j
  rw [List.getElem?_set]
  by_cases e : p = j
  · subst e; rw [if_pos rfl, upF_length, if_pos hp, upF_get _ _ _ _ hp, if_neg (Nat.lt_irrefl _)]
  · rw [if_neg e]

set_option maxHeartbeats 8000000 in
theorem multiplied_any (x f : Nat → Nat) (w : World) (hx : ∀ i < 16, x i < 256) (hf : ∀ i < 4, f i < 256) :
    Calls Try.prog 83 #[.agg (valsK .u8 (allF x 16)), .agg (valsK .u8 (allF f 4))] w fun e w' => e = .returned (.agg (valsK .u8 (allF (mulBy f x) 16))) ∧ Below w.heap.size w w' := by
  have hz := zero16.1
  have hne := zeros16_ne .u8
  have hz4 := zero4.1
  have hne4 := zeros4_ne .u8
  obtain ⟨i0, hi0⟩ := info8
  have HI0 := Lib.hid hi0; clear hi0
  have HS := Lib.hid (Mul.start w (allF x 16) (allF f 4))
  have HX := Lib.hid hx
  have HF0 := Lib.hid hf
  clear hx hf
  obtain ⟨L, hL⟩ : ∃ L, L = allF x 16 := ⟨_, rfl⟩
  obtain ⟨M, hM⟩ : ∃ M, M = allF f 4 := ⟨_, rfl⟩
  rw [← hL, ← hM] at HS ⊢
  have HL := Lib.hid (show L = allF x 16 ∧ (valsK .u8 L).size = 16 from ⟨hL, by rw [valsK_size, hL, allF_length]⟩)
  have HM := Lib.hid (show M = allF f 4 ∧ (valsK .u8 M).size = 4 from ⟨hM, by rw [valsK_size, hM, allF_length]⟩)
  clear hL hM
  obtain ⟨F, hF⟩ : ∃ F, F = mulBy f x := ⟨_, rfl⟩
  rw [← hF]
  have HF := Lib.hid hF; clear hF
  obtain ⟨R, hR⟩ : ∃ R, R = allF F 16 := ⟨_, rfl⟩
  rw [← hR]
  have HR := Lib.hid (show R = allF F 16 ∧ (valsK .u8 R).size = 16 from ⟨hR, by rw [valsK_size, hR, allF_length]⟩); clear hR
  go_enter Try.func83, Try.ntmps83
  go_wp2_with (refine load_whole (by rfl) 120 _ (by rfl) _ (by rfl) L ?_ under16 ?_ ?_; exact HS.out.hx; (rw [HL.out.2]; exact zero16.2))
  go_loopw [12] (fun i wr => ∃ k : Nat, k ≤ 4 ∧ i = .int .i64 (k : Nat) ∧ Mul w L M (upF F 16 (k * 4)) wr) (fun i _ => 4 - (intOf i).toNat)
  case atStart => exact ⟨0, Nat.zero_le _, rfl, by rw [Nat.zero_mul, upF_zero]; exact HS.out⟩
  case round =>
    obtain ⟨k, hk, rfl, hS⟩ := hrel
    by_cases hlt : k < 4
    · obtain ⟨C, hC⟩ : ∃ C : Nat → Nat, C = fun i => x (k * 4 + i) := ⟨_, rfl⟩
      have hidx : ∀ X, (Instr.index 120 (.agg (valsK .u8 L)) (.int .i64 (k : Int))).run Try.prog X = .ok (.agg (valsK .u8 (allF C 4))) X := by
        intro X
        rw [HL.out.1, hC]
        exact idx_col X x k hlt
      have HCE := Lib.hid hC; clear hC
      have HSZ := Lib.hid (show (valsK .u8 (allF C 4)).size = 4 by rw [valsK_size, allF_length])
      have st := storeOld (wr.alloc (.cells (valsK .u8 (zerosN 4)) 106)) wr.heap.size 106 (valsK .u8 (zerosN 4)) (valsK .u8 (allF C 4)) (heap_alloc_new wr _) (by rw [HSZ.out, valsK_size]; rfl) (valsK_one _ _)
      obtain ⟨c, hc⟩ : ∃ c, c = wr.heap.size := ⟨_, rfl⟩
      have HQ := Lib.hid (hS.col (allF C 4))
      rw [← hc] at HQ st
      have hc' := hc.symm
      have HK := Lib.hid hlt
      clear hS hc
      go_wp2
      clear st
      generalize (wr.alloc (.cells (valsK .u8 (zerosN 4)) 106)).setRow c (valsK .u8 (allF C 4)) = wq at *
      go_loopw [16] (fun i wr => ∃ r : Nat, r ≤ 4 ∧ i = .int .i64 (r : Nat) ∧ Mulc w L M (upF F 16 (k * 4 + r)) c (allF C 4) wr) (fun i _ => 4 - (intOf i).toNat)
      case atStart => exact ⟨0, Nat.zero_le _, rfl, HQ.out⟩
      case round =>
        obtain ⟨r, hr, rfl, hS⟩ := hrel
        by_cases hrt : r < 4
        · have HQ2 := Lib.hid hS; clear hS
          have HRT := Lib.hid hrt
          go_wp2_with (refine load_whole (by rfl) 106 _ (by rfl) _ (by rfl) M ?_ under4 ?_ ?_; exact HQ2.out.mul.hf; (rw [HM.out.2]; exact zero4.2))
          obtain ⟨p, hp⟩ : ∃ p, p = k * 4 + r := ⟨_, rfl⟩
          have HP := Lib.hid hp; clear hp
          have HQ3 := HQ2
          rw [← HP.out] at HQ3
          go_loopw [20] (fun i wr => ∃ j : Nat, j ≤ 4 ∧ i = .int .i64 (j : Nat) ∧ Mulc w L M ((upF F 16 p).set p (accTo f x p j)) c (allF C 4) wr) (fun i _ => 4 - (intOf i).toNat)
          case atStart => exact ⟨0, Nat.zero_le _, rfl, by
            have e : (upF F 16 p).set p (accTo f x p 0) = upF F 16 p := upF_set_zero F 16 p (by have := HP.out; have := HK.out; have := HRT.out; omega)
            rw [e]; exact HQ3.out⟩
          case round =>
            obtain ⟨j, hj, rfl, hS⟩ := hrel
            by_cases hjt : j < 4
            · have hpl : p < 16 := by have := HP.out; have := HK.out; have := HRT.out; omega
              obtain ⟨m, hm⟩ : ∃ m, m = (r + j) % 4 := ⟨_, rfl⟩
              obtain ⟨a, ha⟩ : ∃ a, a = C m := ⟨_, rfl⟩
              obtain ⟨b, hb⟩ : ∃ b, b = f j := ⟨_, rfl⟩
              obtain ⟨s, hs⟩ : ∃ s, s = accTo f x p j := ⟨_, rfl⟩
              obtain ⟨t, ht⟩ : ∃ t, t = times a b := ⟨_, rfl⟩
              have hm4 : m < 4 := by omega
              have ea : a = x (down p j) := by
                have hd : down p j = k * 4 + m := by have := HP.out; have := HRT.out; unfold down; omega
                rw [ha, HCE.out, hd]
              have hnx : accTo f x p (j + 1) = s ^^^ t := by rw [accTo, ← hs, ← ea, ← hb, ← ht]
              have hal : a < 256 := by rw [ea]; exact HX.out _ (down_lt hpl)
              have hbl : b < 256 := by rw [hb]; exact HF0.out j hjt
              have HCALL : Hid (∀ X, Calls Try.prog 100 #[.int .u8 a, .int .u8 b] X fun e w' => e = .returned (.int .u8 (t : Nat)) ∧ w' = X) := Lib.hid (fun X => by rw [ht]; exact times_any a b X hal hbl)
              have hsl : s < 256 := by rw [hs]; exact accTo_lt HX.out hpl j
              have htl : t < 256 := by rw [ht]; exact times_lt hal b
              have q0 := u8_xor_nat s t hsl htl
              have hidx2 : ∀ X, (Instr.index 106 (.agg (valsK .u8 M)) (.int .i64 (j : Int))).run Try.prog X = .ok (.int .u8 (b : Nat)) X := by
                intro X
                rw [HM.out.1, hb]
                exact idx_int X under4 Try.underlying5 HI0.out (by kernel_rfl) hjt (valsK_get _ _ _ _ (allF_get f 4 j hjt))
              have c1 := hS.hc.cell (allF_get C 4 m hm4)
              rw [← ha] at c1
              have c2 := hS.mul.hy.cell (j := p) (x := s) (by rw [List.getElem?_set_self (by rw [upF_length]; exact hpl), hs])
              have f2 := hS.mul.hy.frozen p
              have hst := hS.step p (s ^^^ t)
              rw [List.set_set, ← hnx] at hst
              rw [hnx] at hst
              have e5 : (upF F 16 p).set p (s ^^^ t) = (upF F 16 p).set p (accTo f x p (j + 1)) := by rw [hnx]
              rw [e5] at hst
              have hst2 := hst.drew
              rw [HP.out] at c2 f2
              have q1 : IntKind.i64.wrap ((r : Int) + (j : Int)) = ((r : Int) + (j : Int)) := by rw [IntKind.wrap_i64]; omega
              have q2 : Int.tmod ((r : Int) + (j : Int)) 4 = (m : Int) := by rw [Int.tmod_eq_emod_of_nonneg (by omega), hm]; omega
              have q3 : ((r : Int) + (j : Int)) % 4 = (m : Int) := by omega
              have q4 : (m : Int) < 4 := by omega
              have q5 : (r : Int) < 4 := by omega
              have q6 : (k : Int) < 4 := by omega
              have HST := Lib.hid hst2
              clear hst hst2 e5 hS hnx hm ha hb hs ht hm4 ea hal hbl hsl htl hpl hz hne hz4 hne4 hc'
              go_wp2
              go_region_with ((go_at_call 100; with_reducible refine (HCALL.out _).mono ?_; rintro e w3 ⟨rfl, rfl⟩))
              all_goals (go_wp2; go_roundw)
              all_goals first
                | exact ⟨j + 1, by omega, by go_num, by rw [← HP.out]; exact HST.out⟩
                | (simp [intOf]; omega)
            · obtain rfl : j = 4 := by omega
              have hS' : Mulc w L M (upF F 16 (k * 4 + (r + 1))) c (allF C 4) wr := by
                have e : (upF F 16 p).set p (accTo f x p 4) = upF F 16 (k * 4 + (r + 1)) := by
                  have e2 : accTo f x p 4 = F p := by rw [HF.out]; rfl
                  rw [e2, upF_next, HP.out, Nat.add_assoc]
                rw [← e]; exact hS
              have HQ4 := Lib.hid hS'; clear hS hS'
              go_wp2
              go_roundw
              case rel => exact ⟨r + 1, by have := HRT.out; omega, by go_num, HQ4.out⟩
              case measure => have := HRT.out; simp [intOf]; omega
        · obtain rfl : r = 4 := by omega
          have HQ2 := Lib.hid hS.mul; clear hS
          go_wp2
          go_roundw
          case rel => exact ⟨k + 1, by have := HK.out; omega, by go_num, by rw [show (k + 1) * 4 = k * 4 + 4 by omega]; exact HQ2.out⟩
          case measure => have := HK.out; simp [intOf]; omega
    · obtain rfl : k = 4 := by omega
      rw [show 4 * 4 = 16 from rfl, upF_all, ← HR.out.1] at hS
      have HQ := Lib.hid hS; clear hS
      go_wp2_with (first | (refine load_whole (by rfl) 120 _ (by rfl) _ (by rfl) R ?_ under16 ?_ ?_; exact HQ.out.hy; (rw [HR.out.2]; exact zero16.2)) | (refine store_whole (by rfl) 120 _ _ (by rfl) _ (by rfl) R (zerosN 16) (by rfl) ?_ ?_ ?_ ?_; exact HQ.out.hr; (rw [HR.out.2, valsK_size]; rfl); (rw [HR.out.2]; exact zero16.2)))
      refine bodyPost_ret (results_cell_row rfl _ _ (w.heap.size + 1 + 1) 120 (valsK .u8 R) (0, 0) _ rfl (setRow_heap _ _ _ _ _ _ HQ.out.hr) under16 rfl (by rw [HR.out.2]; exact zero16.2)) rfl ⟨rfl, below_setRow HQ.out.below (by omega) _⟩

end Aes
end Go.Proofs.Ytedoggejbhbebaa

/-
  Slices of bytes that grow by append; contract of aes.block.text. Conditions: the numbers are bytes.
-/
namespace Go.Proofs.Ytedoggejbhbebaa
namespace Aes
open Go.ChangeShapes Go.WideShapes Go.ChangeAt Go.RowKit Go.Great Go.ChangeMaps
open Gf
set_option linter.unusedVariables false
set_option maxRecDepth 100000

theorem infoByte : (Try.prog.info? 5).map (fun i => (i.zero, i.size, i.bytes)) = some (some (.int .u8 0), 1, 1) := by kernel_rfl

/-- Bytes as a text. -/
def toB (l : List Nat) : ByteArray := ⟨(l.map UInt8.ofNat).toArray⟩
theorem nums_toB (l : List Nat) (h : ∀ c ∈ l, c < 256) : nums (toB l) = l := by
  show ((l.map UInt8.ofNat).map UInt8.toNat) = l
  rw [List.map_map, List.map_congr_left (g := id), List.map_id]
  intro z hz
  simp [Nat.mod_eq_of_lt (h z hz)]
theorem toB_size (l : List Nat) : (toB l).size = l.length := by
  show (l.map UInt8.ofNat).toArray.size = _
  simp
theorem toB_nums (b : ByteArray) : toB (nums b) = b := by
  apply ByteArray.ext
  show ((b.data.toList.map UInt8.toNat).map UInt8.ofNat).toArray = b.data
  rw [List.map_map, List.map_congr_left (g := id), List.map_id]
  intro z _
  simp

/-- Bytes as cells. -/
def bCells (l : List Nat) : List Value := l.map fun (n : Nat) => Value.int .u8 (n : Int)
theorem bCells_append (l m : List Nat) : bCells l ++ bCells m = bCells (l ++ m) := by simp [bCells]
theorem bCells_length (l : List Nat) : (bCells l).length = l.length := by simp [bCells]
theorem valsK_toList (l : List Nat) : (valsK .u8 l).toList = bCells l := by
  simp [valsK, bCells]

/-- A slice of bytes of the function's own. -/
structure Own (w : World) (v : Value) (l : List Nat) (X : World) : Prop where
  row : X.ownsRow w.heap.size 5 1 v l.length (bCells l)
  below : Below w.heap.size w X

theorem own_below {B k n : Nat} {e : TypeId} {v : Value} {xs : List Value} {w w' : World} (h : w.ownsRow B e k v n xs) (hb : Below w.heap.size w w') : w'.ownsRow B e k v n xs := by
  obtain ⟨hl, h | ⟨g, cap, cur, hv, hg, hc, r⟩⟩ := h
  · exact ⟨hl, .inl h⟩
  · exact ⟨hl, .inr ⟨g, cap, cur, hv, hg, keepBlock hc hb, r⟩⟩
theorem Own.next {w X Y : World} {v : Value} {l : List Nat} (h : Own w v l X) (hb : Below X.heap.size X Y) : Own w v l Y := ⟨own_below h.row hb, below_link h.below hb⟩

theorem Own.back {w X : World} {v : Value} {l : List Nat} (h : Own w v l X) (h0 : 0 < l.length) (hl : ∀ c ∈ l, c < 256) :
    ∃ g cap, v = .slice (some ⟨g, 0, none⟩) l.length cap ∧ (convert 97 9 v).run Try.prog X = .ok (.string (toB l)) X := by
  obtain ⟨hx, h1 | ⟨g, cap, cur, hv, -, hc, hle, -, hs, ht⟩⟩ := h.row
  · omega
  refine ⟨g, cap, hv, ?_⟩
  rw [hv]
  have e : l.length = (l.map UInt8.ofNat).length := by rw [List.length_map]
  have hrow := h.row
  rw [hv] at hrow
  rw [e]
  refine run_convert_bytes_back X 97 9 5 _ cap (l.map UInt8.ofNat) Try.underlying97 Try.underlying5 Try.underlying9 fun j hj => ?_
  have hj' : j < l.length := by rw [List.length_map] at hj; exact hj
  rw [hrow.cells (g := g) rfl j (.int .u8 ((l[j] : Nat) : Int)) (by simp [bCells, hj'])]
  have hc := hl l[j] (List.getElem_mem hj')
  simp [Nat.mod_eq_of_lt hc]

/-- The first k columns. -/
def firstC (x : Nat → Nat) (k : Nat) : List Nat := (allF x 16).take (k * 4)
theorem allF_add (x : Nat → Nat) (m n : Nat) : allF x (m + n) = allF x m ++ allF (fun i => x (m + i)) n := by
  unfold allF
  rw [List.range_add, List.map_append, List.map_map]
  rfl
theorem take_allF (x : Nat → Nat) (m n : Nat) (h : m ≤ n) : (allF x n).take m = allF x m := by
  obtain ⟨k, rfl⟩ := Nat.exists_eq_add_of_le h
  rw [allF_add, List.take_append_of_le_length (by rw [allF_length]; exact Nat.le_refl _), List.take_of_length_le (by rw [allF_length]; exact Nat.le_refl _)]

set_option maxHeartbeats 4000000 in
theorem text_any (x : Nat → Nat) (w : World) (hx : ∀ i < 16, x i < 256) :
    Calls Try.prog 84 #[.agg (valsK .u8 (allF x 16))] w fun e w' => e = .returned (.string (toB (allF x 16))) ∧ Below w.heap.size w w' := by
  obtain ⟨i0, hi, hz0, hz1, hz2⟩ := info_parts infoByte
  have hz4 := zero4.1
  have hne4 := zeros4_ne .u8
  have HX := Lib.hid hx
  clear hx
  obtain ⟨L, hL⟩ : ∃ L, L = allF x 16 := ⟨_, rfl⟩
  have HL := Lib.hid (show L = allF x 16 ∧ (valsK .u8 L).size = 16 from ⟨hL, by rw [valsK_size, hL, allF_length]⟩)
  rw [← hL]
  clear hL
  go_enter Try.func84, Try.ntmps84
  go_wp2_with (first | (at_make; refine wpList_make_own _ rfl _ _ 97 rfl w.heap.size 5 i0 (.int .u8 0) 1 Try.underlying97 hi hz0 hz1 _ _ _ 16 rfl rfl rfl (by rw [hz2]; omega) (by unfold maxLen; omega) (by simp) ?_; intro w2 hown hgrow; have hb2 : Below (w.alloc (.cells (valsK .u8 L) 120)).heap.size (w.alloc (.cells (valsK .u8 L) 120)) w2 := (Below.refl _ _).grown hgrow (Nat.le_refl _) (fun k hk => by cases hk); have hrow : Wd .u8 120 w.heap.size L w2 := keepBlock (heap_alloc_new w _) hb2; have hO : Own w (.slice (some ⟨(w.alloc (.cells (valsK .u8 L) 120)).heap.size, 0, none⟩) 0 16) [] w2 := ⟨hown, below_link ((Below.refl _ _).alloc (Nat.le_refl _) _) hb2⟩; rw [alloc_size] at hO; have HO := Lib.hid hO; have HROW := Lib.hid hrow; clear hown hgrow hb2 hrow hO) | (refine load_whole (by rfl) 120 _ (by rfl) _ (by rfl) L ?_ under16 ?_ ?_; exact HROW.out; (rw [HL.out.2]; exact zero16.2)))
  go_loopw [3, 8] (fun v i wr => ∃ k : Nat, k ≤ 4 ∧ i = .int .i64 (k : Nat) ∧ Own w v (allF x (k * 4)) wr) (fun _ i _ => 4 - (intOf i).toNat)
  case atStart => exact ⟨0, Nat.zero_le _, rfl, HO.out⟩
  case round =>
    obtain ⟨k, hk, rfl, hO⟩ := hrel
    by_cases hlt : k < 4
    · obtain ⟨C, hC⟩ : ∃ C : Nat → Nat, C = fun i => x (k * 4 + i) := ⟨_, rfl⟩
      have hidx : ∀ X, (Instr.index 120 (.agg (valsK .u8 L)) (.int .i64 (k : Int))).run Try.prog X = .ok (.agg (valsK .u8 (allF C 4))) X := by
        intro X
        rw [HL.out.1, hC]
        exact idx_col X x k hlt
      have hnx : allF x (k * 4) ++ allF C 4 = allF x ((k + 1) * 4) := by rw [hC, ← allF_add]; congr 1; omega
      have HNX := Lib.hid hnx
      have HSZ := Lib.hid (show (valsK .u8 (allF C 4)).size = 4 by rw [valsK_size, allF_length])
      have st := storeOld (wr.alloc (.cells (valsK .u8 (zerosN 4)) 106)) wr.heap.size 106 (valsK .u8 (zerosN 4)) (valsK .u8 (allF C 4)) (heap_alloc_new wr _) (by rw [HSZ.out, valsK_size]; rfl) (valsK_one _ _)
      have HN := Lib.hid (new_col wr (allF C 4))
      have HBN := Lib.hid (below_new_col wr (allF C 4))
      have HO2 := Lib.hid hO
      have q3 : (k : Int) < 4 := by omega
      obtain ⟨M, hM⟩ : ∃ M, M = allF x (k * 4) := ⟨_, rfl⟩
      rw [← hM] at HO2 HNX
      have hMl : M.length ≤ 16 := by rw [hM, allF_length]; omega
      clear hO hnx hC hM
      have HO3 := Lib.hid (HO2.out.next HBN.out)
      go_wp2_with (at_builtin; refine wpList_append_own _ rfl _ _ 97 rfl w.heap.size 5 i0 (.int .u8 0) 1 1 Try.underlying97 hi hz0 hz1 hz2 rfl (by decide) _ _ _ rfl HO3.out.row ⟨wr.heap.size, 0, none⟩ 4 4 (bCells (allF C 4)) rfl ?c6 ?c1 ?c2 ?c3 ?c4 ?c5 ?_)
      case c6 => rw [bCells_length, allF_length]
      case c1 => rw [← valsK_toList]; exact World.news_of_block HN.out
      case c2 =>
        intro u hu
        obtain ⟨z, -, rfl⟩ := List.mem_map.1 hu
        rfl
      case c3 => unfold maxLen; omega
      case c4 => omega
      case c5 => exact HO3.out.below.size
      intro v' w3 hown' hgrow _
      rw [bCells_append, HNX.out] at hown'
      have hb1 : Below w.heap.size w w3 := HO3.out.below.grown hgrow HO3.out.below.size (fun g hg => (HO3.out.row.lt g hg).1)
      have hlen : (allF x ((k + 1) * 4)).length = M.length + 4 := by rw [← HNX.out, List.length_append, allF_length]
      have HO4 := Lib.hid (show Own w v' (allF x ((k + 1) * 4)) w3 from ⟨by rw [hlen]; exact hown', hb1⟩)
      clear hgrow hown' hb1 hlen
      go_wp2
      go_roundw
      case rel => exact ⟨k + 1, by omega, by go_num, HO4.out⟩
      case measure => simp [intOf]; omega
    · obtain rfl : k = 4 := by omega
      rw [show 4 * 4 = 16 from rfl, ← HL.out.1] at hO
      obtain ⟨g, cap, hv, hc⟩ := hO.back (by rw [HL.out.1, allF_length]; decide) (by
        intro c hc
        rw [HL.out.1] at hc
        obtain ⟨i, hi, rfl⟩ := List.mem_map.1 hc
        exact HX.out i (List.mem_range.1 hi))
      subst hv
      have HB := Lib.hid hO.below; clear hO
      go_wp2
      go_ret
      exact ⟨rfl, HB.out⟩

end Aes
end Go.Proofs.Ytedoggejbhbebaa
