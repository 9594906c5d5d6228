/-
  Slices of bytes that grow by append; contract of aes.block.text. Conditions: the numbers are bytes.
-/
import Derived.Test.YtpjobjpdfhpobaaBf
import Derived.ChangeMaps5
import Derived.Deep.AppendLies
namespace Go.Proofs.Ytpjobjpdfhpobaa
namespace Aes
open Go.ChangeShapes Go.WideShapes Go.ChangeAt Go.RowKit Go.Great Go.ChangeMaps
open Gf
set_option linter.unusedVariables false
set_option maxRecDepth 100000

theorem infoByte : (Try.prog.info? 5).map (fun i => (i.zero, i.size, i.bytes)) = some (some (.int .u8 0), 1, 1) := by kernel_rfl

/-- Bytes as a text. -/
def toB (l : List Nat) : ByteArray := ⟨(l.map UInt8.ofNat).toArray⟩
theorem nums_toB (l : List Nat) (h : ∀ c ∈ l, c < 256) : nums (toB l) = l := by
  show ((l.map UInt8.ofNat).map UInt8.toNat) = l
  rw [List.map_map, List.map_congr_left (g := id), List.map_id]
  intro z hz
  simp [Nat.mod_eq_of_lt (h z hz)]
theorem toB_size (l : List Nat) : (toB l).size = l.length := by
  show (l.map UInt8.ofNat).toArray.size = _
  simp
theorem toB_nums (b : ByteArray) : toB (nums b) = b := by
  apply ByteArray.ext
  show ((b.data.toList.map UInt8.toNat).map UInt8.ofNat).toArray = b.data
  rw [List.map_map, List.map_congr_left (g := id), List.map_id]
  intro z _
  simp

/-- Bytes as cells. -/
def bCells (l : List Nat) : List Value := l.map fun (n : Nat) => Value.int .u8 (n : Int)
theorem bCells_append (l m : List Nat) : bCells l ++ bCells m = bCells (l ++ m) := by simp [bCells]
theorem bCells_length (l : List Nat) : (bCells l).length = l.length := by simp [bCells]
theorem valsK_toList (l : List Nat) : (valsK .u8 l).toList = bCells l := by
  simp [valsK, bCells]

/-- A slice of bytes of the function's own. -/
structure Own (w : World) (v : Value) (l : List Nat) (X : World) : Prop where
  row : X.ownsRow w.heap.size 5 1 v l.length (bCells l)
  below : Below w.heap.size w X

theorem own_below {B k n : Nat} {e : TypeId} {v : Value} {xs : List Value} {w w' : World} (h : w.ownsRow B e k v n xs) (hb : Below w.heap.size w w') : w'.ownsRow B e k v n xs := by
  obtain ⟨hl, h | ⟨g, cap, cur, hv, hg, hc, r⟩⟩ := h
  · exact ⟨hl, .inl h⟩
  · exact ⟨hl, .inr ⟨g, cap, cur, hv, hg, keepBlock hc hb, r⟩⟩
theorem Own.next {w X Y : World} {v : Value} {l : List Nat} (h : Own w v l X) (hb : Below X.heap.size X Y) : Own w v l Y := ⟨own_below h.row hb, below_link h.below hb⟩

theorem Own.back {w X : World} {v : Value} {l : List Nat} (h : Own w v l X) (h0 : 0 < l.length) (hl : ∀ c ∈ l, c < 256) :
    ∃ g cap, v = .slice (some ⟨g, 0, none⟩) l.length cap ∧ (convert 24 9 v).run Try.prog X = .ok (.string (toB l)) X := by
  obtain ⟨hx, h1 | ⟨g, cap, cur, hv, -, hc, hle, -, hs, ht⟩⟩ := h.row
  · omega
  refine ⟨g, cap, hv, ?_⟩
  rw [hv]
  have e : l.length = (l.map UInt8.ofNat).length := by rw [List.length_map]
  have hrow := h.row
  rw [hv] at hrow
  rw [e]
  refine run_convert_bytes_back X 24 9 5 _ cap (l.map UInt8.ofNat) Try.underlying24 Try.underlying5 Try.underlying9 fun j hj => ?_
  have hj' : j < l.length := by rw [List.length_map] at hj; exact hj
  rw [hrow.cells (g := g) rfl j (.int .u8 ((l[j] : Nat) : Int)) (by simp [bCells, hj'])]
  have hc := hl l[j] (List.getElem_mem hj')
  simp [Nat.mod_eq_of_lt hc]

/-- The first k columns. -/
def firstC (x : Nat → Nat) (k : Nat) : List Nat := (allF x 16).take (k * 4)
theorem allF_add (x : Nat → Nat) (m n : Nat) : allF x (m + n) = allF x m ++ allF (fun i => x (m + i)) n := by
  unfold allF
  rw [List.range_add, List.map_append, List.map_map]
  rfl
theorem take_allF (x : Nat → Nat) (m n : Nat) (h : m ≤ n) : (allF x n).take m = allF x m := by
  obtain ⟨k, rfl⟩ := Nat.exists_eq_add_of_le h
  rw [allF_add, List.take_append_of_le_length (by rw [allF_length]; exact Nat.le_refl _), List.take_of_length_le (by rw [allF_length]; exact Nat.le_refl _)]

set_option maxHeartbeats 4000000 in
theorem text_any (x : Nat → Nat) (w : World) (hx : ∀ i < 16, x i < 256) :
    Calls Try.prog 57 #[.agg (valsK .u8 (allF x 16))] w fun e w' => e = .returned (.string (toB (allF x 16))) ∧ Below w.heap.size w w' := by
  obtain ⟨i0, hi, hz0, hz1, hz2⟩ := info_parts infoByte
  have hz4 := zero4.1
  have hne4 := zeros4_ne .u8
  have HX := Lib.hid hx
  clear hx
  obtain ⟨L, hL⟩ : ∃ L, L = allF x 16 := ⟨_, rfl⟩
  have HL := Lib.hid (show L = allF x 16 ∧ (valsK .u8 L).size = 16 from ⟨hL, by rw [valsK_size, hL, allF_length]⟩)
  rw [← hL]
  clear hL
  go_enter Try.func57, Try.ntmps57
  go_wp2_with (first | (at_make; refine wpList_make_own _ rfl _ _ 24 rfl w.heap.size 5 i0 (.int .u8 0) 1 Try.underlying24 hi hz0 hz1 _ _ _ 16 rfl rfl rfl (by rw [hz2]; omega) (by unfold maxLen; omega) (by simp) ?_; intro w2 hown hgrow; have hb2 : Below (w.alloc (.cells (valsK .u8 L) 85)).heap.size (w.alloc (.cells (valsK .u8 L) 85)) w2 := (Below.refl _ _).grown hgrow (Nat.le_refl _) (fun k hk => by cases hk); have hrow : Wd .u8 85 w.heap.size L w2 := keepBlock (heap_alloc_new w _) hb2; have hO : Own w (.slice (some ⟨(w.alloc (.cells (valsK .u8 L) 85)).heap.size, 0, none⟩) 0 16) [] w2 := ⟨hown, below_link ((Below.refl _ _).alloc (Nat.le_refl _) _) hb2⟩; rw [alloc_size] at hO; have HO := Lib.hid hO; have HROW := Lib.hid hrow; clear hown hgrow hb2 hrow hO) | (refine load_whole (by rfl) 85 _ (by rfl) _ (by rfl) L ?_ under16 ?_ ?_; exact HROW.out; (rw [HL.out.2]; exact zero16.2)))
  go_loopw [3, 8] (fun v i wr => ∃ k : Nat, k ≤ 4 ∧ i = .int .i64 (k : Nat) ∧ Own w v (allF x (k * 4)) wr) (fun _ i _ => 4 - (intOf i).toNat)
  case atStart => exact ⟨0, Nat.zero_le _, rfl, HO.out⟩
  case round =>
    obtain ⟨k, hk, rfl, hO⟩ := hrel
    by_cases hlt : k < 4
    · obtain ⟨C, hC⟩ : ∃ C : Nat → Nat, C = fun i => x (k * 4 + i) := ⟨_, rfl⟩
      have hidx : ∀ X, (Instr.index 85 (.agg (valsK .u8 L)) (.int .i64 (k : Int))).run Try.prog X = .ok (.agg (valsK .u8 (allF C 4))) X := by
        intro X
        rw [HL.out.1, hC]
        exact idx_col X x k hlt
      have hnx : allF x (k * 4) ++ allF C 4 = allF x ((k + 1) * 4) := by rw [hC, ← allF_add]; congr 1; omega
      have HNX := Lib.hid hnx
      have HSZ := Lib.hid (show (valsK .u8 (allF C 4)).size = 4 by rw [valsK_size, allF_length])
      have st := storeOld (wr.alloc (.cells (valsK .u8 (zerosN 4)) 74)) wr.heap.size 74 (valsK .u8 (zerosN 4)) (valsK .u8 (allF C 4)) (heap_alloc_new wr _) (by rw [HSZ.out, valsK_size]; rfl) (valsK_one _ _)
      have HN := Lib.hid (new_col wr (allF C 4))
      have HBN := Lib.hid (below_new_col wr (allF C 4))
      have HO2 := Lib.hid hO
      have q3 : (k : Int) < 4 := by omega
      obtain ⟨M, hM⟩ : ∃ M, M = allF x (k * 4) := ⟨_, rfl⟩
      rw [← hM] at HO2 HNX
      have hMl : M.length ≤ 16 := by rw [hM, allF_length]; omega
      clear hO hnx hC hM
      have HO3 := Lib.hid (HO2.out.next HBN.out)
      go_wp2_with (at_builtin; refine wpList_append_own _ rfl _ _ 24 rfl w.heap.size 5 i0 (.int .u8 0) 1 1 Try.underlying24 hi hz0 hz1 hz2 rfl (by decide) _ _ _ rfl HO3.out.row ⟨wr.heap.size, 0, none⟩ 4 4 (bCells (allF C 4)) rfl ?c6 ?c1 ?c2 ?c3 ?c4 ?c5 ?_)
      case c6 => rw [bCells_length, allF_length]
      case c1 => rw [← valsK_toList]; exact World.news_of_block HN.out
      case c2 =>
        intro u hu
        obtain ⟨z, -, rfl⟩ := List.mem_map.1 hu
        rfl
      case c3 => unfold maxLen; omega
      case c4 => omega
      case c5 => exact HO3.out.below.size
      intro v' w3 hown' hgrow _
      rw [bCells_append, HNX.out] at hown'
      have hb1 : Below w.heap.size w w3 := HO3.out.below.grown hgrow HO3.out.below.size (fun g hg => (HO3.out.row.lt g hg).1)
      have hlen : (allF x ((k + 1) * 4)).length = M.length + 4 := by rw [← HNX.out, List.length_append, allF_length]
      have HO4 := Lib.hid (show Own w v' (allF x ((k + 1) * 4)) w3 from ⟨by rw [hlen]; exact hown', hb1⟩)
      clear hgrow hown' hb1 hlen
      go_wp2
      go_roundw
      case rel => exact ⟨k + 1, by omega, by go_num, HO4.out⟩
      case measure => simp [intOf]; omega
    · obtain rfl : k = 4 := by omega
      rw [show 4 * 4 = 16 from rfl, ← HL.out.1] at hO
      obtain ⟨g, cap, hv, hc⟩ := hO.back (by rw [HL.out.1, allF_length]; decide) (by
        intro c hc
        rw [HL.out.1] at hc
        obtain ⟨i, hi, rfl⟩ := List.mem_map.1 hc
        exact HX.out i (List.mem_range.1 hi))
      subst hv
      have HB := Lib.hid hO.below; clear hO
      go_wp2
      go_ret
      exact ⟨rfl, HB.out⟩

end Aes
end Go.Proofs.Ytpjobjpdfhpobaa
