/-
  Joined: Pc, Pd. Conditions: as each part says.
-/
import Derived.Test.YtedoggejbhbebaaJ32
import Derived.Test.YtedoggejbhbebaaJ28
import Derived.Lib.BufferWrite

/-
  Contracts of gcm.number and gcm.blockOf. Conditions: none.
-/
namespace Go.Proofs.Ytedoggejbhbebaa
namespace Gcm
open Go.ChangeShapes Go.WideShapes Go.ChangeAt Go.RowKit Go.Great Go.ChangeMaps
open Gf Aes
set_option linter.unusedVariables false
set_option maxRecDepth 100000

/-- The block that a text begins with, noughts behind it. -/
def padL (l : List Nat) : List Nat := l.take 16 ++ List.replicate (16 - (l.take 16).length) 0
theorem padL_length (l : List Nat) : (padL l).length = 16 := by rw [padL, List.length_append, List.length_replicate, List.length_take]; omega
theorem padL_small {l : List Nat} (h : Small l) : Small (padL l) := (h.take 16).append (small_zeros _)
theorem padL_full {l : List Nat} (h : l.length = 16) : padL l = l := by
  rw [padL, List.take_of_length_le (by omega), h]; simp
theorem padL_drop (l : List Nat) (k : Nat) (h : k < blocksOf l.length) : padL (l.drop (16 * k)) = blockAt (filledL l) k := by
  rw [blockAt_filled l k h]; rfl

theorem padL_short {l : List Nat} (h : l.length ≤ 16) : padL l = l ++ List.replicate (16 - l.length) 0 := by
  rw [padL, List.take_of_length_le h]
theorem padL_long {l : List Nat} (h : 16 ≤ l.length) : padL l = l.take 16 := by
  rw [padL, List.length_take, Nat.min_eq_left h]; simp

theorem run_copy_pad (ty T : TypeId) (X : World) (g : Nat) (b : ByteArray) (h : Wd .u8 T g (zerosN 16) X) :
    (Builtin.copy_ #[97, 9] ty #[.slice (some ⟨g, 0, none⟩) 16 16, .string b]).run Try.prog X = .ok (goInt (min b.size 16 : Nat)) (X.setRow g (valsK .u8 (padL (nums b)))) := by
  by_cases hs : b.size ≤ 16
  · have := Lib.run_copy_row_string (P := Try.prog) X 97 9 ty 5 g 0 16 16 b _ _ Try.underlying97 (by kernel_rfl) h hs (by rw [valsK_size, zerosN, List.length_replicate]; omega)
    rw [this, Nat.min_eq_left hs]
    congr 2
    apply Array.ext'
    rw [padL_short (by rw [nums_length]; exact hs), nums_length]
    simp only [List.take_zero, List.nil_append, Nat.zero_add, zerosN, valsK, List.map_append, List.map_replicate, List.drop_replicate, nums, Lib.byteCells, List.map_map]
    rfl
  · obtain ⟨i0, hi⟩ := info8
    have hmin : Nat.min b.size 16 = 16 := Nat.min_eq_right (by omega)
    have hl : List.take 16 (List.map (fun c : UInt8 => Value.int IntKind.u8 (c.toNat : Int)) b.data.toList) = (valsK .u8 (padL (nums b))).toList := by
      rw [padL_long (by rw [nums_length]; omega)]
      simp [valsK, nums]
      rfl
    have hst := storeOld X g T _ (valsK .u8 (padL (nums b))) h (by rw [valsK_size, valsK_size, padL_length]; rfl) (valsK_one _ _)
    rw [← hl] at hst
    rw [Nat.min_eq_right (by omega : 16 ≤ b.size)]
    simp [Builtin.copy_, run_underlying Try.underlying97, Builtin.lenOf, hmin, sizeOf, typeInfo, hi, Builtin.firstCells, Sem.run_bind, go_sem, hst]

theorem big_snoc_take (l : List Nat) (k x : Nat) (h : l[k]? = some x) : big (l.take (k + 1)) = big (l.take k) * 256 + x := by
  have hk : k < l.length := (List.getElem?_eq_some_iff.1 h).1
  have e : l.take (k + 1) = l.take k ++ [x] := by
    rw [List.take_add_one, h]; rfl
  rw [e, big_snoc]
theorem shl_byte {n : Nat} (h : n < 2 ^ 56) : IntKind.u64.wrap ((n : Int) * 256) = ((n * 256 : Nat) : Int) := by rw [IntKind.wrap_u64]; omega
theorem or_byte (n c : Nat) (hc : c < 256) : n * 256 ||| c = n * 256 + c := by
  have := Nat.two_pow_add_eq_or_of_lt (i := 8) (b := c) hc n
  rw [Nat.mul_comm n 256]
  exact this.symm

set_option maxHeartbeats 2000000 in
theorem number_any (g o c n : Nat) (l : List Nat) (w : World) (hl : l.length = n) (h8 : n ≤ 8) (hs : Small l) (hc : ∀ j x : Nat, l[j]? = some x → w.cell? ⟨g, o + j, none⟩ = some (.int .u8 (x : Nat))) :
    Calls Try.prog 76 #[.slice (some ⟨g, o, none⟩) n c] w fun e w' => e = .returned (.int .u64 (big l : Nat)) ∧ w' = w := by
  have HC := Lib.hid hc
  have HS := Lib.hid hs
  have HLn := Lib.hid hl
  clear hc hs hl
  go_enter Try.func76, Try.ntmps76
  go_wp2
  go_loopw [3, 8] (fun v i wr => ∃ k : Nat, k ≤ n ∧ i = .int .i64 (k : Nat) ∧ v = .int .u64 (big (l.take k) : Nat) ∧ wr = w) (fun _ i _ => n - (intOf i).toNat)
  case atStart => exact ⟨0, Nat.zero_le _, rfl, rfl, rfl⟩
  case round =>
    obtain ⟨k, hk, rfl, rfl, rfl⟩ := hrel
    by_cases hlt : k < n
    · obtain ⟨x, hx⟩ : ∃ x, l[k]? = some x := ⟨_, List.getElem?_eq_getElem (by rw [HLn.out]; exact hlt)⟩
      have hcell := HC.out k x hx
      have hxl : x < 256 := HS.out x (List.mem_of_getElem? hx)
      obtain ⟨v, hv⟩ : ∃ v, v = big (l.take k) := ⟨_, rfl⟩
      have hvl : v < 2 ^ 56 := by
        rw [hv]
        refine Nat.lt_of_lt_of_le (big_lt _ (HS.out.take k)) ?_
        rw [pow256]
        exact Nat.pow_le_pow_right (by decide) (by rw [List.length_take]; omega)
      obtain ⟨u, hu⟩ : ∃ u, u = v * 256 := ⟨_, rfl⟩
      obtain ⟨z, hz⟩ : ∃ z, z = big (l.take (k + 1)) := ⟨_, rfl⟩
      have hzu : u ||| x = z := by rw [hz, big_snoc_take l k x hx, ← hv, hu, or_byte v x hxl]
      have q1 := shl_byte hvl
      have q2 := bits_or_u64_nat u x (by omega) (by omega)
      have q3 : IntKind.u64.wrap (x : Int) = (x : Int) := by rw [IntKind.wrap_u64]; omega
      rw [← hu] at q1
      rw [hzu] at q2
      rw [← hv]
      have HZ := Lib.hid hz
      clear hx hv hvl hu hz hzu hxl
      go_wp2
      go_roundw
      case rel => exact ⟨k + 1, by omega, by go_num, by rw [HZ.out], trivial⟩
      case measure => simp [intOf]; omega
    · obtain rfl : k = n := by omega
      rw [List.take_of_length_le (by rw [HLn.out]; exact Nat.le_refl _)]
      obtain ⟨z, hz⟩ : ∃ z, z = big l := ⟨_, rfl⟩
      rw [← hz]
      go_wp2
      go_ret
      refine ⟨?_, rfl⟩
      rw [← hz]
      rfl

/-- The end's row, the copy's and the world behind. -/
structure Bo (w : World) (l : List Nat) (X : World) : Prop where
  hR : B2 w.heap.size 0 0 X
  hP : Wd .u8 115 (w.heap.size + 1) l X
  below : Below w.heap.size w X
theorem Bo.drew {w : World} {l : List Nat} {X : World} (h : Bo w l X) : Bo w l X.drew := ⟨h.hR, h.hP, h.below.drew⟩

theorem big_halves (l : List Nat) (h : l.length = 16) : big l = whole (big (l.take 8)) (big (l.drop 8)) := by
  have e : l = l.take 8 ++ l.drop 8 := (List.take_append_drop 8 l).symm
  conv => lhs; rw [e]
  rw [big_append, List.length_drop, h]
  rfl
theorem zero_row16 : (∀ w, (zeroValue 115).run Try.prog w = .ok (.agg (valsK .u8 (zerosN 16))) w) ∧ (Try.prog.info? 115).map (·.size) = some 16 :=
  zero_of_info (P := Try.prog) (t := 115) (v := .agg (valsK .u8 (zerosN 16))) (n := 16) (by kernel_rfl)

set_option maxHeartbeats 4000000 in
theorem blockOf_any (b : ByteArray) (w : World) :
    Calls Try.prog 62 #[.string b] w fun e w' => ∃ h l : Nat, h < 2 ^ 64 ∧ l < 2 ^ 64 ∧ whole h l = big (padL (nums b)) ∧ e = .returned (.agg #[.int .u64 (h : Nat), .int .u64 (l : Nat)]) ∧ Below w.heap.size w w' := by
  have hz := zero_row16.1
  have hne := zeros16_ne .u8
  obtain ⟨L, hL⟩ : ∃ L, L = padL (nums b) := ⟨_, rfl⟩
  have hLl : L.length = 16 := by rw [hL]; exact padL_length _
  have hLs : Small L := by rw [hL]; exact padL_small (nums_lt b)
  obtain ⟨h, hh⟩ : ∃ h, h = big (L.take 8) := ⟨_, rfl⟩
  obtain ⟨l, hl⟩ : ∃ l, l = big (L.drop 8) := ⟨_, rfl⟩
  have hhl : h < 2 ^ 64 := by
    have := big_lt (L.take 8) (hLs.take 8)
    rw [List.length_take, hLl] at this
    rw [hh]; exact this
  have hll : l < 2 ^ 64 := by
    have := big_lt (L.drop 8) (hLs.drop 8)
    rw [List.length_drop, hLl] at this
    rw [hl]; exact this
  have hw : whole h l = big L := by rw [big_halves L hLl, hh, hl]
  have hcp := run_copy_pad 3 115 ((w.alloc (.cells #[.int .u64 0, .int .u64 0] 82)).alloc (.cells (valsK .u8 (zerosN 16)) 115)) (w.heap.size + 1) b (second_new w _ _)
  rw [← hL] at hcp ⊢
  have hbo : Bo w L (((w.alloc (.cells #[.int .u64 0, .int .u64 0] 82)).alloc (.cells (valsK .u8 (zerosN 16)) 115)).setRow (w.heap.size + 1) (valsK .u8 L)) :=
    ⟨by unfold B2; rw [setRow_other _ _ _ _ (by omega)]; exact keepAlloc (heap_alloc_new w _) _, setRow_heap _ _ _ _ _ _ (second_new w _ _), below_setRow (below_alloc (below_alloc (Below.refl _ _) _) _) (by omega) _⟩
  have C1 : Hid (∀ (X : World) (c : Nat), Bo w L X → Calls Try.prog 76 #[.slice (some ⟨w.heap.size + 1, 0, none⟩) 8 c] X fun e w' => e = .returned (.int .u64 (h : Nat)) ∧ w' = X) := Lib.hid (fun X c hX => by
    rw [hh]
    exact number_any (w.heap.size + 1) 0 c 8 (L.take 8) X (by rw [List.length_take, hLl]; rfl) (by decide) (hLs.take 8) (fun j x hx => by
      rw [Nat.zero_add]
      exact hX.hP.cell (by rw [List.getElem?_take] at hx; split at hx; exact hx; cases hx)))
  have C2 : Hid (∀ (X : World) (c : Nat), Bo w L X → Calls Try.prog 76 #[.slice (some ⟨w.heap.size + 1, 8, none⟩) 8 c] X fun e w' => e = .returned (.int .u64 (l : Nat)) ∧ w' = X) := Lib.hid (fun X c hX => by
    rw [hl]
    exact number_any (w.heap.size + 1) 8 c 8 (L.drop 8) X (by rw [List.length_drop, hLl]) (by decide) (hLs.drop 8) (fun j x hx => by
      exact hX.hP.cell (by rw [List.getElem?_drop] at hx; exact hx)))
  have HW := Lib.hid (And.intro hhl (And.intro hll hw))
  have HBO := Lib.hid hbo
  clear hL hLl hLs hh hl hhl hll hw hbo
  go_enter Try.func62, Try.ntmps62
  go_wp2
  clear hcp hz hne
  generalize ((w.alloc (Obj.cells #[Value.int IntKind.u64 0, Value.int IntKind.u64 0] 82)).alloc (Obj.cells (valsK IntKind.u8 (zerosN 16)) 115)).setRow (w.heap.size + 1) (valsK IntKind.u8 L) = wq at *
  obtain ⟨s1, s2, s3, s4⟩ := HBO.out.hR.asks
  go_region_with (go_at_call 76; first | (with_reducible refine (C1.out _ _ HBO.out.drew).mono ?_; rintro e w3 ⟨rfl, rfl⟩) | (with_reducible refine (C2.out _ _ HBO.out.drew).mono ?_; rintro e w3 ⟨rfl, rfl⟩))
  go_wp2
  exact ret_blk rfl rfl (HBO.out.hR.put h l) ⟨h, l, HW.out.1, HW.out.2.1, HW.out.2.2, rfl, (below_put2 HBO.out.below (Nat.le_refl _) h l).drew⟩

end Gcm
end Go.Proofs.Ytedoggejbhbebaa

/-
  Contract of gcm.block.text. Conditions: the halves have 64 bits.
-/
namespace Go.Proofs.Ytedoggejbhbebaa
namespace Gcm
open Go.ChangeShapes Go.WideShapes Go.ChangeAt Go.RowKit Go.Great Go.ChangeMaps
open Gf Aes
set_option linter.unusedVariables false
set_option maxRecDepth 100000

/-- A number's block as a text. -/
def blockB (n : Nat) : ByteArray := toB (bytes 16 n)
theorem blockB_size (n : Nat) : (blockB n).size = 16 := by unfold blockB; rw [toB_size, bytes_length]
theorem nums_blockB (n : Nat) : nums (blockB n) = bytes 16 n := nums_toB _ (bytes_lt _ _)

/-- Byte i of the first half, byte i of the second. -/
def hiAt (h i : Nat) : Nat := h / 256 ^ (7 - i) % 256
theorem bytes_whole (h l : Nat) (hl : l < 2 ^ 64) : bytes 16 (whole h l) = bytes 8 h ++ bytes 8 l := by
  have e1 : bytes 8 (whole h l) = bytes 8 l := bytes_add 8 l h
  have e2 : ∀ k, bytes (k + 8) (whole h l) = bytes k h ++ bytes 8 l := by
    intro k
    induction k with
    | zero => rw [Nat.zero_add, e1]; rfl
    | succ k ih =>
      rw [show k + 1 + 8 = (k + 8) + 1 by omega, show bytes (k + 8 + 1) (whole h l) = whole h l / 256 ^ (k + 8) % 256 :: bytes (k + 8) (whole h l) from rfl, ih, show bytes (k + 1) h = h / 256 ^ k % 256 :: bytes k h from rfl, List.cons_append]
      congr 1
      have e3 : whole h l / 256 ^ (k + 8) = h / 256 ^ k := by
        unfold whole
        rw [Nat.pow_add, Nat.mul_comm (256 ^ k), ← Nat.div_div_eq_div_mul, show (256 : Nat) ^ 8 = 2 ^ 64 by decide, Nat.mul_comm h, Nat.mul_add_div (by decide), Nat.div_eq_of_lt hl, Nat.add_zero]
      rw [e3]
  exact e2 8

/-- The first k bytes of both halves. -/
def textTo (h l k : Nat) : List Nat := (List.range 16).map fun j => if j < 8 then (if j < k then hiAt h j else 0) else (if j - 8 < k then hiAt l (j - 8) else 0)
theorem textTo_length (h l k : Nat) : (textTo h l k).length = 16 := by simp [textTo]
theorem textTo_get (h l k j : Nat) (hj : j < 16) : (textTo h l k)[j]? = some (if j < 8 then (if j < k then hiAt h j else 0) else (if j - 8 < k then hiAt l (j - 8) else 0)) := by
  unfold textTo
  rw [List.getElem?_map, List.getElem?_range hj]
  rfl
theorem textTo_zero (h l : Nat) : textTo h l 0 = zerosN 16 := by
  simp [textTo, zerosN]
  decide
theorem textTo_next (h l k : Nat) (hk : k < 8) : ((textTo h l k).set k (hiAt h k)).set (8 + k) (hiAt l k) = textTo h l (k + 1) := by
  apply List.ext_getElem?
  intro j
  rw [List.getElem?_set, List.getElem?_set]
  by_cases hj : j < 16
  · rw [List.length_set, textTo_length, textTo_get _ _ _ _ hj, textTo_get _ _ _ _ hj]
    by_cases e1 : 8 + k = j
    · subst e1
      rw [if_pos rfl, if_pos (by omega), if_neg (by omega), if_pos (by omega), Nat.add_sub_cancel_left]
    · rw [if_neg e1]
      by_cases e2 : k = j
      · subst e2
        rw [if_pos rfl, if_pos (by omega), if_pos hk, if_pos (by omega)]
      · rw [if_neg e2]
        have h1 : (j < k + 1) = (j < k) := by apply propext; omega
        by_cases h8 : j < 8
        · simp only [h8, if_true, h1]
        · have h2 : (j - 8 < k + 1) = (j - 8 < k) := by apply propext; omega
          simp only [h8, if_false, h2]
  · rw [List.getElem?_eq_none (l := textTo h l k) (by rw [textTo_length]; omega), List.getElem?_eq_none (l := textTo h l (k + 1)) (by rw [textTo_length]; omega), List.length_set, textTo_length, if_neg (by omega)]
    rw [if_neg (by omega)] <;> omega
theorem textTo_all (h l : Nat) : textTo h l 8 = bytes 8 h ++ bytes 8 l := by
  apply List.ext_getElem?
  intro j
  by_cases hj : j < 16
  · rw [textTo_get _ _ _ _ hj]
    by_cases h8 : j < 8
    · rw [if_pos h8, if_pos h8, List.getElem?_append_left (by rw [bytes_length]; exact h8), bytes_get 8 h j h8]
      rfl
    · rw [if_neg h8, if_pos (by omega), List.getElem?_append_right (by rw [bytes_length]; omega), bytes_length, bytes_get 8 l (j - 8) (by omega)]
      rfl
  · rw [List.getElem?_eq_none (by rw [textTo_length]; omega), List.getElem?_eq_none (by rw [List.length_append, bytes_length, bytes_length]; omega)]

/-- The block that came in, and the bytes. -/
structure Te (w : World) (h l : Nat) (L : List Nat) (X : World) : Prop where
  hX : B2 w.heap.size h l X
  hP : Wd .u8 115 (w.heap.size + 1) L X
  below : Below w.heap.size w X
theorem Te.drew {w : World} {h l : Nat} {L : List Nat} {X : World} (t : Te w h l L X) : Te w h l L X.drew := ⟨t.hX, t.hP, t.below.drew⟩
theorem Te.step {w : World} {h l : Nat} {L : List Nat} {X : World} (t : Te w h l L X) (j v : Nat) : Te w h l (L.set j v) (X.setCell ⟨w.heap.size + 1, j, none⟩ (.int .u8 (v : Nat))) where
  hX := by unfold B2; rw [heap_setCell_other _ _ _ _ (by simp only []; omega)]; exact t.hX
  hP := t.hP.set j v
  below := t.below.setCell (by simp only []; omega) _

theorem row_text (X : World) (g : Nat) (l : List Nat) (h : Wd .u8 115 g l X) (hl : l.length = 16) (hs : Small l) (c : Nat) : (convert 97 9 (.slice (some ⟨g, 0, none⟩) 16 c)).run Try.prog X = .ok (.string (toB l)) X := by
  have e : 16 = (l.map UInt8.ofNat).length := by rw [List.length_map, hl]
  have h16 := run_convert_bytes_back (P := Try.prog) X 97 9 5 ⟨g, 0, none⟩ c (l.map UInt8.ofNat) Try.underlying97 Try.underlying5 Try.underlying9 (fun j hj => by
    have hj' : j < l.length := by rw [List.length_map] at hj; exact hj
    have hc := hs l[j] (List.getElem_mem hj')
    have := h.cell (List.getElem?_eq_getElem hj')
    have e : (⟨g, 0, none⟩ : Addr).add j = ⟨g, j, none⟩ := by unfold Addr.add; split <;> simp_all
    rw [e]
    simpa [Nat.mod_eq_of_lt hc] using this)
  rw [← e] at h16
  exact h16

set_option maxHeartbeats 4000000 in
theorem text_blk (h l : Nat) (w : World) (hh : h < 2 ^ 64) (hl : l < 2 ^ 64) :
    Calls Try.prog 65 #[.agg #[.int .u64 (h : Nat), .int .u64 (l : Nat)]] w fun e w' => e = .returned (.string (blockB (whole h l))) ∧ Below w.heap.size w w' := by
  have hz := zero_row16.1
  have hne := zeros16_ne .u8
  have ht : Te w h l (textTo h l 0) ((w.alloc (.cells #[.int .u64 (h : Nat), .int .u64 (l : Nat)] 82)).alloc (.cells (valsK .u8 (zerosN 16)) 115)) :=
    ⟨keepAlloc (heap_alloc_new w _) _, by rw [textTo_zero]; exact second_new w _ _, below_alloc (below_alloc (Below.refl _ _) _) _⟩
  have HT := Lib.hid ht
  have HL := Lib.hid (And.intro hh hl)
  clear ht hh hl
  go_enter Try.func65, Try.ntmps65
  go_wp2
  go_loopw [6] (fun i wr => ∃ k : Nat, k ≤ 8 ∧ i = .int .i64 (k : Nat) ∧ Te w h l (textTo h l k) wr) (fun i _ => 8 - (intOf i).toNat)
  case atStart => exact ⟨0, Nat.zero_le _, rfl, HT.out⟩
  case round =>
    obtain ⟨k, hk, rfl, hS⟩ := hrel
    by_cases hlt : k < 8
    · obtain ⟨f1, f2, _, _⟩ := hS.hX.asks
      obtain ⟨a, ha⟩ : ∃ a, a = hiAt h k := ⟨_, rfl⟩
      obtain ⟨b, hb⟩ : ∃ b, b = hiAt l k := ⟨_, rfl⟩
      obtain ⟨t, ht⟩ : ∃ t, t = 8 * k := ⟨_, rfl⟩
      obtain ⟨s, hs⟩ : ∃ s, s = 56 - t := ⟨_, rfl⟩
      obtain ⟨r, hr⟩ : ∃ r, r = 8 + k := ⟨_, rfl⟩
      have es : 256 ^ (7 - k) = 2 ^ s := by rw [pow256, hs, ht]; congr 1; omega
      obtain ⟨p, hp⟩ : ∃ p, p = h / 2 ^ s := ⟨_, rfl⟩
      obtain ⟨q, hq⟩ : ∃ q, q = l / 2 ^ s := ⟨_, rfl⟩
      have q1 : 8 * (k : Int) = (t : Int) := by omega
      have q2 : (56 : Int) - (t : Int) = (s : Int) := by omega
      have q3 : 8 + (k : Int) = (r : Int) := by omega
      have q4 : (r : Int) < 16 := by omega
      have q5 : (k : Int) < 16 := by omega
      have q6 : (h : Int) / 2 ^ s = (p : Int) := by rw [hp]; simp
      have q7 : (l : Int) / 2 ^ s = (q : Int) := by rw [hq]; simp
      have q8 : (p : Int) % 256 = (a : Int) := by rw [ha, hiAt, es, hp]; simp
      have q9 : (q : Int) % 256 = (b : Int) := by rw [hb, hiAt, es, hq]; simp
      have c1 := hS.hP.cell (textTo_get h l k k (by omega))
      have c2 := hS.hP.cell (textTo_get h l k r (by omega))
      have z1 := hS.hP.frozen k
      have z2 := hS.hP.frozen r
      have hst := (hS.step k a).step r b
      rw [ha, hb, hr, textTo_next h l k hlt, ← hr, ← ha, ← hb] at hst
      have HST := Lib.hid hst
      clear hst hS ha hb hs hr ht es hp hq
      clear hz hne
      go_wp2
      go_region
      go_wp2
      go_roundw
      case rel => exact ⟨k + 1, by omega, by go_num, HST.out.drew⟩
      case measure => simp [intOf]; omega
    · obtain rfl : k = 8 := by omega
      rw [textTo_all, ← bytes_whole h l HL.out.2] at hS
      have hb := row_text wr (w.heap.size + 1) (bytes 16 (whole h l)) hS.hP (bytes_length _ _) (bytes_lt _ _) 16
      have HB := Lib.hid hS.below
      clear hS
      go_wp2
      go_ret
      exact ⟨rfl, HB.out⟩

end Gcm
end Go.Proofs.Ytedoggejbhbebaa
