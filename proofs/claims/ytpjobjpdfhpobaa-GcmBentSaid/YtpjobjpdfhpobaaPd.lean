/-
  Contract of gcm.block.text. Conditions: the halves have 64 bits.
-/
import Derived.Test.YtpjobjpdfhpobaaPc
namespace Go.Proofs.Ytpjobjpdfhpobaa
namespace Gcm
open Go.ChangeShapes Go.WideShapes Go.ChangeAt Go.RowKit Go.Great Go.ChangeMaps
open Gf Aes
set_option linter.unusedVariables false
set_option maxRecDepth 100000

/-- A number's block as a text. -/
def blockB (n : Nat) : ByteArray := toB (bytes 16 n)
theorem blockB_size (n : Nat) : (blockB n).size = 16 := by unfold blockB; rw [toB_size, bytes_length]
theorem nums_blockB (n : Nat) : nums (blockB n) = bytes 16 n := nums_toB _ (bytes_lt _ _)

/-- Byte i of the first half, byte i of the second. -/
def hiAt (h i : Nat) : Nat := h / 256 ^ (7 - i) % 256
theorem bytes_whole (h l : Nat) (hl : l < 2 ^ 64) : bytes 16 (whole h l) = bytes 8 h ++ bytes 8 l := by
  have e1 : bytes 8 (whole h l) = bytes 8 l := bytes_add 8 l h
  have e2 : ∀ k, bytes (k + 8) (whole h l) = bytes k h ++ bytes 8 l := by
    intro k
    induction k with
    | zero => rw [Nat.zero_add, e1]; rfl
    | succ k ih =>
      rw [show k + 1 + 8 = (k + 8) + 1 by omega, show bytes (k + 8 + 1) (whole h l) = whole h l / 256 ^ (k + 8) % 256 :: bytes (k + 8) (whole h l) from rfl, ih, show bytes (k + 1) h = h / 256 ^ k % 256 :: bytes k h from rfl, List.cons_append]
      congr 1
      have e3 : whole h l / 256 ^ (k + 8) = h / 256 ^ k := by
        unfold whole
        rw [Nat.pow_add, Nat.mul_comm (256 ^ k), ← Nat.div_div_eq_div_mul, show (256 : Nat) ^ 8 = 2 ^ 64 by decide, Nat.mul_comm h, Nat.mul_add_div (by decide), Nat.div_eq_of_lt hl, Nat.add_zero]
      rw [e3]
  exact e2 8

/-- The first k bytes of both halves. -/
def textTo (h l k : Nat) : List Nat := (List.range 16).map fun j => if j < 8 then (if j < k then hiAt h j else 0) else (if j - 8 < k then hiAt l (j - 8) else 0)
theorem textTo_length (h l k : Nat) : (textTo h l k).length = 16 := by simp [textTo]
theorem textTo_get (h l k j : Nat) (hj : j < 16) : (textTo h l k)[j]? = some (if j < 8 then (if j < k then hiAt h j else 0) else (if j - 8 < k then hiAt l (j - 8) else 0)) := by
  unfold textTo
  rw [List.getElem?_map, List.getElem?_range hj]
  rfl
theorem textTo_zero (h l : Nat) : textTo h l 0 = zerosN 16 := by
  simp [textTo, zerosN]
  decide
theorem textTo_next (h l k : Nat) (hk : k < 8) : ((textTo h l k).set k (hiAt h k)).set (8 + k) (hiAt l k) = textTo h l (k + 1) := by
  apply List.ext_getElem?
  intro j
  rw [List.getElem?_set, List.getElem?_set]
  by_cases hj : j < 16
  · rw [List.length_set, textTo_length, textTo_get _ _ _ _ hj, textTo_get _ _ _ _ hj]
    by_cases e1 : 8 + k = j
    · subst e1
      rw [if_pos rfl, if_pos (by omega), if_neg (by omega), if_pos (by omega), Nat.add_sub_cancel_left]
    · rw [if_neg e1]
      by_cases e2 : k = j
      · subst e2
        rw [if_pos rfl, if_pos (by omega), if_pos hk, if_pos (by omega)]
      · rw [if_neg e2]
        have h1 : (j < k + 1) = (j < k) := by apply propext; omega
        by_cases h8 : j < 8
        · simp only [h8, if_true, h1]
        · have h2 : (j - 8 < k + 1) = (j - 8 < k) := by apply propext; omega
          simp only [h8, if_false, h2]
  · rw [List.getElem?_eq_none (l := textTo h l k) (by rw [textTo_length]; omega), List.getElem?_eq_none (l := textTo h l (k + 1)) (by rw [textTo_length]; omega), List.length_set, textTo_length, if_neg (by omega)]
    rw [if_neg (by omega)] <;> omega
theorem textTo_all (h l : Nat) : textTo h l 8 = bytes 8 h ++ bytes 8 l := by
  apply List.ext_getElem?
  intro j
  by_cases hj : j < 16
  · rw [textTo_get _ _ _ _ hj]
    by_cases h8 : j < 8
    · rw [if_pos h8, if_pos h8, List.getElem?_append_left (by rw [bytes_length]; exact h8), bytes_get 8 h j h8]
      rfl
    · rw [if_neg h8, if_pos (by omega), List.getElem?_append_right (by rw [bytes_length]; omega), bytes_length, bytes_get 8 l (j - 8) (by omega)]
      rfl
  · rw [List.getElem?_eq_none (by rw [textTo_length]; omega), List.getElem?_eq_none (by rw [List.length_append, bytes_length, bytes_length]; omega)]

/-- The block that came in, and the bytes. -/
structure Te (w : World) (h l : Nat) (L : List Nat) (X : World) : Prop where
  hX : B2 w.heap.size h l X
  hP : Wd .u8 22 (w.heap.size + 1) L X
  below : Below w.heap.size w X
theorem Te.drew {w : World} {h l : Nat} {L : List Nat} {X : World} (t : Te w h l L X) : Te w h l L X.drew := ⟨t.hX, t.hP, t.below.drew⟩
theorem Te.step {w : World} {h l : Nat} {L : List Nat} {X : World} (t : Te w h l L X) (j v : Nat) : Te w h l (L.set j v) (X.setCell ⟨w.heap.size + 1, j, none⟩ (.int .u8 (v : Nat))) where
  hX := by unfold B2; rw [heap_setCell_other _ _ _ _ (by simp only []; omega)]; exact t.hX
  hP := t.hP.set j v
  below := t.below.setCell (by simp only []; omega) _

theorem row_text (X : World) (g : Nat) (l : List Nat) (h : Wd .u8 22 g l X) (hl : l.length = 16) (hs : Small l) (c : Nat) : (convert 24 9 (.slice (some ⟨g, 0, none⟩) 16 c)).run Try.prog X = .ok (.string (toB l)) X := by
  have e : 16 = (l.map UInt8.ofNat).length := by rw [List.length_map, hl]
  have h16 := run_convert_bytes_back (P := Try.prog) X 24 9 5 ⟨g, 0, none⟩ c (l.map UInt8.ofNat) Try.underlying24 Try.underlying5 Try.underlying9 (fun j hj => by
    have hj' : j < l.length := by rw [List.length_map] at hj; exact hj
    have hc := hs l[j] (List.getElem_mem hj')
    have := h.cell (List.getElem?_eq_getElem hj')
    have e : (⟨g, 0, none⟩ : Addr).add j = ⟨g, j, none⟩ := by unfold Addr.add; split <;> simp_all
    rw [e]
    simpa [Nat.mod_eq_of_lt hc] using this)
  rw [← e] at h16
  exact h16

set_option maxHeartbeats 4000000 in
theorem text_blk (h l : Nat) (w : World) (hh : h < 2 ^ 64) (hl : l < 2 ^ 64) :
    Calls Try.prog 26 #[.agg #[.int .u64 (h : Nat), .int .u64 (l : Nat)]] w fun e w' => e = .returned (.string (blockB (whole h l))) ∧ Below w.heap.size w w' := by
  have hz := zero_row16.1
  have hne := zeros16_ne .u8
  have ht : Te w h l (textTo h l 0) ((w.alloc (.cells #[.int .u64 (h : Nat), .int .u64 (l : Nat)] 49)).alloc (.cells (valsK .u8 (zerosN 16)) 22)) :=
    ⟨keepAlloc (heap_alloc_new w _) _, by rw [textTo_zero]; exact second_new w _ _, below_alloc (below_alloc (Below.refl _ _) _) _⟩
  have HT := Lib.hid ht
  have HL := Lib.hid (And.intro hh hl)
  clear ht hh hl
  go_enter Try.func26, Try.ntmps26
  go_wp2
  go_loopw [6] (fun i wr => ∃ k : Nat, k ≤ 8 ∧ i = .int .i64 (k : Nat) ∧ Te w h l (textTo h l k) wr) (fun i _ => 8 - (intOf i).toNat)
  case atStart => exact ⟨0, Nat.zero_le _, rfl, HT.out⟩
  case round =>
    obtain ⟨k, hk, rfl, hS⟩ := hrel
    by_cases hlt : k < 8
    · obtain ⟨f1, f2, _, _⟩ := hS.hX.asks
      obtain ⟨a, ha⟩ : ∃ a, a = hiAt h k := ⟨_, rfl⟩
      obtain ⟨b, hb⟩ : ∃ b, b = hiAt l k := ⟨_, rfl⟩
      obtain ⟨t, ht⟩ : ∃ t, t = 8 * k := ⟨_, rfl⟩
      obtain ⟨s, hs⟩ : ∃ s, s = 56 - t := ⟨_, rfl⟩
      obtain ⟨r, hr⟩ : ∃ r, r = 8 + k := ⟨_, rfl⟩
      have es : 256 ^ (7 - k) = 2 ^ s := by rw [pow256, hs, ht]; congr 1; omega
      obtain ⟨p, hp⟩ : ∃ p, p = h / 2 ^ s := ⟨_, rfl⟩
      obtain ⟨q, hq⟩ : ∃ q, q = l / 2 ^ s := ⟨_, rfl⟩
      have q1 : 8 * (k : Int) = (t : Int) := by omega
      have q2 : (56 : Int) - (t : Int) = (s : Int) := by omega
      have q3 : 8 + (k : Int) = (r : Int) := by omega
      have q4 : (r : Int) < 16 := by omega
      have q5 : (k : Int) < 16 := by omega
      have q6 : (h : Int) / 2 ^ s = (p : Int) := by rw [hp]; simp
      have q7 : (l : Int) / 2 ^ s = (q : Int) := by rw [hq]; simp
      have q8 : (p : Int) % 256 = (a : Int) := by rw [ha, hiAt, es, hp]; simp
      have q9 : (q : Int) % 256 = (b : Int) := by rw [hb, hiAt, es, hq]; simp
      have c1 := hS.hP.cell (textTo_get h l k k (by omega))
      have c2 := hS.hP.cell (textTo_get h l k r (by omega))
      have z1 := hS.hP.frozen k
      have z2 := hS.hP.frozen r
      have hst := (hS.step k a).step r b
      rw [ha, hb, hr, textTo_next h l k hlt, ← hr, ← ha, ← hb] at hst
      have HST := Lib.hid hst
      clear hst hS ha hb hs hr ht es hp hq
      clear hz hne
      go_wp2
      go_region
      go_wp2
      go_roundw
      case rel => exact ⟨k + 1, by omega, by go_num, HST.out.drew⟩
      case measure => simp [intOf]; omega
    · obtain rfl : k = 8 := by omega
      rw [textTo_all, ← bytes_whole h l HL.out.2] at hS
      have hb := row_text wr (w.heap.size + 1) (bytes 16 (whole h l)) hS.hP (bytes_length _ _) (bytes_lt _ _) 16
      have HB := Lib.hid hS.below
      clear hS
      go_wp2
      go_ret
      exact ⟨rfl, HB.out⟩

end Gcm
end Go.Proofs.Ytpjobjpdfhpobaa
