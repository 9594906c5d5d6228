/-
  Joined: Kb. Conditions: as each part says.
-/
import Derived.Test.YtedoggejbhbebaaJ1
import Derived.Test.YtedoggejbhbebaaJ5
import Derived.Test.YtedoggejbhbebaaJ6

/-
  Contracts of engine.fresh and engine.numberOf. Conditions: the length is at most 2^30 bytes.
-/
namespace Go.Proofs.Ytedoggejbhbebaa
namespace Eng
open Go.ChangeShapes Go.WideShapes Go.ChangeAt Go.RowKit Go.Great
open Gf Aes Gcm
set_option linter.unusedVariables false
set_option maxRecDepth 100000

theorem infoByteE : (Try.prog.info? 5).map (fun i => (i.zero, i.size, i.bytes)) = some (some (.int .u8 0), 1, 1) := by kernel_rfl

/-- Bytes as a text. -/
def toE (l : List Nat) : ByteArray := ⟨(l.map UInt8.ofNat).toArray⟩
theorem toE_size (l : List Nat) : (toE l).size = l.length := by
  show (l.map UInt8.ofNat).toArray.size = _
  simp

/-- A row of bytes in block g, made since w. -/
structure Rw (w : World) (g : Nat) (l : List Nat) (X : World) : Prop where
  cell : ∀ j x : Nat, l[j]? = some x → X.cell? ⟨g, j, none⟩ = some (.int .u8 (x : Nat))
  frozen : ∀ j : Nat, j < l.length → X.frozen? ⟨g, j, none⟩ = false
  far : w.heap.size ≤ g
  lt : g < X.heap.size
  below : Below w.heap.size w X
theorem Rw.drew {w X : World} {g : Nat} {l : List Nat} (h : Rw w g l X) : Rw w g l X.drew := ⟨h.cell, h.frozen, h.far, h.lt, h.below.drew⟩
theorem Rw.set {w X : World} {g : Nat} {l : List Nat} (h : Rw w g l X) {j : Nat} (hj : j < l.length) (v : Nat) : Rw w g (l.set j v) (X.setCell ⟨g, j, none⟩ (.int .u8 (v : Nat))) where
  cell i x hx := by
    rw [List.getElem?_set] at hx
    by_cases e : j = i
    · subst e
      rw [if_pos rfl, if_pos hj] at hx
      injection hx with hx
      subst hx
      obtain ⟨y, hy⟩ : ∃ y, l[j]? = some y := ⟨_, List.getElem?_eq_getElem hj⟩
      exact World.cell?_setCell_same _ _ _ (h.cell j y hy)
    · rw [if_neg e] at hx
      rw [World.cell?_setCell_other _ _ _ _ (fun he => e (by injection he))]
      exact h.cell i x hx
  frozen i hi := by
    rw [List.length_set] at hi
    rw [World.frozen?_setCell]
    exact h.frozen i hi
  far := h.far
  lt := by simpa using h.lt
  below := h.below.setCell (by simp only []; exact h.far) _
/-- What make gives. -/
theorem make_rowE (n : Nat) (hn : n ≤ 1073741824) (X : World) :
    (Instr.makeSlice 97 (.int .i64 (n : Nat)) (.int .i64 (n : Nat))).run Try.prog X = .ok (.slice (some ⟨X.heap.size, 0, none⟩) n n) (X.alloc (.cells (valsK .u8 (List.replicate n 0)) 5)) := by
  obtain ⟨i0, hi, hz0, hz1, hz2⟩ := info_parts infoByteE
  have h := run_make (P := Try.prog) X 97 5 i0 (.int .u8 0) Try.underlying97 hi hz0 .i64 .i64 (n : Int) (n : Int) (by omega) (Int.le_refl _) (by rw [hz2]; omega) (by omega)
  rw [h, hz1, Int.toNat_natCast, Nat.mul_one]
  congr 3
  apply Array.ext'
  rw [show (Value.int .u8 0).cells = #[.int .u8 0] from rfl, toList_madeCells_one]
  simp [valsK]
theorem rw_madeE (w X : World) (l : List Nat) (hb : Below w.heap.size w X) : Rw w X.heap.size l (X.alloc (.cells (valsK .u8 l) 5)) :=
  have hr := heap_alloc_new X (.cells (valsK .u8 l) 5)
  ⟨fun j x h => Wd.cell (T := 5) hr h, fun j h => Wd.frozen (T := 5) hr j, hb.size, by rw [alloc_size]; exact Nat.lt_succ_self _, below_alloc hb _⟩
/-- What string(b) reads. -/
theorem Rw.back {w X : World} {g : Nat} {l : List Nat} (h : Rw w g l X) (hs : ∀ c ∈ l, c < 256) (n c : Nat) (hn : l.length = n) : (convert 97 9 (.slice (some ⟨g, 0, none⟩) n c)).run Try.prog X = .ok (.string (toE l)) X := by
  have e : n = (l.map UInt8.ofNat).length := by rw [List.length_map, hn]
  have h16 := run_convert_bytes_back (P := Try.prog) X 97 9 5 ⟨g, 0, none⟩ c (l.map UInt8.ofNat) Try.underlying97 Try.underlying5 Try.underlying9 (fun j hj => by
    have hj' : j < l.length := by rw [List.length_map] at hj; exact hj
    have hc := hs l[j] (List.getElem_mem hj')
    have := h.cell j _ (List.getElem?_eq_getElem hj')
    have e : (⟨g, 0, none⟩ : Addr).add j = ⟨g, j, none⟩ := by unfold Addr.add; split <;> simp_all
    rw [e]
    simpa [Nat.mod_eq_of_lt hc] using this)
  rw [← e] at h16
  exact h16

set_option maxHeartbeats 1000000 in
theorem fresh_any (n size : Nat) (w : World) (hn : n < 256 ^ 8) (hs : size ≤ 1073741824) :
    Calls Try.prog 117 #[.int .u64 (n : Nat), .int .i64 (size : Nat)] w fun e w' => e = .returned (.string (toE (freshL n size))) ∧ Below w.heap.size w w' := by
  have hmk := make_rowE size hs w
  have HR := Lib.hid (show Rw w w.heap.size (fillTo n size 0) (w.alloc (.cells (valsK .u8 (List.replicate size 0)) 5)) from rw_madeE w w _ (Below.refl _ _))
  obtain ⟨W, hW⟩ : ∃ W, W = w.alloc (.cells (valsK .u8 (List.replicate size 0)) 5) := ⟨_, rfl⟩
  rw [← hW] at hmk HR
  have HN := Lib.hid hn
  clear hW hn
  go_enter Try.func117, Try.ntmps117
  go_wp2
  clear hmk
  go_loopw [11] (fun x wr => ∃ k : Nat, k ≤ size ∧ x = .int .i64 (k : Nat) ∧ Rw w w.heap.size (fillTo n size k) wr) (fun x _ => size - (intOf x).toNat)
  case atStart => exact ⟨0, Nat.zero_le _, rfl, HR.out⟩
  case round =>
    obtain ⟨k, hk, rfl, hQ⟩ := hrel
    clear HR
    by_cases hlt : k < size
    · have hf := hQ.frozen k (by rw [fillTo_length _ _ _ hk]; exact hlt)
      obtain ⟨x, hc⟩ : ∃ x : Nat, wr.cell? ⟨w.heap.size, k, none⟩ = some (.int .u8 (x : Nat)) := by
        have hl : k < (fillTo n size k).length := by rw [fillTo_length _ _ _ hk]; exact hlt
        exact ⟨_, hQ.cell k _ (List.getElem?_eq_getElem hl)⟩
      obtain ⟨q, hq⟩ : ∃ q, q = k % 8 := ⟨_, rfl⟩
      have hq8 : q < 8 := by omega
      have q1 : Int.tmod (k : Int) 8 = (q : Int) := by rw [Int.tmod_eq_emod_of_nonneg (by omega)]; omega
      have q2 : (k : Int) % 8 = (q : Int) := by omega
      have HS := Lib.hid (show Rw w w.heap.size (fillTo n size (k + 1)) (wr.setCell ⟨w.heap.size, k, none⟩ (.int .u8 ((n / 256 ^ (7 - q) % 256 : Nat) : Nat))) by rw [hq, ← fillTo_step n size k hlt]; exact hQ.set (by rw [fillTo_length _ _ _ hk]; exact hlt) _)
      clear hQ hq
      go_wp2
      have he : ((n : Int) / 2 ^ (8 * (7 - q)) % 256) = ((n / 256 ^ (7 - q) % 256 : Nat) : Int) := by rw [pow256]; push_cast; rfl
      exact ⟨⟨k + 1, by omega, by simp, by rw [he]; exact HS.out⟩, by simp [intOf]; omega⟩
    · obtain rfl : k = size := by omega
      rw [fillTo_all] at hQ
      have hb := Rw.back hQ (freshL_lt n k) k k (freshL_length n k)
      have HB := Lib.hid hQ.below
      clear hQ
      go_wp2
      go_ret
      exact ⟨rfl, HB.out⟩

/-- A text's bytes. -/
def numsE (b : ByteArray) : List Nat := b.data.toList.map UInt8.toNat
theorem numsE_length (b : ByteArray) : (numsE b).length = b.size := by simp [numsE]
theorem numsE_get (b : ByteArray) (k : Nat) (h : k < b.size) : (numsE b)[k]? = some b[k].toNat := by
  unfold numsE
  rw [List.getElem?_map, List.getElem?_eq_getElem (by simpa using h)]
  rfl
theorem numsE_lt (b : ByteArray) : ∀ c ∈ numsE b, c < 256 := by
  intro c hc
  obtain ⟨z, -, rfl⟩ := List.mem_map.1 hc
  exact z.toNat_lt
theorem numsE_toE (l : List Nat) (h : ∀ c ∈ l, c < 256) : numsE (toE l) = l := by
  show ((l.map UInt8.ofNat).map UInt8.toNat) = l
  rw [List.map_map, List.map_congr_left (g := id), List.map_id]
  intro z hz
  simp [Nat.mod_eq_of_lt (h z hz)]
theorem toE_inj {l m : List Nat} (hl : ∀ c ∈ l, c < 256) (hm : ∀ c ∈ m, c < 256) (h : toE l = toE m) : l = m := by
  rw [← numsE_toE l hl, ← numsE_toE m hm, h]

theorem big_snoc_take (l : List Nat) (k x : Nat) (h : l[k]? = some x) : big (l.take (k + 1)) = big (l.take k) * 256 + x := by
  have hk : k < l.length := (List.getElem?_eq_some_iff.1 h).1
  have e : l.take (k + 1) = l.take k ++ [x] := by
    rw [List.take_add_one, h]; rfl
  rw [e, big_snoc]
theorem shl_byte {n : Nat} (h : n < 2 ^ 56) : IntKind.u64.wrap ((n : Int) * 256) = ((n * 256 : Nat) : Int) := by rw [IntKind.wrap_u64]; omega
theorem or_byte (n c : Nat) (hc : c < 256) : n * 256 ||| c = n * 256 + c := by
  have := Nat.two_pow_add_eq_or_of_lt (i := 8) (b := c) hc n
  rw [Nat.mul_comm n 256]
  exact this.symm

/-- The number that a text begins with, or 0. -/
def numOf (b : ByteArray) : Nat := if b.size < 8 then 0 else big ((numsE b).take 8)
theorem numOf_lt (b : ByteArray) : numOf b < 256 ^ 8 := by
  unfold numOf
  split
  · decide
  · refine Nat.lt_of_lt_of_le (big_lt _ (fun c hc => numsE_lt b c (List.mem_of_mem_take hc))) (Nat.pow_le_pow_right (by decide) ?_)
    rw [List.length_take]; omega
/-- Fresh bytes tell their number. -/
theorem numOf_fresh (n size : Nat) (hn : n < 256 ^ 8) (hs : 8 ≤ size) : numOf (toE (freshL n size)) = n := by
  unfold numOf
  rw [if_neg (by rw [toE_size, freshL_length]; omega), numsE_toE _ (freshL_lt n size), freshL_take n size hs, big_bytes hn]

set_option maxHeartbeats 1000000 in
theorem number_any (b : ByteArray) (w : World) :
    Calls Try.prog 119 #[.string b] w fun e w' => e = .returned (.int .u64 (numOf b : Nat)) ∧ w' = w := by
  by_cases h8 : b.size < 8
  · have h : numOf b = 0 := if_pos h8
    rw [h]
    have g1 : decide ((b.size : Int) < 8) = true := by simp; omega
    clear h h8
    go_enter Try.func119, Try.ntmps119
    go_wp2
    go_ret
    exact ⟨rfl, rfl⟩
  · have h : numOf b = big ((numsE b).take 8) := if_neg h8
    rw [h]
    have g1 : decide ((b.size : Int) < 8) = false := by simp; omega
    clear h
    have H8 := Lib.hid h8
    clear h8
    go_enter Try.func119, Try.ntmps119
    go_wp2
    go_loopw [3, 8] (fun v i wr => ∃ k : Nat, k ≤ 8 ∧ i = .int .i64 (k : Nat) ∧ v = .int .u64 (big ((numsE b).take k) : Nat) ∧ wr = w) (fun _ i _ => 8 - (intOf i).toNat)
    case atStart => exact ⟨0, Nat.zero_le _, rfl, rfl, rfl⟩
    case round =>
      obtain ⟨k, hk, rfl, rfl, rfl⟩ := hrel
      by_cases hlt : k < 8
      · have hkb : k < b.size := by have := H8.out; omega
        obtain ⟨x, hx⟩ : ∃ x, x = b[k].toNat := ⟨_, rfl⟩
        have hxe : (numsE b)[k]? = some x := by rw [numsE_get b k hkb, hx]
        have xa : (b[k].toNat : Int) = (x : Int) := by rw [hx]
        have hxl : x < 256 := numsE_lt b x (List.mem_of_getElem? hxe)
        obtain ⟨v, hv⟩ : ∃ v, v = big ((numsE b).take k) := ⟨_, rfl⟩
        have hvl : v < 2 ^ 56 := by
          rw [hv]
          refine Nat.lt_of_lt_of_le (big_lt _ (fun c hc => numsE_lt b c (List.mem_of_mem_take hc))) ?_
          rw [pow256]
          exact Nat.pow_le_pow_right (by decide) (by rw [List.length_take]; omega)
        obtain ⟨u, hu⟩ : ∃ u, u = v * 256 := ⟨_, rfl⟩
        obtain ⟨z, hz⟩ : ∃ z, z = big ((numsE b).take (k + 1)) := ⟨_, rfl⟩
        have hzu : u ||| x = z := by rw [hz, big_snoc_take _ k x hxe, ← hv, hu, or_byte v x hxl]
        have q1 := shl_byte hvl
        have q2 := bits_or_u64_nat u x (by omega) (by omega)
        have q3 : IntKind.u64.wrap (x : Int) = (x : Int) := by rw [IntKind.wrap_u64]; omega
        rw [← hu] at q1
        rw [hzu] at q2
        rw [← hv]
        have HZ := Lib.hid hz
        clear hx hxe hv hvl hu hz hzu hxl
        go_wp2
        go_roundw
        case rel => exact ⟨k + 1, by omega, by simp, by rw [HZ.out], trivial⟩
        case measure => simp [intOf]; omega
      · obtain rfl : k = 8 := by omega
        go_wp2
        go_ret
        exact ⟨rfl, rfl⟩
end Eng
end Go.Proofs.Ytedoggejbhbebaa
