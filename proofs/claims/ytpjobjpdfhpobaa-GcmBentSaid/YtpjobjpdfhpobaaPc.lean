/-
  Contracts of gcm.number and gcm.blockOf. Conditions: none.
-/
import Derived.Test.YtpjobjpdfhpobaaPb
import Derived.Test.YtpjobjpdfhpobaaBg
import Derived.Lib.BufferWrite
namespace Go.Proofs.Ytpjobjpdfhpobaa
namespace Gcm
open Go.ChangeShapes Go.WideShapes Go.ChangeAt Go.RowKit Go.Great Go.ChangeMaps
open Gf Aes
set_option linter.unusedVariables false
set_option maxRecDepth 100000

/-- The block that a text begins with, noughts behind it. -/
def padL (l : List Nat) : List Nat := l.take 16 ++ List.replicate (16 - (l.take 16).length) 0
theorem padL_length (l : List Nat) : (padL l).length = 16 := by rw [padL, List.length_append, List.length_replicate, List.length_take]; omega
theorem padL_small {l : List Nat} (h : Small l) : Small (padL l) := (h.take 16).append (small_zeros _)
theorem padL_full {l : List Nat} (h : l.length = 16) : padL l = l := by
  rw [padL, List.take_of_length_le (by omega), h]; simp
theorem padL_drop (l : List Nat) (k : Nat) (h : k < blocksOf l.length) : padL (l.drop (16 * k)) = blockAt (filledL l) k := by
  rw [blockAt_filled l k h]; rfl

theorem padL_short {l : List Nat} (h : l.length ≤ 16) : padL l = l ++ List.replicate (16 - l.length) 0 := by
  rw [padL, List.take_of_length_le h]
theorem padL_long {l : List Nat} (h : 16 ≤ l.length) : padL l = l.take 16 := by
  rw [padL, List.length_take, Nat.min_eq_left h]; simp

theorem run_copy_pad (ty T : TypeId) (X : World) (g : Nat) (b : ByteArray) (h : Wd .u8 T g (zerosN 16) X) :
    (Builtin.copy_ #[24, 9] ty #[.slice (some ⟨g, 0, none⟩) 16 16, .string b]).run Try.prog X = .ok (goInt (min b.size 16 : Nat)) (X.setRow g (valsK .u8 (padL (nums b)))) := by
  by_cases hs : b.size ≤ 16
  · have := Lib.run_copy_row_string (P := Try.prog) X 24 9 ty 5 g 0 16 16 b _ _ Try.underlying24 (by kernel_rfl) h hs (by rw [valsK_size, zerosN, List.length_replicate]; omega)
    rw [this, Nat.min_eq_left hs]
    congr 2
    apply Array.ext'
    rw [padL_short (by rw [nums_length]; exact hs), nums_length]
    simp only [List.take_zero, List.nil_append, Nat.zero_add, zerosN, valsK, List.map_append, List.map_replicate, List.drop_replicate, nums, Lib.byteCells, List.map_map]
    rfl
  · obtain ⟨i0, hi⟩ := info8
    have hmin : Nat.min b.size 16 = 16 := Nat.min_eq_right (by omega)
    have hl : List.take 16 (List.map (fun c : UInt8 => Value.int IntKind.u8 (c.toNat : Int)) b.data.toList) = (valsK .u8 (padL (nums b))).toList := by
      rw [padL_long (by rw [nums_length]; omega)]
      simp [valsK, nums]
      rfl
    have hst := storeOld X g T _ (valsK .u8 (padL (nums b))) h (by rw [valsK_size, valsK_size, padL_length]; rfl) (valsK_one _ _)
    rw [← hl] at hst
    rw [Nat.min_eq_right (by omega : 16 ≤ b.size)]
    simp [Builtin.copy_, run_underlying Try.underlying24, Builtin.lenOf, hmin, sizeOf, typeInfo, hi, Builtin.firstCells, Sem.run_bind, go_sem, hst]

theorem big_snoc_take (l : List Nat) (k x : Nat) (h : l[k]? = some x) : big (l.take (k + 1)) = big (l.take k) * 256 + x := by
  have hk : k < l.length := (List.getElem?_eq_some_iff.1 h).1
  have e : l.take (k + 1) = l.take k ++ [x] := by
    rw [List.take_add_one, h]; rfl
  rw [e, big_snoc]
theorem shl_byte {n : Nat} (h : n < 2 ^ 56) : IntKind.u64.wrap ((n : Int) * 256) = ((n * 256 : Nat) : Int) := by rw [IntKind.wrap_u64]; omega
theorem or_byte (n c : Nat) (hc : c < 256) : n * 256 ||| c = n * 256 + c := by
  have := Nat.two_pow_add_eq_or_of_lt (i := 8) (b := c) hc n
  rw [Nat.mul_comm n 256]
  exact this.symm

set_option maxHeartbeats 2000000 in
theorem number_any (g o c n : Nat) (l : List Nat) (w : World) (hl : l.length = n) (h8 : n ≤ 8) (hs : Small l) (hc : ∀ j x : Nat, l[j]? = some x → w.cell? ⟨g, o + j, none⟩ = some (.int .u8 (x : Nat))) :
    Calls Try.prog 36 #[.slice (some ⟨g, o, none⟩) n c] w fun e w' => e = .returned (.int .u64 (big l : Nat)) ∧ w' = w := by
  have HC := Lib.hid hc
  have HS := Lib.hid hs
  have HLn := Lib.hid hl
  clear hc hs hl
  go_enter Try.func36, Try.ntmps36
  go_wp2
  go_loopw [3, 8] (fun v i wr => ∃ k : Nat, k ≤ n ∧ i = .int .i64 (k : Nat) ∧ v = .int .u64 (big (l.take k) : Nat) ∧ wr = w) (fun _ i _ => n - (intOf i).toNat)
  case atStart => exact ⟨0, Nat.zero_le _, rfl, rfl, rfl⟩
  case round =>
    obtain ⟨k, hk, rfl, rfl, rfl⟩ := hrel
    by_cases hlt : k < n
    · obtain ⟨x, hx⟩ : ∃ x, l[k]? = some x := ⟨_, List.getElem?_eq_getElem (by rw [HLn.out]; exact hlt)⟩
      have hcell := HC.out k x hx
      have hxl : x < 256 := HS.out x (List.mem_of_getElem? hx)
      obtain ⟨v, hv⟩ : ∃ v, v = big (l.take k) := ⟨_, rfl⟩
      have hvl : v < 2 ^ 56 := by
        rw [hv]
        refine Nat.lt_of_lt_of_le (big_lt _ (HS.out.take k)) ?_
        rw [pow256]
        exact Nat.pow_le_pow_right (by decide) (by rw [List.length_take]; omega)
      obtain ⟨u, hu⟩ : ∃ u, u = v * 256 := ⟨_, rfl⟩
      obtain ⟨z, hz⟩ : ∃ z, z = big (l.take (k + 1)) := ⟨_, rfl⟩
      have hzu : u ||| x = z := by rw [hz, big_snoc_take l k x hx, ← hv, hu, or_byte v x hxl]
      have q1 := shl_byte hvl
      have q2 := bits_or_u64_nat u x (by omega) (by omega)
      have q3 : IntKind.u64.wrap (x : Int) = (x : Int) := by rw [IntKind.wrap_u64]; omega
      rw [← hu] at q1
      rw [hzu] at q2
      rw [← hv]
      have HZ := Lib.hid hz
      clear hx hv hvl hu hz hzu hxl
      go_wp2
      go_roundw
      case rel => exact ⟨k + 1, by omega, by go_num, by rw [HZ.out], trivial⟩
      case measure => simp [intOf]; omega
    · obtain rfl : k = n := by omega
      rw [List.take_of_length_le (by rw [HLn.out]; exact Nat.le_refl _)]
      obtain ⟨z, hz⟩ : ∃ z, z = big l := ⟨_, rfl⟩
      rw [← hz]
      go_wp2
      go_ret
      refine ⟨?_, rfl⟩
      rw [← hz]
      rfl

/-- The end's row, the copy's and the world behind. -/
structure Bo (w : World) (l : List Nat) (X : World) : Prop where
  hR : B2 w.heap.size 0 0 X
  hP : Wd .u8 22 (w.heap.size + 1) l X
  below : Below w.heap.size w X
theorem Bo.drew {w : World} {l : List Nat} {X : World} (h : Bo w l X) : Bo w l X.drew := ⟨h.hR, h.hP, h.below.drew⟩

theorem big_halves (l : List Nat) (h : l.length = 16) : big l = whole (big (l.take 8)) (big (l.drop 8)) := by
  have e : l = l.take 8 ++ l.drop 8 := (List.take_append_drop 8 l).symm
  conv => lhs; rw [e]
  rw [big_append, List.length_drop, h]
  rfl
theorem zero_row16 : (∀ w, (zeroValue 22).run Try.prog w = .ok (.agg (valsK .u8 (zerosN 16))) w) ∧ (Try.prog.info? 22).map (·.size) = some 16 :=
  zero_of_info (P := Try.prog) (t := 22) (v := .agg (valsK .u8 (zerosN 16))) (n := 16) (by kernel_rfl)

set_option maxHeartbeats 4000000 in
theorem blockOf_any (b : ByteArray) (w : World) :
    Calls Try.prog 24 #[.string b] w fun e w' => ∃ h l : Nat, h < 2 ^ 64 ∧ l < 2 ^ 64 ∧ whole h l = big (padL (nums b)) ∧ e = .returned (.agg #[.int .u64 (h : Nat), .int .u64 (l : Nat)]) ∧ Below w.heap.size w w' := by
  have hz := zero_row16.1
  have hne := zeros16_ne .u8
  obtain ⟨L, hL⟩ : ∃ L, L = padL (nums b) := ⟨_, rfl⟩
  have hLl : L.length = 16 := by rw [hL]; exact padL_length _
  have hLs : Small L := by rw [hL]; exact padL_small (nums_lt b)
  obtain ⟨h, hh⟩ : ∃ h, h = big (L.take 8) := ⟨_, rfl⟩
  obtain ⟨l, hl⟩ : ∃ l, l = big (L.drop 8) := ⟨_, rfl⟩
  have hhl : h < 2 ^ 64 := by
    have := big_lt (L.take 8) (hLs.take 8)
    rw [List.length_take, hLl] at this
    rw [hh]; exact this
  have hll : l < 2 ^ 64 := by
    have := big_lt (L.drop 8) (hLs.drop 8)
    rw [List.length_drop, hLl] at this
    rw [hl]; exact this
  have hw : whole h l = big L := by rw [big_halves L hLl, hh, hl]
  have hcp := run_copy_pad 3 22 ((w.alloc (.cells #[.int .u64 0, .int .u64 0] 49)).alloc (.cells (valsK .u8 (zerosN 16)) 22)) (w.heap.size + 1) b (second_new w _ _)
  rw [← hL] at hcp ⊢
  have hbo : Bo w L (((w.alloc (.cells #[.int .u64 0, .int .u64 0] 49)).alloc (.cells (valsK .u8 (zerosN 16)) 22)).setRow (w.heap.size + 1) (valsK .u8 L)) :=
    ⟨by unfold B2; rw [setRow_other _ _ _ _ (by omega)]; exact keepAlloc (heap_alloc_new w _) _, setRow_heap _ _ _ _ _ _ (second_new w _ _), below_setRow (below_alloc (below_alloc (Below.refl _ _) _) _) (by omega) _⟩
  have C1 : Hid (∀ (X : World) (c : Nat), Bo w L X → Calls Try.prog 36 #[.slice (some ⟨w.heap.size + 1, 0, none⟩) 8 c] X fun e w' => e = .returned (.int .u64 (h : Nat)) ∧ w' = X) := Lib.hid (fun X c hX => by
    rw [hh]
    exact number_any (w.heap.size + 1) 0 c 8 (L.take 8) X (by rw [List.length_take, hLl]; rfl) (by decide) (hLs.take 8) (fun j x hx => by
      rw [Nat.zero_add]
      exact hX.hP.cell (by rw [List.getElem?_take] at hx; split at hx; exact hx; cases hx)))
  have C2 : Hid (∀ (X : World) (c : Nat), Bo w L X → Calls Try.prog 36 #[.slice (some ⟨w.heap.size + 1, 8, none⟩) 8 c] X fun e w' => e = .returned (.int .u64 (l : Nat)) ∧ w' = X) := Lib.hid (fun X c hX => by
    rw [hl]
    exact number_any (w.heap.size + 1) 8 c 8 (L.drop 8) X (by rw [List.length_drop, hLl]) (by decide) (hLs.drop 8) (fun j x hx => by
      exact hX.hP.cell (by rw [List.getElem?_drop] at hx; exact hx)))
  have HW := Lib.hid (And.intro hhl (And.intro hll hw))
  have HBO := Lib.hid hbo
  clear hL hLl hLs hh hl hhl hll hw hbo
  go_enter Try.func24, Try.ntmps24
  go_wp2
  clear hcp hz hne
  generalize ((w.alloc (Obj.cells #[Value.int IntKind.u64 0, Value.int IntKind.u64 0] 49)).alloc (Obj.cells (valsK IntKind.u8 (zerosN 16)) 22)).setRow (w.heap.size + 1) (valsK IntKind.u8 L) = wq at *
  obtain ⟨s1, s2, s3, s4⟩ := HBO.out.hR.asks
  go_region_with (go_at_call 36; first | (with_reducible refine (C1.out _ _ HBO.out.drew).mono ?_; rintro e w3 ⟨rfl, rfl⟩) | (with_reducible refine (C2.out _ _ HBO.out.drew).mono ?_; rintro e w3 ⟨rfl, rfl⟩))
  go_wp2
  exact ret_blk rfl rfl (HBO.out.hR.put h l) ⟨h, l, HW.out.1, HW.out.2.1, HW.out.2.2, rfl, (below_put2 HBO.out.below (Nat.le_refl _) h l).drew⟩

end Gcm
end Go.Proofs.Ytpjobjpdfhpobaa
