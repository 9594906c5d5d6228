/-
  Contracts of dromondref08.or, counter and Right. Conditions: stated with each.
-/
import Derived.Test.YtpjobjpdfhpobaaQa
import Derived.RegionTactic
import Derived.BigRegion
/-
  Contracts of dromondref08.filled and bits. Conditions: the text is shorter than 2^30 bytes.
-/
namespace Go.Proofs.Ytpjobjpdfhpobaa
namespace Gcm
open Go.ChangeShapes Go.WideShapes Go.ChangeAt Go.RowKit Go.Great Go.ChangeMaps
open Gf Aes
set_option linter.unusedVariables false
set_option maxRecDepth 100000

theorem nums_append (a b : ByteArray) : nums (a ++ b) = nums a ++ nums b := by
  unfold nums
  rw [ByteArray.data_append, Array.toList_append, List.map_append]
theorem toB_append (a b : List Nat) : toB a ++ toB b = toB (a ++ b) := by
  apply ByteArray.ext
  rw [ByteArray.data_append]
  simp [toB]
theorem size_snoc (S : ByteArray) (c : UInt8) : (S ++ ⟨#[c]⟩ : ByteArray).size = S.size + 1 := by
  rw [ByteArray.size_append]; rfl

set_option maxHeartbeats 4000000 in
theorem filled_any (b : ByteArray) (w : World) (hb : b.size ≤ 1073741824) :
    Calls Try.prog 28 #[.string b] w fun e w' => e = .returned (.string (toB (filledL (nums b)))) ∧ w' = w := by
  have HB := Lib.hid hb
  obtain ⟨F, hF⟩ : ∃ F, F = filledL (nums b) := ⟨_, rfl⟩
  rw [← hF]
  have HF := Lib.hid hF
  clear hF hb
  go_enter Try.func28, Try.ntmps28
  go_wp2
  go_loopw [0] (fun x wr => ∃ S : ByteArray, x = .string S ∧ filledL (nums S) = F ∧ S.size ≤ 16 * blocksOf b.size ∧ wr = w) (fun x _ => match x with | .string S => 16 * blocksOf b.size - S.size | _ => 0)
  case atStart => exact ⟨b, rfl, HF.out.symm, by unfold blocksOf; omega, rfl⟩
  case round =>
    obtain ⟨S, rfl, hS, hsz, rfl⟩ := hrel
    obtain ⟨m, hm⟩ : ∃ m, m = S.size % 16 := ⟨_, rfl⟩
    have q1 : (S.size : Int).tmod 16 = (m : Int) := by rw [Int.tmod_eq_emod_of_nonneg (by omega)]; omega
    have q2 : (S.size : Int) % 16 = (m : Int) := by omega
    have HS := Lib.hid (And.intro hS (And.intro hsz hm))
    have hsl : S.size ≤ 1073741839 := by have := HB.out; unfold blocksOf at hsz; omega
    clear hS hsz hm
    by_cases h0 : m = 0
    · have q3 : (m : Int) = 0 := by omega
      go_wp2
      go_ret
      refine ⟨?_, rfl⟩
      have hm := HS.out.2.2
      have e : filledL (nums S) = nums S := filledL_full (by rw [nums_length]; omega)
      have e2 : toB F = S := by rw [← HS.out.1, e, toB_nums]
      rw [e2]
      rfl
    · have q3 : ¬ (m : Int) = 0 := by omega
      go_wp2
      have hm := HS.out.2.2
      have hsz := HS.out.2.1
      have e : filledL (nums (S ++ ⟨#[0]⟩)) = F := by
        rw [nums_append, show nums ⟨#[0]⟩ = [0] from rfl, filledL_snoc (by rw [nums_length]; omega)]
        exact HS.out.1
      have e3 : (S ++ ⟨#[0]⟩ : ByteArray).size = S.size + 1 := size_snoc S 0
      exact ⟨⟨_, rfl, e, by rw [e3]; omega, trivial⟩, by show 16 * blocksOf b.size - (S ++ ⟨#[0]⟩ : ByteArray).size < 16 * blocksOf b.size - S.size; rw [e3]; omega⟩

/-- The last 8 - m bytes of a number's eight. -/
def bitTo (n m : Nat) : List Nat := (List.range 8).map fun j => if m ≤ j then n / 256 ^ (7 - j) % 256 else 0
theorem bitTo_length (n m : Nat) : (bitTo n m).length = 8 := by simp [bitTo]
theorem bitTo_get (n m j : Nat) (h : j < 8) : (bitTo n m)[j]? = some (if m ≤ j then n / 256 ^ (7 - j) % 256 else 0) := by
  unfold bitTo
  rw [List.getElem?_map, List.getElem?_range h]
  rfl
theorem bitTo_start (n : Nat) : bitTo n 8 = List.replicate 8 0 := by
  apply List.ext_getElem?
  intro j
  by_cases h : j < 8
  · rw [bitTo_get _ _ _ h, if_neg (by omega), List.getElem?_replicate, if_pos h]
  · rw [List.getElem?_eq_none (by rw [bitTo_length]; omega), List.getElem?_eq_none (by simp; omega)]
theorem bitTo_next (n m : Nat) (h : m < 8) : (bitTo n (m + 1)).set m (n / 256 ^ (7 - m) % 256) = bitTo n m := by
  apply List.ext_getElem?
  intro j
  rw [List.getElem?_set]
  by_cases hj : j < 8
  · by_cases e : m = j
    · subst e
      rw [if_pos rfl, bitTo_length, if_pos h, bitTo_get _ _ _ hj, if_pos (Nat.le_refl _)]
    · rw [if_neg e, bitTo_get _ _ _ hj, bitTo_get _ _ _ hj]
      have : (m + 1 ≤ j) = (m ≤ j) := by apply propext; omega
      simp only [this]
  · rw [List.getElem?_eq_none (l := bitTo n m) (by rw [bitTo_length]; omega)]
    split
    · rw [if_neg (by rw [bitTo_length]; omega)]
    · rw [List.getElem?_eq_none (by rw [bitTo_length]; omega)]
theorem bitTo_all (n : Nat) : bitTo n 0 = bytes 8 n := by
  apply List.ext_getElem?
  intro j
  by_cases h : j < 8
  · rw [bitTo_get _ _ _ h, if_pos (Nat.zero_le _), bytes_get 8 n j h]
  · rw [List.getElem?_eq_none (by rw [bitTo_length]; omega), List.getElem?_eq_none (by rw [bytes_length]; omega)]

set_option maxHeartbeats 4000000 in
theorem bits_any (b : ByteArray) (w : World) (hb : b.size ≤ 1073741824) :
    Calls Try.prog 29 #[.string b] w fun e w' => e = .returned (.string (toB (bytes 8 (8 * b.size)))) ∧ Below w.heap.size w w' := by
  obtain ⟨N, hN⟩ : ∃ N, N = 8 * b.size := ⟨_, rfl⟩
  rw [← hN]
  have q0 : 8 * (b.size : Int) = (N : Int) := by omega
  have hNl : N ≤ 8589934592 := by omega
  have hmk : (Instr.makeSlice 24 (.int .i64 8) (.int .i64 8)).run Try.prog w = .ok (.slice (some ⟨w.heap.size, 0, none⟩) 8 8) (w.alloc (.cells (valsK .u8 (List.replicate 8 0)) 5)) := make_row 8 (by decide) w
  have hr : Rw w w.heap.size (bitTo N 8) (w.alloc (.cells (valsK .u8 (List.replicate 8 0)) 5)) := by
    rw [bitTo_start]; exact rw_made w w _ (Below.refl _ _)
  have HR := Lib.hid hr
  have HN := Lib.hid hNl
  clear hr hN hb
  go_enter Try.func29, Try.ntmps29
  go_wp2
  clear hmk q0 hNl
  go_loopw [4, 5] (fun y x wr => ∃ m e : Nat, m ≤ 8 ∧ x = .int .i64 ((m : Int) - 1) ∧ y = .int .i64 (e : Nat) ∧ e = N / 256 ^ (8 - m) ∧ Rw w w.heap.size (bitTo N m) wr) (fun _ x _ => (intOf x + 1).toNat)
  case atStart => exact ⟨8, N, Nat.le_refl _, rfl, rfl, by simp, HR.out⟩
  case round =>
    obtain ⟨m, e, hm, rfl, rfl, he, hS⟩ := hrel
    clear HR
    by_cases h0 : 0 < m
    · obtain ⟨k, rfl⟩ : ∃ k, m = k + 1 := ⟨m - 1, by omega⟩
      have e1 : ((k + 1 : Nat) : Int) - 1 = (k : Int) := by omega
      rw [e1]
      have hel : e ≤ 8589934592 := by rw [he]; exact Nat.le_trans (Nat.div_le_self _ _) HN.out
      obtain ⟨c, hc⟩ : ∃ c, c = e % 256 := ⟨_, rfl⟩
      obtain ⟨e', he'⟩ : ∃ e', e' = e / 256 := ⟨_, rfl⟩
      have hcv : c = N / 256 ^ (7 - k) % 256 := by rw [hc, he, show 8 - (k + 1) = 7 - k by omega]
      have hev : e' = N / 256 ^ (8 - k) := by
        rw [he', he, Nat.div_div_eq_div_mul, ← Nat.pow_succ]
        congr 2
        omega
      obtain ⟨x, hx⟩ : ∃ x, (bitTo N (k + 1))[k]? = some x := ⟨_, List.getElem?_eq_getElem (by rw [bitTo_length]; omega)⟩
      have c1 := hS.cell k x hx
      have f1 := hS.frozen k (by rw [bitTo_length]; omega)
      have hst := hS.set (j := k) (by rw [bitTo_length]; omega) c
      have hnx : (bitTo N (k + 1)).set k c = bitTo N k := by rw [hcv]; exact bitTo_next N k (by omega)
      rw [hnx] at hst
      have q1 : (e : Int) % 256 = (c : Int) := by omega
      have q2 : (c : Int) % 256 = (c : Int) := by omega
      have q3 : (e : Int) / 256 = (e' : Int) := by omega
      have q4 : (0 : Int) ≤ (k : Int) := by omega
      have q5 : (k : Int) < 8 := by omega
      have HST := Lib.hid (And.intro hst hev)
      clear hst hev hS he hc he' hcv hx hnx e1
      go_wp2
      go_roundw
      case rel => exact ⟨k, e', by omega, by go_num, rfl, HST.out.2, HST.out.1⟩
      case measure => simp [intOf]
    · obtain rfl : m = 0 := by omega
      rw [bitTo_all] at hS
      have hb := hS.back (bytes_lt 8 N) 8 8 (bytes_length 8 N)
      have HB := Lib.hid hS.below
      clear hS he
      go_wp2
      go_ret
      exact ⟨rfl, HB.out⟩

end Gcm
end Go.Proofs.Ytpjobjpdfhpobaa

namespace Go.Proofs.Ytpjobjpdfhpobaa
namespace Gcm
open Go.ChangeShapes Go.WideShapes Go.ChangeAt Go.RowKit Go.Great Go.ChangeMaps
open Gf Aes
set_option linter.unusedVariables false
set_option maxRecDepth 100000

theorem orL_map (a b : List Nat) : (List.range (min a.length b.length)).map (fun j => a.getD j 0 ^^^ b.getD j 0) = orL a b := by
  apply List.ext_getElem?
  intro j
  by_cases h : j < min a.length b.length
  · rw [List.getElem?_map, List.getElem?_range h, orL, List.getElem?_zipWith, List.getElem?_eq_getElem (by omega : j < a.length), List.getElem?_eq_getElem (by omega : j < b.length)]
    show some (a.getD j 0 ^^^ b.getD j 0) = some (a[j] ^^^ b[j])
    rw [List.getD_eq_getElem?_getD, List.getD_eq_getElem?_getD, List.getElem?_eq_getElem (by omega : j < a.length), List.getElem?_eq_getElem (by omega : j < b.length)]
    rfl
  · rw [List.getElem?_eq_none (by simp; omega), List.getElem?_eq_none (by rw [orL_length]; omega)]

/-- Byte for byte, as texts. -/
def orB (a b : ByteArray) : ByteArray := toB (orL (nums a) (nums b))
theorem orB_size (a b : ByteArray) : (orB a b).size = min a.size b.size := by unfold orB; rw [toB_size, orL_length, nums_length, nums_length]

set_option maxHeartbeats 4000000 in
theorem ror_any (a b : ByteArray) (w : World) (ha : a.size ≤ 1073741824) (hb : b.size ≤ 1073741824) :
    Calls Try.prog 47 #[.string a, .string b] w fun e w' => e = .returned (.string (orB a b)) ∧ Below w.heap.size w w' := by
  obtain ⟨n, hn⟩ : ∃ n, n = min a.size b.size := ⟨_, rfl⟩
  obtain ⟨F, hF⟩ : ∃ F : Nat → Nat, F = fun j => (nums a).getD j 0 ^^^ (nums b).getD j 0 := ⟨_, rfl⟩
  have hend : blend F (fun _ => 0) n n = orL (nums a) (nums b) := by
    rw [blend_all _ _ (Nat.le_refl _), ← orL_map, nums_length, nums_length, hn, hF]
  have hcase : ((b.size : Int) = (n : Int) ∧ (n : Int) < (a.size : Int)) ∨ ((a.size : Int) = (n : Int) ∧ ¬ (b.size : Int) < (n : Int)) := by omega
  have hmk := make_row n (by omega) w
  have hr : Rw w w.heap.size (blend F (fun _ => 0) n 0) (w.alloc (.cells (valsK .u8 (List.replicate n 0)) 5)) := by
    rw [blend_zeros]; exact rw_made w w _ (Below.refl _ _)
  have hnl : n ≤ 1073741824 := by omega
  have HR := Lib.hid hr
  have HE := Lib.hid (And.intro hend (And.intro hF (show n ≤ a.size ∧ n ≤ b.size by omega)))
  unfold orB
  clear hr hend hF hn ha hb
  rcases hcase with ⟨e1, g1⟩ | ⟨e1, g1⟩
  all_goals
    go_enter Try.func47, Try.ntmps47
    go_wp2
    clear hmk
    go_loopw [7] (fun x wr => ∃ k : Nat, k ≤ n ∧ x = .int .i64 (k : Nat) ∧ Rw w w.heap.size (blend F (fun _ => 0) n k) wr) (fun x _ => n - (intOf x).toNat)
    case atStart => exact ⟨0, Nat.zero_le _, rfl, HR.out⟩
    case round =>
      obtain ⟨k, hk, rfl, hS⟩ := hrel
      clear HR
      by_cases hlt : k < n
      · have hka : k < a.size := by have := HE.out.2.2.1; omega
        have hkb : k < b.size := by have := HE.out.2.2.2; omega
        obtain ⟨x, hx⟩ : ∃ x, x = (nums a).getD k 0 := ⟨_, rfl⟩
        obtain ⟨y, hy⟩ : ∃ y, y = (nums b).getD k 0 := ⟨_, rfl⟩
        obtain ⟨z, hz⟩ : ∃ z, z = x ^^^ y := ⟨_, rfl⟩
        have xa : (a[k].toNat : Int) = (x : Int) := by rw [hx, List.getD_eq_getElem?_getD, nums_get a k hka]; rfl
        have xb : (b[k].toNat : Int) = (y : Int) := by rw [hy, List.getD_eq_getElem?_getD, nums_get b k hkb]; rfl
        have q1 := u8_xor_nat x y (by rw [hx]; exact Small.get (nums_lt a) k) (by rw [hy]; exact Small.get (nums_lt b) k)
        rw [← hz] at q1
        have hFk : z = F k := by rw [hz, hx, hy, HE.out.2.1]
        obtain ⟨o, ho⟩ : ∃ o, (blend F (fun _ => 0) n k)[k]? = some o := ⟨_, List.getElem?_eq_getElem (by rw [blend_length]; exact hlt)⟩
        have c1 := hS.cell k o ho
        have f1 := hS.frozen k (by rw [blend_length]; exact hlt)
        have hst := hS.set (j := k) (by rw [blend_length]; exact hlt) z
        rw [hFk, blend_next, ← hFk] at hst
        have q2 : (k : Int) < (n : Int) := by omega
        have q3 : (k : Int) < (a.size : Int) := by omega
        have q4 : (k : Int) < (b.size : Int) := by omega
        have HST := Lib.hid hst
        clear hst hS hx hy hz ho hFk
        go_wp2
        go_region
        all_goals (go_wp2; go_roundw)
        all_goals first
          | exact ⟨k + 1, by omega, by go_num, HST.out.drew⟩
          | (simp [intOf]; omega)
      · obtain rfl : k = n := by omega
        rw [HE.out.1] at hS
        have hb := hS.back (orL_lt (nums_lt a) (nums_lt b)) k k (by rw [orL_length, nums_length, nums_length]; have := congrArg List.length HE.out.1; rw [blend_length, orL_length, nums_length, nums_length] at this; exact this.symm)
        have HB := Lib.hid hS.below
        clear hS
        go_wp2
        go_ret
        exact ⟨rfl, HB.out⟩

set_option maxHeartbeats 4000000 in
theorem right_any (key nonce : ByteArray) (w : World) :
    Calls Try.prog 33 #[.string key, .string nonce] w fun e w' => e = .returned (.bool (decide ((key.size = 16 ∨ key.size = 32) ∧ 8 ≤ nonce.size ∧ nonce.size ≤ 16))) ∧ w' = w := by
  by_cases h1 : key.size = 16 ∨ key.size = 32
  · by_cases h2 : 8 ≤ nonce.size
    · have g2 : (8 : Int) ≤ (nonce.size : Int) := by omega
      by_cases h3 : nonce.size ≤ 16
      · rw [decide_eq_true ⟨h1, h2, h3⟩]
        have g3 : (nonce.size : Int) ≤ 16 := by omega
        rcases h1 with h | h
        all_goals
          first
            | have g1 : (key.size : Int) = 16 := by omega
            | have g1 : (key.size : Int) = 32 := by omega
          clear h h2 h3
          go_enter Try.func33, Try.ntmps33
          go_wp2
          go_ret
          exact ⟨by simp, rfl⟩
      · rw [decide_eq_false (fun h => h3 h.2.2)]
        have g3 : ¬ (nonce.size : Int) ≤ 16 := by omega
        rcases h1 with h | h
        all_goals
          first
            | have g1 : (key.size : Int) = 16 := by omega
            | have g1 : (key.size : Int) = 32 := by omega
          clear h h2 h3
          go_enter Try.func33, Try.ntmps33
          go_wp2
          go_ret
          exact ⟨by simp, rfl⟩
    · rw [decide_eq_false (fun h => h2 h.2.1)]
      have g2 : ¬ (8 : Int) ≤ (nonce.size : Int) := by omega
      rcases h1 with h | h
      all_goals
        first
          | have g1 : (key.size : Int) = 16 := by omega
          | have g1 : (key.size : Int) = 32 := by omega
        clear h h2
        go_enter Try.func33, Try.ntmps33
        go_wp2
        go_ret
        exact ⟨by simp, rfl⟩
  · rw [decide_eq_false (fun h => h1 h.1)]
    have g1 : ¬ (key.size : Int) = 16 := by omega
    have g2 : ¬ (key.size : Int) = 32 := by omega
    clear h1
    go_enter Try.func33, Try.ntmps33
    go_wp2
    go_ret
    exact ⟨by simp, rfl⟩

/-- The first counter with n more, as a text. -/
def counterB (f : ByteArray) (n : Nat) : ByteArray := toB (counterL (nums f) n)
theorem counterB_size {f : ByteArray} (hf : f.size = 16) (n : Nat) : (counterB f n).size = 16 := by
  unfold counterB; rw [toB_size, counterL_length (by rw [nums_length]; exact hf)]

theorem nums_front (b : ByteArray) (o : Nat) : nums (b.extract 0 o) = (nums b).take o := by
  unfold nums
  rw [← List.map_take]
  congr 1
  simp

theorem big_lt4 (l : List Nat) (h : Small l) (hl : l.length ≤ 4) : big l < 4294967296 := by
  refine Nat.lt_of_lt_of_le (big_lt l h) ?_
  exact Nat.le_trans (Nat.pow_le_pow_right (by decide) hl) (by decide)

set_option maxHeartbeats 8000000 in
theorem counter_any (f : ByteArray) (n : Nat) (w : World) (hf : f.size = 16) (hn : n ≤ 1073741824) :
    Calls Try.prog 48 #[.string f, .int .i64 (n : Nat)] w fun e w' => e = .returned (.string (counterB f n)) ∧ Below w.heap.size w w' := by
  obtain ⟨L, hL⟩ : ∃ L, L = (nums f).drop 12 := ⟨_, rfl⟩
  have hLl : L.length = 4 := by rw [hL, List.length_drop, nums_length, hf]
  have hLs : Small L := by rw [hL]; exact Small.drop (nums_lt f) 12
  have q0 : (f.size : Int) = 16 := by omega
  have HL := Lib.hid (And.intro hL (And.intro hLl (And.intro hLs hf)))
  clear hL hLl hLs hf
  go_enter Try.func48, Try.ntmps48
  go_wp2
  go_loopw [5, 6] (fun y x wr => ∃ k e : Nat, k ≤ 4 ∧ x = .int .i64 ((12 + k : Nat) : Int) ∧ y = .int .i64 (e : Nat) ∧ e = big (L.take k) ∧ wr = w) (fun _ x _ => 16 - (intOf x).toNat)
  case atStart => exact ⟨0, 0, Nat.zero_le _, rfl, rfl, rfl, rfl⟩
  case round =>
    obtain ⟨k, e, hk, rfl, rfl, he, rfl⟩ := hrel
    have hel : e < 4294967296 := by rw [he]; exact big_lt4 _ (Small.take HL.out.2.2.1 k) (by rw [List.length_take]; omega)
    obtain ⟨i, hi⟩ : ∃ i, i = 12 + k := ⟨_, rfl⟩
    rw [← hi]
    by_cases hlt : k < 4
    · have hif : i < f.size := by have := HL.out.2.2.2; omega
      obtain ⟨c, hc⟩ : ∃ c, c = f[i].toNat := ⟨_, rfl⟩
      have hcl : c < 256 := by rw [hc]; exact UInt8.toNat_lt _
      have hLk : L[k]? = some c := by rw [HL.out.1, List.getElem?_drop, ← hi, nums_get f i hif, hc]
      obtain ⟨e2, he2⟩ : ∃ e2, e2 = e * 256 := ⟨_, rfl⟩
      obtain ⟨e3, he3⟩ : ∃ e3, e3 = e2 + c := ⟨_, rfl⟩
      have hev : e3 = big (L.take (k + 1)) := by
        have hkl : k < L.length := by rw [HL.out.2.1]; exact hlt
        have et : L.take (k + 1) = L.take k ++ [c] := by rw [List.take_add_one, hLk]; rfl
        rw [et, big_snoc, ← he, he3, he2]
      have q1 : (i : Int) < 16 := by omega
      have q2 : (e : Int) * 256 = (e2 : Int) := by omega
      have q3 : (e2 : Int) + (c : Int) = (e3 : Int) := by omega
      have q4 : (f[i].toNat : Int) = (c : Int) := by rw [hc]
      have hb2 : e2 ≤ 1099511627776 := by omega
      have hb3 : e3 ≤ 1099511628032 := by omega
      have hil : i < 16 := by omega
      have HE := Lib.hid (And.intro hev hi)
      clear hev hi hc hLk he2 he3 he
      go_wp2
      go_roundw
      case rel => exact ⟨k + 1, e3, by omega, by have := HE.out.2; rw [show 12 + (k + 1) = i + 1 by omega]; go_num, rfl, HE.out.1, trivial⟩
      case measure => simp [intOf]; omega
    · obtain rfl : k = 4 := by omega
      obtain rfl : i = 16 := by omega
      rw [List.take_of_length_le (by rw [HL.out.2.1]; exact Nat.le_refl _)] at he
      obtain ⟨s, hs⟩ : ∃ s, s = e + n := ⟨_, rfl⟩
      obtain ⟨v, hv⟩ : ∃ v, v = s % 4294967296 := ⟨_, rfl⟩
      obtain ⟨c0, hc0⟩ : ∃ c0, c0 = v / 16777216 := ⟨_, rfl⟩
      obtain ⟨d1, hd1⟩ : ∃ d1, d1 = v / 65536 := ⟨_, rfl⟩
      obtain ⟨c1, hc1⟩ : ∃ c1, c1 = d1 % 256 := ⟨_, rfl⟩
      obtain ⟨d2, hd2⟩ : ∃ d2, d2 = v / 256 := ⟨_, rfl⟩
      obtain ⟨c2, hc2⟩ : ∃ c2, c2 = d2 % 256 := ⟨_, rfl⟩
      obtain ⟨c3, hc3⟩ : ∃ c3, c3 = v % 256 := ⟨_, rfl⟩
      have q1 : (e : Int) + (n : Int) = (s : Int) := by omega
      have q2 : (s : Int) % 4294967296 = (v : Int) := by omega
      have q3 : (v : Int) / 16777216 = (c0 : Int) := by omega
      have q4 : (v : Int) / 65536 = (d1 : Int) := by omega
      have q5 : (v : Int) / 256 = (d2 : Int) := by omega
      have q6 : (d1 : Int) % 256 = (c1 : Int) := by omega
      have q7 : (d2 : Int) % 256 = (c2 : Int) := by omega
      have q8 : (v : Int) % 256 = (c3 : Int) := by omega
      have q9 : (c0 : Int) % 256 = (c0 : Int) := by omega
      have q10 : (c1 : Int) % 256 = (c1 : Int) := by omega
      have q11 : (c2 : Int) % 256 = (c2 : Int) := by omega
      have q12 : (c3 : Int) % 256 = (c3 : Int) := by omega
      have hsl : s ≤ 5368709120 := by omega
      have hvl : v < 4294967296 := by omega
      have hfour : bytes 4 (big L + n) = [c0, c1, c2, c3] := by
        rw [bytes_four_mod, ← he, ← hs, ← hv, hc0, hc1, hd1, hc2, hd2, hc3]
      have hS4 : Small [c0, c1, c2, c3] := by rw [← hfour]; exact bytes_lt _ _
      obtain ⟨S, hS⟩ : ∃ S, S = toB [c0, c1, c2, c3] := ⟨_, rfl⟩
      have hcv : (convert 24 9 (.slice (some ⟨wr.heap.size, 0, none⟩) 4 4)).run Try.prog (wr.alloc (.cells #[.int .u8 (c0 : Nat), .int .u8 (c1 : Nat), .int .u8 (c2 : Nat), .int .u8 (c3 : Nat)] 5)).drew = .ok (.string S) (wr.alloc (.cells #[.int .u8 (c0 : Nat), .int .u8 (c1 : Nat), .int .u8 (c2 : Nat), .int .u8 (c3 : Nat)] 5)).drew := by
        rw [hS]
        exact (rw_made wr wr [c0, c1, c2, c3] (Below.refl _ _)).drew.back hS4 4 4 rfl
      have hfx : (f.extract 0 12).size = 12 := by have := HL.out.2.2.2; simp [ByteArray.size_extract]; omega
      obtain ⟨U, hU⟩ : ∃ U, U = f.extract 0 12 ++ S := ⟨_, rfl⟩
      have hcat : ∀ X : World, (Op.stringOp .add (f.extract 0 12) S).run Try.prog X = .ok (.string U) X := by rw [hU]; exact fun X => run_string_add_sum X (f.extract 0 12) S (by rw [hfx, hS, toB_size, List.length_cons, List.length_cons, List.length_cons, List.length_cons, List.length_nil]; decide)
      have HF := Lib.hid (And.intro hfour (And.intro hS hU))
      have q13 : (d1 : Int).tmod 256 = (c1 : Int) := by rw [Int.tmod_eq_emod_of_nonneg (by omega)]; exact q6
      have q14 : (d2 : Int).tmod 256 = (c2 : Int) := by rw [Int.tmod_eq_emod_of_nonneg (by omega)]; exact q7
      have q15 : (v : Int).tmod 256 = (c3 : Int) := by rw [Int.tmod_eq_emod_of_nonneg (by omega)]; exact q8
      clear hfour he hs hv hc0 hd1 hc1 hd2 hc2 hc3 hel hS hS4 hU hfx
      go_wp2
      go_region
      go_wp2
      go_ret
      refine ⟨?_, (below_alloc (Below.refl _ _) _).drew⟩
      have e1 : U = counterB f n := by
        unfold counterB counterL
        rw [HF.out.2.2, HF.out.2.1, ← HF.out.1, ← toB_append, HL.out.1]
        congr 1
        rw [← nums_front f 12, toB_nums]
      rw [← e1]
      rfl

end Gcm
end Go.Proofs.Ytpjobjpdfhpobaa
