/-
  Contracts of dromondref06.Block and Sum. Conditions: key and text are shorter than 2^29 bytes.
-/
import Derived.Test.YtfahmbkeibeceaaDoorHb
import Derived.Test.YtfahmbkeibeceaaDoorTg256
import Derived.Test.YtfahmbkeibeceaaDoorTg384
import Derived.Test.YtfahmbkeibeceaaDoorTg512
namespace Go.Proofs.YtfahmbkeibeceaaDoor
open Go.ChangeShapes Go.WideShapes Go.ChangeAt Go.RowKit Go.Great Go.ChangeMaps
open Sha
set_option linter.unusedVariables false

/-- The first k bytes, zeros behind them. -/
def maskZ (n m : Nat) (l : List Nat) (k : Nat) : List Nat := (List.range n).map fun i => if i < k then l.getD i 0 ^^^ m else 0
theorem maskZ_length (n m : Nat) (l : List Nat) (k : Nat) : (maskZ n m l k).length = n := by simp [maskZ]
theorem maskZ_get {n m k j : Nat} {l : List Nat} (h : j < n) : (maskZ n m l k)[j]? = some (if j < k then l.getD j 0 ^^^ m else 0) := by
  unfold maskZ
  rw [List.getElem?_map, List.getElem?_range h]
  rfl
theorem maskZ_next {n m k : Nat} {l : List Nat} (h : k < n) : (maskZ n m l k).set k (l.getD k 0 ^^^ m) = maskZ n m l (k + 1) := by
  apply List.ext_getElem?
  intro j
  rw [List.getElem?_set]
  by_cases hj : j < n
  · rw [maskZ_get hj, maskZ_get hj]
    by_cases e : k = j
    · subst e
      rw [if_pos rfl, maskZ_length, if_pos h, if_pos (by omega)]
    · rw [if_neg e]
      have : (j < k + 1) = (j < k) := by apply propext; omega
      simp only [this]
  · rw [List.getElem?_eq_none (by rw [maskZ_length]; omega), List.getElem?_eq_none (by rw [maskZ_length]; omega)]
    split
    · rw [if_neg (by rw [maskZ_length]; omega)]
    · rfl
theorem maskZ_all (n m : Nat) (l : List Nat) : maskZ n m l n = maskL n m l := by
  unfold maskZ maskL
  apply List.map_congr_left
  intro i hi
  rw [if_pos (List.mem_range.1 hi)]
theorem maskZ_zero (n m : Nat) (l : List Nat) : maskZ n m l 0 = List.replicate n 0 := by
  apply List.ext_getElem?
  intro j
  by_cases hj : j < n
  · rw [maskZ_get hj, if_neg (by omega), List.getElem?_replicate, if_pos hj]
  · rw [List.getElem?_eq_none (by rw [maskZ_length]; omega), List.getElem?_eq_none (by simp; omega)]

/-- The two rows. -/
structure Io (w : World) (i o n : Nat) (l : List Nat) (k : Nat) (X : World) : Prop where
  hi : By i (maskZ n 54 l k) X
  ho : By o (maskZ n 92 l k) X
  ne : i ≠ o
  li : w.heap.size ≤ i
  lo : w.heap.size ≤ o
  below : Below w.heap.size w X

theorem Io.step {w X : World} {i o n k x y z : Nat} {l : List Nat} (h : Io w i o n l k X) (hk : k < n) (hx : x = l.getD k 0) (hy : y = x ^^^ 54) (hz : z = x ^^^ 92) :
    Io w i o n l (k + 1) ((X.setCell ⟨i, k, none⟩ (.int .u8 (y : Nat))).setCell ⟨o, k, none⟩ (.int .u8 (z : Nat))) where
  hi := by
    unfold By Wd
    rw [heap_setCell_other _ _ _ _ (show i ≠ _ from h.ne), ← maskZ_next hk, ← hx, ← hy]
    exact h.hi.setE k y
  ho := by
    have h2 : By o (maskZ n 92 l k) (X.setCell ⟨i, k, none⟩ (.int .u8 (y : Nat))) := by
      unfold By Wd
      rw [heap_setCell_other _ _ _ _ (show o ≠ _ from fun e => h.ne e.symm)]
      exact h.ho
    rw [← maskZ_next hk, ← hx, ← hz]
    exact h2.setE k z
  ne := h.ne
  li := h.li
  lo := h.lo
  below := (h.below.setCell h.li _).setCell h.lo _
theorem Io.mid {w X : World} {i o n k y : Nat} {l : List Nat} (h : Io w i o n l k X) (hk : k < n) :
    (X.setCell ⟨i, k, none⟩ (.int .u8 (y : Nat))).cell? ⟨o, k, none⟩ = some (.int .u8 ((0 : Nat) : Int)) := by
  have h2 : By o (maskZ n 92 l k) (X.setCell ⟨i, k, none⟩ (.int .u8 (y : Nat))) := by
    unfold By Wd
    rw [heap_setCell_other _ _ _ _ (show o ≠ _ from fun e => h.ne e.symm)]
    exact h.ho
  exact h2.cell (by rw [maskZ_get hk, if_neg (by omega)])

theorem rblock_other (size : Int) (w : World) (h1 : size ≠ 256) (h2 : size ≠ 384) (h3 : size ≠ 512) :
    Calls Tryd.prog 17 #[.int .i64 size] w fun e w' => e = .returned (.int .i64 0) ∧ w' = w := by
  have g1 : (size == 256) = false := by simpa using h1
  have g2 : (size == 384) = false := by simpa using h2
  have g3 : (size == 512) = false := by simpa using h3
  go_enter Tryd.func17, Tryd.ntmps17
  go_wp2
  go_ret
  exact ⟨rfl, rfl⟩
theorem rsum_other (size : Int) (key text : ByteArray) (w : World) (h1 : size ≠ 256) (h2 : size ≠ 384) (h3 : size ≠ 512) :
    Calls Tryd.prog 16 #[.int .i64 size, .string key, .string text] w fun e w' => e = .returned (.string ⟨#[]⟩) ∧ Below w.heap.size w w' := by
  have H := Lib.hid (fun X => rblock_other size X h1 h2 h3)
  clear h1 h2 h3
  go_enter Tryd.func16, Tryd.ntmps16
  go_wp2_with fail
  refine (H.out _).mono ?_
  rintro e w1 ⟨rfl, rfl⟩
  go_wp2
  go_ret
  exact ⟨rfl, Below.refl _ _⟩

theorem rblock_256 (w : World) : Calls Tryd.prog 17 #[.int .i64 256] w fun e w' => e = .returned (.int .i64 64) ∧ w' = w := by
  go_enter Tryd.func17, Tryd.ntmps17
  go_wp2
  go_ret
  exact ⟨rfl, rfl⟩

set_option maxHeartbeats 2000000 in
theorem rsum_256_short (key text : ByteArray) (w : World) (hk : key.size ≤ 64) (hk2 : key.size < 536870912) (ht : text.size < 536870912) :
    Calls Tryd.prog 16 #[.int .i64 256, .string key, .string text] w fun e w' => e = .returned (.string (hmacOf 256 64 key text)) ∧ Below w.heap.size w w' := by
  have hko : keyOf 256 64 key = key := if_neg (by omega)
  obtain ⟨R, hR⟩ : ∃ R, R = hmacOf 256 64 key text := ⟨_, rfl⟩
  have hR' := hR
  unfold hmacOf at hR'
  rw [hko] at hR'
  have HRR := Lib.hid hR; clear hR hko
  have g1 : decide ((key.size : Int) > 64) = false := by simp; omega
  have g2 : ¬ (64 : Int) < (key.size : Int) := by omega
  
  have hks : key.size ≤ 64 := hk
  obtain ⟨K, hKe⟩ : ∃ K, K = key := ⟨_, rfl⟩
  rw [← hKe] at hR' hks
  obtain ⟨I, hI⟩ : ∃ I, I = toB (maskL 64 54 (nums K)) := ⟨_, rfl⟩
  obtain ⟨O, hO⟩ : ∃ O, O = toB (maskL 64 92 (nums K)) := ⟨_, rfl⟩
  have hIs : I.size = 64 := by rw [hI, toB_size, maskL_length]
  have hOs : O.size = 64 := by rw [hO, toB_size, maskL_length]
  rw [← hI, ← hO] at hR'
  have c1 : ¬ 9223372036854775807 < I.size + text.size := by omega
  obtain ⟨T, hT⟩ : ∃ T, T = I ++ text := ⟨_, rfl⟩
  have hTs : T.size < 1073741824 := by rw [hT, ByteArray.size_append]; omega
  have HS2 := Lib.hid (fun X => T256.ref T X hTs)
  have hDs := sumOf_size_256 T
  rw [← hT] at hR'
  obtain ⟨D, hD⟩ : ∃ D, D = sumOf 256 T := ⟨_, rfl⟩
  rw [← hD] at hR' hDs HS2
  have c2 : ¬ 9223372036854775807 < O.size + D.size := by omega
  obtain ⟨U, hU⟩ : ∃ U, U = O ++ D := ⟨_, rfl⟩
  have hUs : U.size < 1073741824 := by rw [hU, ByteArray.size_append]; omega
  have HS3 := Lib.hid (fun X => T256.ref U X hUs)
  rw [← hU] at hR'
  rw [← hR'] at HS3
  have s1 : ∀ X, (Op.stringOp .add I text).run Tryd.prog X = .ok (.string T) X := by rw [hT]; exact fun X => run_string_add_sum X I text (by omega)
  have s2 : ∀ X, (Op.stringOp .add O D).run Tryd.prog X = .ok (.string U) X := by rw [hU]; exact fun X => run_string_add_sum X O D (by omega)
  have HI := Lib.hid hI; have HO := Lib.hid hO; have HKS := Lib.hid hks
  clear hUs hTs hDs hIs hOs hks hD hT hU hI hO hR' c1 c2 hk hk2 ht
  subst hKe
  have hmk : ∀ X, (Instr.makeSlice 27 (.int .i64 64) (.int .i64 64)).run Tryd.prog X = .ok (.slice (some ⟨X.heap.size, 0, none⟩) 64 64) (X.alloc (.cells (valsK .u8 (List.replicate 64 0)) 5)) := fun X => made_row 64 (by decide) X
  go_enter Tryd.func16, Tryd.ntmps16
  go_wp2_with fail
  refine (rblock_256 _).mono ?_
  rintro e w0 ⟨rfl, rfl⟩
  go_wp2_with fail
  obtain ⟨w1, hw1⟩ : ∃ x, x = w0 := ⟨_, rfl⟩
  have HB1 := Lib.hid (show Below w0.heap.size w0 w1 by rw [hw1]; exact Below.refl _ _)
  rw [← hw1]
  clear hw1
  go_wp2_with fail
  go_region
  · have HIO := Lib.hid (show Io w1 (w1.heap.size) (w1.heap.size + 1) 64 (nums K) 0 ((w1.alloc (.cells (valsK .u8 (List.replicate 64 0)) 5)).alloc (.cells (valsK .u8 (List.replicate 64 0)) 5)).drew from by
      have r1 : By w1.heap.size (List.replicate 64 0) ((w1.alloc (.cells (valsK .u8 (List.replicate 64 0)) 5)).alloc (.cells (valsK .u8 (List.replicate 64 0)) 5)).drew := keepAlloc (heap_alloc_new w1 _) _
      have r2 : By (w1.heap.size + 1) (List.replicate 64 0) ((w1.alloc (.cells (valsK .u8 (List.replicate 64 0)) 5)).alloc (.cells (valsK .u8 (List.replicate 64 0)) 5)).drew := by
        have := heap_alloc_new (w1.alloc (.cells (valsK .u8 (List.replicate 64 0)) 5)) (.cells (valsK .u8 (List.replicate 64 0)) 5)
        rw [alloc_size] at this
        exact this
      refine ⟨?_, ?_, by omega, by omega, by omega, (below_alloc (below_alloc (Below.refl _ _) _) _).drew⟩
      · rw [maskZ_zero]; exact r1
      · rw [maskZ_zero]; exact r2)
    go_wp2
    go_loopw [10, 11] (fun x _ wr => ∃ k : Nat, k ≤ 64 ∧ x = .int .i64 (k : Nat) ∧ Io w1 (w1.heap.size) (w1.heap.size + 1) 64 (nums K) k wr) (fun x _ _ => 64 - (intOf x).toNat)
    case atStart => exact ⟨0, Nat.zero_le _, rfl, HIO.out⟩
    case round =>
      obtain ⟨k, hk, rfl, hQ⟩ := hrel
      clear HIO
      by_cases hlt : k < 64
      · have i0 := hQ.hi.cell (j := k) (x := 0) (by rw [maskZ_get hlt, if_neg (by omega)])
        have i1 := hQ.hi.frozen k
        have o1 := hQ.ho.frozen k
        have k1 : (k : Int) < 64 := by omega
        by_cases hkk : k < K.size
        · obtain ⟨x, hx⟩ : ∃ x, x = (nums K).getD k 0 := ⟨_, rfl⟩
          have xa : (K[k].toNat : Int) = (x : Int) := by rw [hx, List.getD_eq_getElem?_getD, nums_get K k hkk]; rfl
          have xl : x < 256 := by rw [hx]; exact getD_lt (nums_lt K) k
          obtain ⟨y, hy⟩ : ∃ y, y = x ^^^ 54 := ⟨_, rfl⟩
          obtain ⟨z, hz⟩ : ∃ z, z = x ^^^ 92 := ⟨_, rfl⟩
          have e1 := u8_xor_nat x 54 xl (by decide)
          have e2 := u8_xor_nat x 92 xl (by decide)
          rw [← hy] at e1
          rw [← hz] at e2
          have e1' : bits .xor .u8 (x : Int) 54 = (y : Int) := e1
          have e2' : bits .xor .u8 (x : Int) 92 = (z : Int) := e2
          have hm := hQ.mid (y := y) hlt
          have HS := Lib.hid (hQ.step hlt hx hy hz)
          clear hQ hx hy hz xl e1 e2
          go_wp2
          go_roundw
          case rel => exact ⟨k + 1, by omega, by go_num, HS.out⟩
          case measure => simp [intOf]; omega
        · have hx : 0 = (nums K).getD k 0 := by rw [List.getD_eq_getElem?_getD, List.getElem?_eq_none (by rw [nums_length]; omega)]; rfl
          have hm : (wr.setCell ⟨w1.heap.size, k, none⟩ (.int .u8 54)).cell? ⟨w1.heap.size + 1, k, none⟩ = some (.int .u8 0) := hQ.mid (y := 54) hlt
          have HS := Lib.hid (hQ.step hlt hx (show 54 = 0 ^^^ 54 by decide) (show 92 = 0 ^^^ 92 by decide))
          have hkk2 : ¬ (k : Int) < (K.size : Int) := by omega
          have x54 : bits .xor .u8 0 54 = 54 := by decide
          have x92 : bits .xor .u8 0 92 = 92 := by decide
          clear hQ hx
          go_wp2
          go_roundw
          case rel => exact ⟨k + 1, by omega, by go_num, HS.out⟩
          case measure => simp [intOf]; omega
      · obtain rfl : k = 64 := by omega
        have ci : ∀ X : World, Below wr.heap.size wr X → (convert 27 9 (.slice (some ⟨w1.heap.size, 0, none⟩) 64 64)).run Tryd.prog X = .ok (.string I) X := fun X hX => by
          have h := By.back (keepBlock hQ.hi hX) 64 64 (maskZ_length _ _ _ _).symm (by rw [maskZ_all]; exact maskL_lt (nums_lt K) (by decide))
          rw [maskZ_all, ← HI.out] at h
          exact h
        have co : ∀ X : World, Below wr.heap.size wr X → (convert 27 9 (.slice (some ⟨w1.heap.size + 1, 0, none⟩) 64 64)).run Tryd.prog X = .ok (.string O) X := fun X hX => by
          have h := By.back (keepBlock hQ.ho hX) 64 64 (maskZ_length _ _ _ _).symm (by rw [maskZ_all]; exact maskL_lt (nums_lt K) (by decide))
          rw [maskZ_all, ← HO.out] at h
          exact h
        have HC := Lib.hid (fun X h => And.intro (ci X h) (co X h))
        have HB2 := Lib.hid (below_link HB1.out hQ.below)
        have hd : Below wr.heap.size wr wr.drew := (Below.refl _ _).drew
        clear ci co hQ hlt
        go_wp2
        go_region_held3 (fun X => (convert 27 9 (.slice (some ⟨w1.heap.size, 0, none⟩) 64 64)).run Tryd.prog X = .ok (.string I) X ∧ (convert 27 9 (.slice (some ⟨w1.heap.size + 1, 0, none⟩) 64 64)).run Tryd.prog X = .ok (.string O) X) ((refine HC.out _ ?_; (with_reducible assumption)))
          (first | (go_at_call 12; with_reducible refine (HS2.out _).mono ?_; rintro e w' ⟨rfl, hbw⟩; have hbx' := below_link (by with_reducible assumption) hbw) | (go_at_call 12; with_reducible refine (HS3.out _).mono ?_; rintro e w' ⟨rfl, hbw⟩; have hbx' := below_link (by with_reducible assumption) hbw))
        all_goals (go_wp2; go_ret)
        all_goals exact ⟨congrArg (fun r => Ending.returned (.string r)) HRR.out, below_link HB2.out (by with_reducible assumption)⟩
  · have HIO := Lib.hid (show Io w1 (w1.heap.size + 1) (w1.heap.size) 64 (nums K) 0 ((w1.alloc (.cells (valsK .u8 (List.replicate 64 0)) 5)).alloc (.cells (valsK .u8 (List.replicate 64 0)) 5)).drew from by
      have r1 : By w1.heap.size (List.replicate 64 0) ((w1.alloc (.cells (valsK .u8 (List.replicate 64 0)) 5)).alloc (.cells (valsK .u8 (List.replicate 64 0)) 5)).drew := keepAlloc (heap_alloc_new w1 _) _
      have r2 : By (w1.heap.size + 1) (List.replicate 64 0) ((w1.alloc (.cells (valsK .u8 (List.replicate 64 0)) 5)).alloc (.cells (valsK .u8 (List.replicate 64 0)) 5)).drew := by
        have := heap_alloc_new (w1.alloc (.cells (valsK .u8 (List.replicate 64 0)) 5)) (.cells (valsK .u8 (List.replicate 64 0)) 5)
        rw [alloc_size] at this
        exact this
      refine ⟨?_, ?_, by omega, by omega, by omega, (below_alloc (below_alloc (Below.refl _ _) _) _).drew⟩
      · rw [maskZ_zero]; exact r2
      · rw [maskZ_zero]; exact r1)
    go_wp2
    go_loopw [10, 11] (fun x _ wr => ∃ k : Nat, k ≤ 64 ∧ x = .int .i64 (k : Nat) ∧ Io w1 (w1.heap.size + 1) (w1.heap.size) 64 (nums K) k wr) (fun x _ _ => 64 - (intOf x).toNat)
    case atStart => exact ⟨0, Nat.zero_le _, rfl, HIO.out⟩
    case round =>
      obtain ⟨k, hk, rfl, hQ⟩ := hrel
      clear HIO
      by_cases hlt : k < 64
      · have i0 := hQ.hi.cell (j := k) (x := 0) (by rw [maskZ_get hlt, if_neg (by omega)])
        have i1 := hQ.hi.frozen k
        have o1 := hQ.ho.frozen k
        have k1 : (k : Int) < 64 := by omega
        by_cases hkk : k < K.size
        · obtain ⟨x, hx⟩ : ∃ x, x = (nums K).getD k 0 := ⟨_, rfl⟩
          have xa : (K[k].toNat : Int) = (x : Int) := by rw [hx, List.getD_eq_getElem?_getD, nums_get K k hkk]; rfl
          have xl : x < 256 := by rw [hx]; exact getD_lt (nums_lt K) k
          obtain ⟨y, hy⟩ : ∃ y, y = x ^^^ 54 := ⟨_, rfl⟩
          obtain ⟨z, hz⟩ : ∃ z, z = x ^^^ 92 := ⟨_, rfl⟩
          have e1 := u8_xor_nat x 54 xl (by decide)
          have e2 := u8_xor_nat x 92 xl (by decide)
          rw [← hy] at e1
          rw [← hz] at e2
          have e1' : bits .xor .u8 (x : Int) 54 = (y : Int) := e1
          have e2' : bits .xor .u8 (x : Int) 92 = (z : Int) := e2
          have hm := hQ.mid (y := y) hlt
          have HS := Lib.hid (hQ.step hlt hx hy hz)
          clear hQ hx hy hz xl e1 e2
          go_wp2
          go_roundw
          case rel => exact ⟨k + 1, by omega, by go_num, HS.out⟩
          case measure => simp [intOf]; omega
        · have hx : 0 = (nums K).getD k 0 := by rw [List.getD_eq_getElem?_getD, List.getElem?_eq_none (by rw [nums_length]; omega)]; rfl
          have hm : (wr.setCell ⟨w1.heap.size + 1, k, none⟩ (.int .u8 54)).cell? ⟨w1.heap.size, k, none⟩ = some (.int .u8 0) := hQ.mid (y := 54) hlt
          have HS := Lib.hid (hQ.step hlt hx (show 54 = 0 ^^^ 54 by decide) (show 92 = 0 ^^^ 92 by decide))
          have hkk2 : ¬ (k : Int) < (K.size : Int) := by omega
          have x54 : bits .xor .u8 0 54 = 54 := by decide
          have x92 : bits .xor .u8 0 92 = 92 := by decide
          clear hQ hx
          go_wp2
          go_roundw
          case rel => exact ⟨k + 1, by omega, by go_num, HS.out⟩
          case measure => simp [intOf]; omega
      · obtain rfl : k = 64 := by omega
        have ci : ∀ X : World, Below wr.heap.size wr X → (convert 27 9 (.slice (some ⟨w1.heap.size + 1, 0, none⟩) 64 64)).run Tryd.prog X = .ok (.string I) X := fun X hX => by
          have h := By.back (keepBlock hQ.hi hX) 64 64 (maskZ_length _ _ _ _).symm (by rw [maskZ_all]; exact maskL_lt (nums_lt K) (by decide))
          rw [maskZ_all, ← HI.out] at h
          exact h
        have co : ∀ X : World, Below wr.heap.size wr X → (convert 27 9 (.slice (some ⟨w1.heap.size, 0, none⟩) 64 64)).run Tryd.prog X = .ok (.string O) X := fun X hX => by
          have h := By.back (keepBlock hQ.ho hX) 64 64 (maskZ_length _ _ _ _).symm (by rw [maskZ_all]; exact maskL_lt (nums_lt K) (by decide))
          rw [maskZ_all, ← HO.out] at h
          exact h
        have HC := Lib.hid (fun X h => And.intro (ci X h) (co X h))
        have HB2 := Lib.hid (below_link HB1.out hQ.below)
        have hd : Below wr.heap.size wr wr.drew := (Below.refl _ _).drew
        clear ci co hQ hlt
        go_wp2
        go_region_held3 (fun X => (convert 27 9 (.slice (some ⟨w1.heap.size + 1, 0, none⟩) 64 64)).run Tryd.prog X = .ok (.string I) X ∧ (convert 27 9 (.slice (some ⟨w1.heap.size, 0, none⟩) 64 64)).run Tryd.prog X = .ok (.string O) X) ((refine HC.out _ ?_; (with_reducible assumption)))
          (first | (go_at_call 12; with_reducible refine (HS2.out _).mono ?_; rintro e w' ⟨rfl, hbw⟩; have hbx' := below_link (by with_reducible assumption) hbw) | (go_at_call 12; with_reducible refine (HS3.out _).mono ?_; rintro e w' ⟨rfl, hbw⟩; have hbx' := below_link (by with_reducible assumption) hbw))
        all_goals (go_wp2; go_ret)
        all_goals exact ⟨congrArg (fun r => Ending.returned (.string r)) HRR.out, below_link HB2.out (by with_reducible assumption)⟩

set_option maxHeartbeats 2000000 in
theorem rsum_256_long (key text : ByteArray) (w : World) (hk : 64 < key.size) (hk2 : key.size < 536870912) (ht : text.size < 536870912) :
    Calls Tryd.prog 16 #[.int .i64 256, .string key, .string text] w fun e w' => e = .returned (.string (hmacOf 256 64 key text)) ∧ Below w.heap.size w w' := by
  have hko : keyOf 256 64 key = sumOf 256 key := if_pos hk
  obtain ⟨R, hR⟩ : ∃ R, R = hmacOf 256 64 key text := ⟨_, rfl⟩
  have hR' := hR
  unfold hmacOf at hR'
  rw [hko] at hR'
  have HRR := Lib.hid hR; clear hR hko
  have g1 : decide ((key.size : Int) > 64) = true := by simp; omega
  have g2 : (64 : Int) < (key.size : Int) := by omega
  have HS1 := Lib.hid (fun X => T256.ref key X (by omega))
  have hks : (sumOf 256 key).size ≤ 64 := by rw [sumOf_size_256]; decide
  obtain ⟨K, hKe⟩ : ∃ K, K = sumOf 256 key := ⟨_, rfl⟩
  rw [← hKe] at hR' hks HS1
  obtain ⟨I, hI⟩ : ∃ I, I = toB (maskL 64 54 (nums K)) := ⟨_, rfl⟩
  obtain ⟨O, hO⟩ : ∃ O, O = toB (maskL 64 92 (nums K)) := ⟨_, rfl⟩
  have hIs : I.size = 64 := by rw [hI, toB_size, maskL_length]
  have hOs : O.size = 64 := by rw [hO, toB_size, maskL_length]
  rw [← hI, ← hO] at hR'
  have c1 : ¬ 9223372036854775807 < I.size + text.size := by omega
  obtain ⟨T, hT⟩ : ∃ T, T = I ++ text := ⟨_, rfl⟩
  have hTs : T.size < 1073741824 := by rw [hT, ByteArray.size_append]; omega
  have HS2 := Lib.hid (fun X => T256.ref T X hTs)
  have hDs := sumOf_size_256 T
  rw [← hT] at hR'
  obtain ⟨D, hD⟩ : ∃ D, D = sumOf 256 T := ⟨_, rfl⟩
  rw [← hD] at hR' hDs HS2
  have c2 : ¬ 9223372036854775807 < O.size + D.size := by omega
  obtain ⟨U, hU⟩ : ∃ U, U = O ++ D := ⟨_, rfl⟩
  have hUs : U.size < 1073741824 := by rw [hU, ByteArray.size_append]; omega
  have HS3 := Lib.hid (fun X => T256.ref U X hUs)
  rw [← hU] at hR'
  rw [← hR'] at HS3
  have s1 : ∀ X, (Op.stringOp .add I text).run Tryd.prog X = .ok (.string T) X := by rw [hT]; exact fun X => run_string_add_sum X I text (by omega)
  have s2 : ∀ X, (Op.stringOp .add O D).run Tryd.prog X = .ok (.string U) X := by rw [hU]; exact fun X => run_string_add_sum X O D (by omega)
  have HI := Lib.hid hI; have HO := Lib.hid hO; have HKS := Lib.hid hks
  clear hUs hTs hDs hIs hOs hks hD hT hU hI hO hR' c1 c2 hk hk2 ht
  clear hKe
  have hmk : ∀ X, (Instr.makeSlice 27 (.int .i64 64) (.int .i64 64)).run Tryd.prog X = .ok (.slice (some ⟨X.heap.size, 0, none⟩) 64 64) (X.alloc (.cells (valsK .u8 (List.replicate 64 0)) 5)) := fun X => made_row 64 (by decide) X
  go_enter Tryd.func16, Tryd.ntmps16
  go_wp2_with fail
  refine (rblock_256 _).mono ?_
  rintro e w0 ⟨rfl, rfl⟩
  go_wp2_with fail
  refine (HS1.out _).mono ?_
  rintro e w1 ⟨rfl, hb1⟩
  have HB1 := Lib.hid hb1; clear hb1
  go_wp2_with fail
  go_region
  · have HIO := Lib.hid (show Io w1 (w1.heap.size) (w1.heap.size + 1) 64 (nums K) 0 ((w1.alloc (.cells (valsK .u8 (List.replicate 64 0)) 5)).alloc (.cells (valsK .u8 (List.replicate 64 0)) 5)).drew from by
      have r1 : By w1.heap.size (List.replicate 64 0) ((w1.alloc (.cells (valsK .u8 (List.replicate 64 0)) 5)).alloc (.cells (valsK .u8 (List.replicate 64 0)) 5)).drew := keepAlloc (heap_alloc_new w1 _) _
      have r2 : By (w1.heap.size + 1) (List.replicate 64 0) ((w1.alloc (.cells (valsK .u8 (List.replicate 64 0)) 5)).alloc (.cells (valsK .u8 (List.replicate 64 0)) 5)).drew := by
        have := heap_alloc_new (w1.alloc (.cells (valsK .u8 (List.replicate 64 0)) 5)) (.cells (valsK .u8 (List.replicate 64 0)) 5)
        rw [alloc_size] at this
        exact this
      refine ⟨?_, ?_, by omega, by omega, by omega, (below_alloc (below_alloc (Below.refl _ _) _) _).drew⟩
      · rw [maskZ_zero]; exact r1
      · rw [maskZ_zero]; exact r2)
    go_wp2
    go_loopw [10, 11] (fun x _ wr => ∃ k : Nat, k ≤ 64 ∧ x = .int .i64 (k : Nat) ∧ Io w1 (w1.heap.size) (w1.heap.size + 1) 64 (nums K) k wr) (fun x _ _ => 64 - (intOf x).toNat)
    case atStart => exact ⟨0, Nat.zero_le _, rfl, HIO.out⟩
    case round =>
      obtain ⟨k, hk, rfl, hQ⟩ := hrel
      clear HIO
      by_cases hlt : k < 64
      · have i0 := hQ.hi.cell (j := k) (x := 0) (by rw [maskZ_get hlt, if_neg (by omega)])
        have i1 := hQ.hi.frozen k
        have o1 := hQ.ho.frozen k
        have k1 : (k : Int) < 64 := by omega
        by_cases hkk : k < K.size
        · obtain ⟨x, hx⟩ : ∃ x, x = (nums K).getD k 0 := ⟨_, rfl⟩
          have xa : (K[k].toNat : Int) = (x : Int) := by rw [hx, List.getD_eq_getElem?_getD, nums_get K k hkk]; rfl
          have xl : x < 256 := by rw [hx]; exact getD_lt (nums_lt K) k
          obtain ⟨y, hy⟩ : ∃ y, y = x ^^^ 54 := ⟨_, rfl⟩
          obtain ⟨z, hz⟩ : ∃ z, z = x ^^^ 92 := ⟨_, rfl⟩
          have e1 := u8_xor_nat x 54 xl (by decide)
          have e2 := u8_xor_nat x 92 xl (by decide)
          rw [← hy] at e1
          rw [← hz] at e2
          have e1' : bits .xor .u8 (x : Int) 54 = (y : Int) := e1
          have e2' : bits .xor .u8 (x : Int) 92 = (z : Int) := e2
          have hm := hQ.mid (y := y) hlt
          have HS := Lib.hid (hQ.step hlt hx hy hz)
          clear hQ hx hy hz xl e1 e2
          go_wp2
          go_roundw
          case rel => exact ⟨k + 1, by omega, by go_num, HS.out⟩
          case measure => simp [intOf]; omega
        · have hx : 0 = (nums K).getD k 0 := by rw [List.getD_eq_getElem?_getD, List.getElem?_eq_none (by rw [nums_length]; omega)]; rfl
          have hm : (wr.setCell ⟨w1.heap.size, k, none⟩ (.int .u8 54)).cell? ⟨w1.heap.size + 1, k, none⟩ = some (.int .u8 0) := hQ.mid (y := 54) hlt
          have HS := Lib.hid (hQ.step hlt hx (show 54 = 0 ^^^ 54 by decide) (show 92 = 0 ^^^ 92 by decide))
          have hkk2 : ¬ (k : Int) < (K.size : Int) := by omega
          have x54 : bits .xor .u8 0 54 = 54 := by decide
          have x92 : bits .xor .u8 0 92 = 92 := by decide
          clear hQ hx
          go_wp2
          go_roundw
          case rel => exact ⟨k + 1, by omega, by go_num, HS.out⟩
          case measure => simp [intOf]; omega
      · obtain rfl : k = 64 := by omega
        have ci : ∀ X : World, Below wr.heap.size wr X → (convert 27 9 (.slice (some ⟨w1.heap.size, 0, none⟩) 64 64)).run Tryd.prog X = .ok (.string I) X := fun X hX => by
          have h := By.back (keepBlock hQ.hi hX) 64 64 (maskZ_length _ _ _ _).symm (by rw [maskZ_all]; exact maskL_lt (nums_lt K) (by decide))
          rw [maskZ_all, ← HI.out] at h
          exact h
        have co : ∀ X : World, Below wr.heap.size wr X → (convert 27 9 (.slice (some ⟨w1.heap.size + 1, 0, none⟩) 64 64)).run Tryd.prog X = .ok (.string O) X := fun X hX => by
          have h := By.back (keepBlock hQ.ho hX) 64 64 (maskZ_length _ _ _ _).symm (by rw [maskZ_all]; exact maskL_lt (nums_lt K) (by decide))
          rw [maskZ_all, ← HO.out] at h
          exact h
        have HC := Lib.hid (fun X h => And.intro (ci X h) (co X h))
        have HB2 := Lib.hid (below_link HB1.out hQ.below)
        have hd : Below wr.heap.size wr wr.drew := (Below.refl _ _).drew
        clear ci co hQ hlt
        go_wp2
        go_region_held3 (fun X => (convert 27 9 (.slice (some ⟨w1.heap.size, 0, none⟩) 64 64)).run Tryd.prog X = .ok (.string I) X ∧ (convert 27 9 (.slice (some ⟨w1.heap.size + 1, 0, none⟩) 64 64)).run Tryd.prog X = .ok (.string O) X) ((refine HC.out _ ?_; (with_reducible assumption)))
          (first | (go_at_call 12; with_reducible refine (HS2.out _).mono ?_; rintro e w' ⟨rfl, hbw⟩; have hbx' := below_link (by with_reducible assumption) hbw) | (go_at_call 12; with_reducible refine (HS3.out _).mono ?_; rintro e w' ⟨rfl, hbw⟩; have hbx' := below_link (by with_reducible assumption) hbw))
        all_goals (go_wp2; go_ret)
        all_goals exact ⟨congrArg (fun r => Ending.returned (.string r)) HRR.out, below_link HB2.out (by with_reducible assumption)⟩
  · have HIO := Lib.hid (show Io w1 (w1.heap.size + 1) (w1.heap.size) 64 (nums K) 0 ((w1.alloc (.cells (valsK .u8 (List.replicate 64 0)) 5)).alloc (.cells (valsK .u8 (List.replicate 64 0)) 5)).drew from by
      have r1 : By w1.heap.size (List.replicate 64 0) ((w1.alloc (.cells (valsK .u8 (List.replicate 64 0)) 5)).alloc (.cells (valsK .u8 (List.replicate 64 0)) 5)).drew := keepAlloc (heap_alloc_new w1 _) _
      have r2 : By (w1.heap.size + 1) (List.replicate 64 0) ((w1.alloc (.cells (valsK .u8 (List.replicate 64 0)) 5)).alloc (.cells (valsK .u8 (List.replicate 64 0)) 5)).drew := by
        have := heap_alloc_new (w1.alloc (.cells (valsK .u8 (List.replicate 64 0)) 5)) (.cells (valsK .u8 (List.replicate 64 0)) 5)
        rw [alloc_size] at this
        exact this
      refine ⟨?_, ?_, by omega, by omega, by omega, (below_alloc (below_alloc (Below.refl _ _) _) _).drew⟩
      · rw [maskZ_zero]; exact r2
      · rw [maskZ_zero]; exact r1)
    go_wp2
    go_loopw [10, 11] (fun x _ wr => ∃ k : Nat, k ≤ 64 ∧ x = .int .i64 (k : Nat) ∧ Io w1 (w1.heap.size + 1) (w1.heap.size) 64 (nums K) k wr) (fun x _ _ => 64 - (intOf x).toNat)
    case atStart => exact ⟨0, Nat.zero_le _, rfl, HIO.out⟩
    case round =>
      obtain ⟨k, hk, rfl, hQ⟩ := hrel
      clear HIO
      by_cases hlt : k < 64
      · have i0 := hQ.hi.cell (j := k) (x := 0) (by rw [maskZ_get hlt, if_neg (by omega)])
        have i1 := hQ.hi.frozen k
        have o1 := hQ.ho.frozen k
        have k1 : (k : Int) < 64 := by omega
        by_cases hkk : k < K.size
        · obtain ⟨x, hx⟩ : ∃ x, x = (nums K).getD k 0 := ⟨_, rfl⟩
          have xa : (K[k].toNat : Int) = (x : Int) := by rw [hx, List.getD_eq_getElem?_getD, nums_get K k hkk]; rfl
          have xl : x < 256 := by rw [hx]; exact getD_lt (nums_lt K) k
          obtain ⟨y, hy⟩ : ∃ y, y = x ^^^ 54 := ⟨_, rfl⟩
          obtain ⟨z, hz⟩ : ∃ z, z = x ^^^ 92 := ⟨_, rfl⟩
          have e1 := u8_xor_nat x 54 xl (by decide)
          have e2 := u8_xor_nat x 92 xl (by decide)
          rw [← hy] at e1
          rw [← hz] at e2
          have e1' : bits .xor .u8 (x : Int) 54 = (y : Int) := e1
          have e2' : bits .xor .u8 (x : Int) 92 = (z : Int) := e2
          have hm := hQ.mid (y := y) hlt
          have HS := Lib.hid (hQ.step hlt hx hy hz)
          clear hQ hx hy hz xl e1 e2
          go_wp2
          go_roundw
          case rel => exact ⟨k + 1, by omega, by go_num, HS.out⟩
          case measure => simp [intOf]; omega
        · have hx : 0 = (nums K).getD k 0 := by rw [List.getD_eq_getElem?_getD, List.getElem?_eq_none (by rw [nums_length]; omega)]; rfl
          have hm : (wr.setCell ⟨w1.heap.size + 1, k, none⟩ (.int .u8 54)).cell? ⟨w1.heap.size, k, none⟩ = some (.int .u8 0) := hQ.mid (y := 54) hlt
          have HS := Lib.hid (hQ.step hlt hx (show 54 = 0 ^^^ 54 by decide) (show 92 = 0 ^^^ 92 by decide))
          have hkk2 : ¬ (k : Int) < (K.size : Int) := by omega
          have x54 : bits .xor .u8 0 54 = 54 := by decide
          have x92 : bits .xor .u8 0 92 = 92 := by decide
          clear hQ hx
          go_wp2
          go_roundw
          case rel => exact ⟨k + 1, by omega, by go_num, HS.out⟩
          case measure => simp [intOf]; omega
      · obtain rfl : k = 64 := by omega
        have ci : ∀ X : World, Below wr.heap.size wr X → (convert 27 9 (.slice (some ⟨w1.heap.size + 1, 0, none⟩) 64 64)).run Tryd.prog X = .ok (.string I) X := fun X hX => by
          have h := By.back (keepBlock hQ.hi hX) 64 64 (maskZ_length _ _ _ _).symm (by rw [maskZ_all]; exact maskL_lt (nums_lt K) (by decide))
          rw [maskZ_all, ← HI.out] at h
          exact h
        have co : ∀ X : World, Below wr.heap.size wr X → (convert 27 9 (.slice (some ⟨w1.heap.size, 0, none⟩) 64 64)).run Tryd.prog X = .ok (.string O) X := fun X hX => by
          have h := By.back (keepBlock hQ.ho hX) 64 64 (maskZ_length _ _ _ _).symm (by rw [maskZ_all]; exact maskL_lt (nums_lt K) (by decide))
          rw [maskZ_all, ← HO.out] at h
          exact h
        have HC := Lib.hid (fun X h => And.intro (ci X h) (co X h))
        have HB2 := Lib.hid (below_link HB1.out hQ.below)
        have hd : Below wr.heap.size wr wr.drew := (Below.refl _ _).drew
        clear ci co hQ hlt
        go_wp2
        go_region_held3 (fun X => (convert 27 9 (.slice (some ⟨w1.heap.size + 1, 0, none⟩) 64 64)).run Tryd.prog X = .ok (.string I) X ∧ (convert 27 9 (.slice (some ⟨w1.heap.size, 0, none⟩) 64 64)).run Tryd.prog X = .ok (.string O) X) ((refine HC.out _ ?_; (with_reducible assumption)))
          (first | (go_at_call 12; with_reducible refine (HS2.out _).mono ?_; rintro e w' ⟨rfl, hbw⟩; have hbx' := below_link (by with_reducible assumption) hbw) | (go_at_call 12; with_reducible refine (HS3.out _).mono ?_; rintro e w' ⟨rfl, hbw⟩; have hbx' := below_link (by with_reducible assumption) hbw))
        all_goals (go_wp2; go_ret)
        all_goals exact ⟨congrArg (fun r => Ending.returned (.string r)) HRR.out, below_link HB2.out (by with_reducible assumption)⟩

theorem rsum_256 (key text : ByteArray) (w : World) (hk2 : key.size < 536870912) (ht : text.size < 536870912) :
    Calls Tryd.prog 16 #[.int .i64 256, .string key, .string text] w fun e w' => e = .returned (.string (hmacOf 256 64 key text)) ∧ Below w.heap.size w w' := by
  by_cases hk : 64 < key.size
  · exact rsum_256_long key text w hk hk2 ht
  · exact rsum_256_short key text w (by omega) hk2 ht
theorem rblock_384 (w : World) : Calls Tryd.prog 17 #[.int .i64 384] w fun e w' => e = .returned (.int .i64 128) ∧ w' = w := by
  go_enter Tryd.func17, Tryd.ntmps17
  go_wp2
  go_ret
  exact ⟨rfl, rfl⟩

set_option maxHeartbeats 2000000 in
theorem rsum_384_short (key text : ByteArray) (w : World) (hk : key.size ≤ 128) (hk2 : key.size < 536870912) (ht : text.size < 536870912) :
    Calls Tryd.prog 16 #[.int .i64 384, .string key, .string text] w fun e w' => e = .returned (.string (hmacOf 384 128 key text)) ∧ Below w.heap.size w w' := by
  have hko : keyOf 384 128 key = key := if_neg (by omega)
  obtain ⟨R, hR⟩ : ∃ R, R = hmacOf 384 128 key text := ⟨_, rfl⟩
  have hR' := hR
  unfold hmacOf at hR'
  rw [hko] at hR'
  have HRR := Lib.hid hR; clear hR hko
  have g1 : decide ((key.size : Int) > 128) = false := by simp; omega
  have g2 : ¬ (128 : Int) < (key.size : Int) := by omega
  
  have hks : key.size ≤ 128 := hk
  obtain ⟨K, hKe⟩ : ∃ K, K = key := ⟨_, rfl⟩
  rw [← hKe] at hR' hks
  obtain ⟨I, hI⟩ : ∃ I, I = toB (maskL 128 54 (nums K)) := ⟨_, rfl⟩
  obtain ⟨O, hO⟩ : ∃ O, O = toB (maskL 128 92 (nums K)) := ⟨_, rfl⟩
  have hIs : I.size = 128 := by rw [hI, toB_size, maskL_length]
  have hOs : O.size = 128 := by rw [hO, toB_size, maskL_length]
  rw [← hI, ← hO] at hR'
  have c1 : ¬ 9223372036854775807 < I.size + text.size := by omega
  obtain ⟨T, hT⟩ : ∃ T, T = I ++ text := ⟨_, rfl⟩
  have hTs : T.size < 1073741824 := by rw [hT, ByteArray.size_append]; omega
  have HS2 := Lib.hid (fun X => T384.ref T X hTs)
  have hDs := sumOf_size_384 T
  rw [← hT] at hR'
  obtain ⟨D, hD⟩ : ∃ D, D = sumOf 384 T := ⟨_, rfl⟩
  rw [← hD] at hR' hDs HS2
  have c2 : ¬ 9223372036854775807 < O.size + D.size := by omega
  obtain ⟨U, hU⟩ : ∃ U, U = O ++ D := ⟨_, rfl⟩
  have hUs : U.size < 1073741824 := by rw [hU, ByteArray.size_append]; omega
  have HS3 := Lib.hid (fun X => T384.ref U X hUs)
  rw [← hU] at hR'
  rw [← hR'] at HS3
  have s1 : ∀ X, (Op.stringOp .add I text).run Tryd.prog X = .ok (.string T) X := by rw [hT]; exact fun X => run_string_add_sum X I text (by omega)
  have s2 : ∀ X, (Op.stringOp .add O D).run Tryd.prog X = .ok (.string U) X := by rw [hU]; exact fun X => run_string_add_sum X O D (by omega)
  have HI := Lib.hid hI; have HO := Lib.hid hO; have HKS := Lib.hid hks
  clear hUs hTs hDs hIs hOs hks hD hT hU hI hO hR' c1 c2 hk hk2 ht
  subst hKe
  have hmk : ∀ X, (Instr.makeSlice 27 (.int .i64 128) (.int .i64 128)).run Tryd.prog X = .ok (.slice (some ⟨X.heap.size, 0, none⟩) 128 128) (X.alloc (.cells (valsK .u8 (List.replicate 128 0)) 5)) := fun X => made_row 128 (by decide) X
  go_enter Tryd.func16, Tryd.ntmps16
  go_wp2_with fail
  refine (rblock_384 _).mono ?_
  rintro e w0 ⟨rfl, rfl⟩
  go_wp2_with fail
  obtain ⟨w1, hw1⟩ : ∃ x, x = w0 := ⟨_, rfl⟩
  have HB1 := Lib.hid (show Below w0.heap.size w0 w1 by rw [hw1]; exact Below.refl _ _)
  rw [← hw1]
  clear hw1
  go_wp2_with fail
  go_region
  · have HIO := Lib.hid (show Io w1 (w1.heap.size) (w1.heap.size + 1) 128 (nums K) 0 ((w1.alloc (.cells (valsK .u8 (List.replicate 128 0)) 5)).alloc (.cells (valsK .u8 (List.replicate 128 0)) 5)).drew from by
      have r1 : By w1.heap.size (List.replicate 128 0) ((w1.alloc (.cells (valsK .u8 (List.replicate 128 0)) 5)).alloc (.cells (valsK .u8 (List.replicate 128 0)) 5)).drew := keepAlloc (heap_alloc_new w1 _) _
      have r2 : By (w1.heap.size + 1) (List.replicate 128 0) ((w1.alloc (.cells (valsK .u8 (List.replicate 128 0)) 5)).alloc (.cells (valsK .u8 (List.replicate 128 0)) 5)).drew := by
        have := heap_alloc_new (w1.alloc (.cells (valsK .u8 (List.replicate 128 0)) 5)) (.cells (valsK .u8 (List.replicate 128 0)) 5)
        rw [alloc_size] at this
        exact this
      refine ⟨?_, ?_, by omega, by omega, by omega, (below_alloc (below_alloc (Below.refl _ _) _) _).drew⟩
      · rw [maskZ_zero]; exact r1
      · rw [maskZ_zero]; exact r2)
    go_wp2
    go_loopw [10, 11] (fun x _ wr => ∃ k : Nat, k ≤ 128 ∧ x = .int .i64 (k : Nat) ∧ Io w1 (w1.heap.size) (w1.heap.size + 1) 128 (nums K) k wr) (fun x _ _ => 128 - (intOf x).toNat)
    case atStart => exact ⟨0, Nat.zero_le _, rfl, HIO.out⟩
    case round =>
      obtain ⟨k, hk, rfl, hQ⟩ := hrel
      clear HIO
      by_cases hlt : k < 128
      · have i0 := hQ.hi.cell (j := k) (x := 0) (by rw [maskZ_get hlt, if_neg (by omega)])
        have i1 := hQ.hi.frozen k
        have o1 := hQ.ho.frozen k
        have k1 : (k : Int) < 128 := by omega
        by_cases hkk : k < K.size
        · obtain ⟨x, hx⟩ : ∃ x, x = (nums K).getD k 0 := ⟨_, rfl⟩
          have xa : (K[k].toNat : Int) = (x : Int) := by rw [hx, List.getD_eq_getElem?_getD, nums_get K k hkk]; rfl
          have xl : x < 256 := by rw [hx]; exact getD_lt (nums_lt K) k
          obtain ⟨y, hy⟩ : ∃ y, y = x ^^^ 54 := ⟨_, rfl⟩
          obtain ⟨z, hz⟩ : ∃ z, z = x ^^^ 92 := ⟨_, rfl⟩
          have e1 := u8_xor_nat x 54 xl (by decide)
          have e2 := u8_xor_nat x 92 xl (by decide)
          rw [← hy] at e1
          rw [← hz] at e2
          have e1' : bits .xor .u8 (x : Int) 54 = (y : Int) := e1
          have e2' : bits .xor .u8 (x : Int) 92 = (z : Int) := e2
          have hm := hQ.mid (y := y) hlt
          have HS := Lib.hid (hQ.step hlt hx hy hz)
          clear hQ hx hy hz xl e1 e2
          go_wp2
          go_roundw
          case rel => exact ⟨k + 1, by omega, by go_num, HS.out⟩
          case measure => simp [intOf]; omega
        · have hx : 0 = (nums K).getD k 0 := by rw [List.getD_eq_getElem?_getD, List.getElem?_eq_none (by rw [nums_length]; omega)]; rfl
          have hm : (wr.setCell ⟨w1.heap.size, k, none⟩ (.int .u8 54)).cell? ⟨w1.heap.size + 1, k, none⟩ = some (.int .u8 0) := hQ.mid (y := 54) hlt
          have HS := Lib.hid (hQ.step hlt hx (show 54 = 0 ^^^ 54 by decide) (show 92 = 0 ^^^ 92 by decide))
          have hkk2 : ¬ (k : Int) < (K.size : Int) := by omega
          have x54 : bits .xor .u8 0 54 = 54 := by decide
          have x92 : bits .xor .u8 0 92 = 92 := by decide
          clear hQ hx
          go_wp2
          go_roundw
          case rel => exact ⟨k + 1, by omega, by go_num, HS.out⟩
          case measure => simp [intOf]; omega
      · obtain rfl : k = 128 := by omega
        have ci : ∀ X : World, Below wr.heap.size wr X → (convert 27 9 (.slice (some ⟨w1.heap.size, 0, none⟩) 128 128)).run Tryd.prog X = .ok (.string I) X := fun X hX => by
          have h := By.back (keepBlock hQ.hi hX) 128 128 (maskZ_length _ _ _ _).symm (by rw [maskZ_all]; exact maskL_lt (nums_lt K) (by decide))
          rw [maskZ_all, ← HI.out] at h
          exact h
        have co : ∀ X : World, Below wr.heap.size wr X → (convert 27 9 (.slice (some ⟨w1.heap.size + 1, 0, none⟩) 128 128)).run Tryd.prog X = .ok (.string O) X := fun X hX => by
          have h := By.back (keepBlock hQ.ho hX) 128 128 (maskZ_length _ _ _ _).symm (by rw [maskZ_all]; exact maskL_lt (nums_lt K) (by decide))
          rw [maskZ_all, ← HO.out] at h
          exact h
        have HC := Lib.hid (fun X h => And.intro (ci X h) (co X h))
        have HB2 := Lib.hid (below_link HB1.out hQ.below)
        have hd : Below wr.heap.size wr wr.drew := (Below.refl _ _).drew
        clear ci co hQ hlt
        go_wp2
        go_region_held3 (fun X => (convert 27 9 (.slice (some ⟨w1.heap.size, 0, none⟩) 128 128)).run Tryd.prog X = .ok (.string I) X ∧ (convert 27 9 (.slice (some ⟨w1.heap.size + 1, 0, none⟩) 128 128)).run Tryd.prog X = .ok (.string O) X) ((refine HC.out _ ?_; (with_reducible assumption)))
          (first | (go_at_call 12; with_reducible refine (HS2.out _).mono ?_; rintro e w' ⟨rfl, hbw⟩; have hbx' := below_link (by with_reducible assumption) hbw) | (go_at_call 12; with_reducible refine (HS3.out _).mono ?_; rintro e w' ⟨rfl, hbw⟩; have hbx' := below_link (by with_reducible assumption) hbw))
        all_goals (go_wp2; go_ret)
        all_goals exact ⟨congrArg (fun r => Ending.returned (.string r)) HRR.out, below_link HB2.out (by with_reducible assumption)⟩
  · have HIO := Lib.hid (show Io w1 (w1.heap.size + 1) (w1.heap.size) 128 (nums K) 0 ((w1.alloc (.cells (valsK .u8 (List.replicate 128 0)) 5)).alloc (.cells (valsK .u8 (List.replicate 128 0)) 5)).drew from by
      have r1 : By w1.heap.size (List.replicate 128 0) ((w1.alloc (.cells (valsK .u8 (List.replicate 128 0)) 5)).alloc (.cells (valsK .u8 (List.replicate 128 0)) 5)).drew := keepAlloc (heap_alloc_new w1 _) _
      have r2 : By (w1.heap.size + 1) (List.replicate 128 0) ((w1.alloc (.cells (valsK .u8 (List.replicate 128 0)) 5)).alloc (.cells (valsK .u8 (List.replicate 128 0)) 5)).drew := by
        have := heap_alloc_new (w1.alloc (.cells (valsK .u8 (List.replicate 128 0)) 5)) (.cells (valsK .u8 (List.replicate 128 0)) 5)
        rw [alloc_size] at this
        exact this
      refine ⟨?_, ?_, by omega, by omega, by omega, (below_alloc (below_alloc (Below.refl _ _) _) _).drew⟩
      · rw [maskZ_zero]; exact r2
      · rw [maskZ_zero]; exact r1)
    go_wp2
    go_loopw [10, 11] (fun x _ wr => ∃ k : Nat, k ≤ 128 ∧ x = .int .i64 (k : Nat) ∧ Io w1 (w1.heap.size + 1) (w1.heap.size) 128 (nums K) k wr) (fun x _ _ => 128 - (intOf x).toNat)
    case atStart => exact ⟨0, Nat.zero_le _, rfl, HIO.out⟩
    case round =>
      obtain ⟨k, hk, rfl, hQ⟩ := hrel
      clear HIO
      by_cases hlt : k < 128
      · have i0 := hQ.hi.cell (j := k) (x := 0) (by rw [maskZ_get hlt, if_neg (by omega)])
        have i1 := hQ.hi.frozen k
        have o1 := hQ.ho.frozen k
        have k1 : (k : Int) < 128 := by omega
        by_cases hkk : k < K.size
        · obtain ⟨x, hx⟩ : ∃ x, x = (nums K).getD k 0 := ⟨_, rfl⟩
          have xa : (K[k].toNat : Int) = (x : Int) := by rw [hx, List.getD_eq_getElem?_getD, nums_get K k hkk]; rfl
          have xl : x < 256 := by rw [hx]; exact getD_lt (nums_lt K) k
          obtain ⟨y, hy⟩ : ∃ y, y = x ^^^ 54 := ⟨_, rfl⟩
          obtain ⟨z, hz⟩ : ∃ z, z = x ^^^ 92 := ⟨_, rfl⟩
          have e1 := u8_xor_nat x 54 xl (by decide)
          have e2 := u8_xor_nat x 92 xl (by decide)
          rw [← hy] at e1
          rw [← hz] at e2
          have e1' : bits .xor .u8 (x : Int) 54 = (y : Int) := e1
          have e2' : bits .xor .u8 (x : Int) 92 = (z : Int) := e2
          have hm := hQ.mid (y := y) hlt
          have HS := Lib.hid (hQ.step hlt hx hy hz)
          clear hQ hx hy hz xl e1 e2
          go_wp2
          go_roundw
          case rel => exact ⟨k + 1, by omega, by go_num, HS.out⟩
          case measure => simp [intOf]; omega
        · have hx : 0 = (nums K).getD k 0 := by rw [List.getD_eq_getElem?_getD, List.getElem?_eq_none (by rw [nums_length]; omega)]; rfl
          have hm : (wr.setCell ⟨w1.heap.size + 1, k, none⟩ (.int .u8 54)).cell? ⟨w1.heap.size, k, none⟩ = some (.int .u8 0) := hQ.mid (y := 54) hlt
          have HS := Lib.hid (hQ.step hlt hx (show 54 = 0 ^^^ 54 by decide) (show 92 = 0 ^^^ 92 by decide))
          have hkk2 : ¬ (k : Int) < (K.size : Int) := by omega
          have x54 : bits .xor .u8 0 54 = 54 := by decide
          have x92 : bits .xor .u8 0 92 = 92 := by decide
          clear hQ hx
          go_wp2
          go_roundw
          case rel => exact ⟨k + 1, by omega, by go_num, HS.out⟩
          case measure => simp [intOf]; omega
      · obtain rfl : k = 128 := by omega
        have ci : ∀ X : World, Below wr.heap.size wr X → (convert 27 9 (.slice (some ⟨w1.heap.size + 1, 0, none⟩) 128 128)).run Tryd.prog X = .ok (.string I) X := fun X hX => by
          have h := By.back (keepBlock hQ.hi hX) 128 128 (maskZ_length _ _ _ _).symm (by rw [maskZ_all]; exact maskL_lt (nums_lt K) (by decide))
          rw [maskZ_all, ← HI.out] at h
          exact h
        have co : ∀ X : World, Below wr.heap.size wr X → (convert 27 9 (.slice (some ⟨w1.heap.size, 0, none⟩) 128 128)).run Tryd.prog X = .ok (.string O) X := fun X hX => by
          have h := By.back (keepBlock hQ.ho hX) 128 128 (maskZ_length _ _ _ _).symm (by rw [maskZ_all]; exact maskL_lt (nums_lt K) (by decide))
          rw [maskZ_all, ← HO.out] at h
          exact h
        have HC := Lib.hid (fun X h => And.intro (ci X h) (co X h))
        have HB2 := Lib.hid (below_link HB1.out hQ.below)
        have hd : Below wr.heap.size wr wr.drew := (Below.refl _ _).drew
        clear ci co hQ hlt
        go_wp2
        go_region_held3 (fun X => (convert 27 9 (.slice (some ⟨w1.heap.size + 1, 0, none⟩) 128 128)).run Tryd.prog X = .ok (.string I) X ∧ (convert 27 9 (.slice (some ⟨w1.heap.size, 0, none⟩) 128 128)).run Tryd.prog X = .ok (.string O) X) ((refine HC.out _ ?_; (with_reducible assumption)))
          (first | (go_at_call 12; with_reducible refine (HS2.out _).mono ?_; rintro e w' ⟨rfl, hbw⟩; have hbx' := below_link (by with_reducible assumption) hbw) | (go_at_call 12; with_reducible refine (HS3.out _).mono ?_; rintro e w' ⟨rfl, hbw⟩; have hbx' := below_link (by with_reducible assumption) hbw))
        all_goals (go_wp2; go_ret)
        all_goals exact ⟨congrArg (fun r => Ending.returned (.string r)) HRR.out, below_link HB2.out (by with_reducible assumption)⟩

set_option maxHeartbeats 2000000 in
theorem rsum_384_long (key text : ByteArray) (w : World) (hk : 128 < key.size) (hk2 : key.size < 536870912) (ht : text.size < 536870912) :
    Calls Tryd.prog 16 #[.int .i64 384, .string key, .string text] w fun e w' => e = .returned (.string (hmacOf 384 128 key text)) ∧ Below w.heap.size w w' := by
  have hko : keyOf 384 128 key = sumOf 384 key := if_pos hk
  obtain ⟨R, hR⟩ : ∃ R, R = hmacOf 384 128 key text := ⟨_, rfl⟩
  have hR' := hR
  unfold hmacOf at hR'
  rw [hko] at hR'
  have HRR := Lib.hid hR; clear hR hko
  have g1 : decide ((key.size : Int) > 128) = true := by simp; omega
  have g2 : (128 : Int) < (key.size : Int) := by omega
  have HS1 := Lib.hid (fun X => T384.ref key X (by omega))
  have hks : (sumOf 384 key).size ≤ 128 := by rw [sumOf_size_384]; decide
  obtain ⟨K, hKe⟩ : ∃ K, K = sumOf 384 key := ⟨_, rfl⟩
  rw [← hKe] at hR' hks HS1
  obtain ⟨I, hI⟩ : ∃ I, I = toB (maskL 128 54 (nums K)) := ⟨_, rfl⟩
  obtain ⟨O, hO⟩ : ∃ O, O = toB (maskL 128 92 (nums K)) := ⟨_, rfl⟩
  have hIs : I.size = 128 := by rw [hI, toB_size, maskL_length]
  have hOs : O.size = 128 := by rw [hO, toB_size, maskL_length]
  rw [← hI, ← hO] at hR'
  have c1 : ¬ 9223372036854775807 < I.size + text.size := by omega
  obtain ⟨T, hT⟩ : ∃ T, T = I ++ text := ⟨_, rfl⟩
  have hTs : T.size < 1073741824 := by rw [hT, ByteArray.size_append]; omega
  have HS2 := Lib.hid (fun X => T384.ref T X hTs)
  have hDs := sumOf_size_384 T
  rw [← hT] at hR'
  obtain ⟨D, hD⟩ : ∃ D, D = sumOf 384 T := ⟨_, rfl⟩
  rw [← hD] at hR' hDs HS2
  have c2 : ¬ 9223372036854775807 < O.size + D.size := by omega
  obtain ⟨U, hU⟩ : ∃ U, U = O ++ D := ⟨_, rfl⟩
  have hUs : U.size < 1073741824 := by rw [hU, ByteArray.size_append]; omega
  have HS3 := Lib.hid (fun X => T384.ref U X hUs)
  rw [← hU] at hR'
  rw [← hR'] at HS3
  have s1 : ∀ X, (Op.stringOp .add I text).run Tryd.prog X = .ok (.string T) X := by rw [hT]; exact fun X => run_string_add_sum X I text (by omega)
  have s2 : ∀ X, (Op.stringOp .add O D).run Tryd.prog X = .ok (.string U) X := by rw [hU]; exact fun X => run_string_add_sum X O D (by omega)
  have HI := Lib.hid hI; have HO := Lib.hid hO; have HKS := Lib.hid hks
  clear hUs hTs hDs hIs hOs hks hD hT hU hI hO hR' c1 c2 hk hk2 ht
  clear hKe
  have hmk : ∀ X, (Instr.makeSlice 27 (.int .i64 128) (.int .i64 128)).run Tryd.prog X = .ok (.slice (some ⟨X.heap.size, 0, none⟩) 128 128) (X.alloc (.cells (valsK .u8 (List.replicate 128 0)) 5)) := fun X => made_row 128 (by decide) X
  go_enter Tryd.func16, Tryd.ntmps16
  go_wp2_with fail
  refine (rblock_384 _).mono ?_
  rintro e w0 ⟨rfl, rfl⟩
  go_wp2_with fail
  refine (HS1.out _).mono ?_
  rintro e w1 ⟨rfl, hb1⟩
  have HB1 := Lib.hid hb1; clear hb1
  go_wp2_with fail
  go_region
  · have HIO := Lib.hid (show Io w1 (w1.heap.size) (w1.heap.size + 1) 128 (nums K) 0 ((w1.alloc (.cells (valsK .u8 (List.replicate 128 0)) 5)).alloc (.cells (valsK .u8 (List.replicate 128 0)) 5)).drew from by
      have r1 : By w1.heap.size (List.replicate 128 0) ((w1.alloc (.cells (valsK .u8 (List.replicate 128 0)) 5)).alloc (.cells (valsK .u8 (List.replicate 128 0)) 5)).drew := keepAlloc (heap_alloc_new w1 _) _
      have r2 : By (w1.heap.size + 1) (List.replicate 128 0) ((w1.alloc (.cells (valsK .u8 (List.replicate 128 0)) 5)).alloc (.cells (valsK .u8 (List.replicate 128 0)) 5)).drew := by
        have := heap_alloc_new (w1.alloc (.cells (valsK .u8 (List.replicate 128 0)) 5)) (.cells (valsK .u8 (List.replicate 128 0)) 5)
        rw [alloc_size] at this
        exact this
      refine ⟨?_, ?_, by omega, by omega, by omega, (below_alloc (below_alloc (Below.refl _ _) _) _).drew⟩
      · rw [maskZ_zero]; exact r1
      · rw [maskZ_zero]; exact r2)
    go_wp2
    go_loopw [10, 11] (fun x _ wr => ∃ k : Nat, k ≤ 128 ∧ x = .int .i64 (k : Nat) ∧ Io w1 (w1.heap.size) (w1.heap.size + 1) 128 (nums K) k wr) (fun x _ _ => 128 - (intOf x).toNat)
    case atStart => exact ⟨0, Nat.zero_le _, rfl, HIO.out⟩
    case round =>
      obtain ⟨k, hk, rfl, hQ⟩ := hrel
      clear HIO
      by_cases hlt : k < 128
      · have i0 := hQ.hi.cell (j := k) (x := 0) (by rw [maskZ_get hlt, if_neg (by omega)])
        have i1 := hQ.hi.frozen k
        have o1 := hQ.ho.frozen k
        have k1 : (k : Int) < 128 := by omega
        by_cases hkk : k < K.size
        · obtain ⟨x, hx⟩ : ∃ x, x = (nums K).getD k 0 := ⟨_, rfl⟩
          have xa : (K[k].toNat : Int) = (x : Int) := by rw [hx, List.getD_eq_getElem?_getD, nums_get K k hkk]; rfl
          have xl : x < 256 := by rw [hx]; exact getD_lt (nums_lt K) k
          obtain ⟨y, hy⟩ : ∃ y, y = x ^^^ 54 := ⟨_, rfl⟩
          obtain ⟨z, hz⟩ : ∃ z, z = x ^^^ 92 := ⟨_, rfl⟩
          have e1 := u8_xor_nat x 54 xl (by decide)
          have e2 := u8_xor_nat x 92 xl (by decide)
          rw [← hy] at e1
          rw [← hz] at e2
          have e1' : bits .xor .u8 (x : Int) 54 = (y : Int) := e1
          have e2' : bits .xor .u8 (x : Int) 92 = (z : Int) := e2
          have hm := hQ.mid (y := y) hlt
          have HS := Lib.hid (hQ.step hlt hx hy hz)
          clear hQ hx hy hz xl e1 e2
          go_wp2
          go_roundw
          case rel => exact ⟨k + 1, by omega, by go_num, HS.out⟩
          case measure => simp [intOf]; omega
        · have hx : 0 = (nums K).getD k 0 := by rw [List.getD_eq_getElem?_getD, List.getElem?_eq_none (by rw [nums_length]; omega)]; rfl
          have hm : (wr.setCell ⟨w1.heap.size, k, none⟩ (.int .u8 54)).cell? ⟨w1.heap.size + 1, k, none⟩ = some (.int .u8 0) := hQ.mid (y := 54) hlt
          have HS := Lib.hid (hQ.step hlt hx (show 54 = 0 ^^^ 54 by decide) (show 92 = 0 ^^^ 92 by decide))
          have hkk2 : ¬ (k : Int) < (K.size : Int) := by omega
          have x54 : bits .xor .u8 0 54 = 54 := by decide
          have x92 : bits .xor .u8 0 92 = 92 := by decide
          clear hQ hx
          go_wp2
          go_roundw
          case rel => exact ⟨k + 1, by omega, by go_num, HS.out⟩
          case measure => simp [intOf]; omega
      · obtain rfl : k = 128 := by omega
        have ci : ∀ X : World, Below wr.heap.size wr X → (convert 27 9 (.slice (some ⟨w1.heap.size, 0, none⟩) 128 128)).run Tryd.prog X = .ok (.string I) X := fun X hX => by
          have h := By.back (keepBlock hQ.hi hX) 128 128 (maskZ_length _ _ _ _).symm (by rw [maskZ_all]; exact maskL_lt (nums_lt K) (by decide))
          rw [maskZ_all, ← HI.out] at h
          exact h
        have co : ∀ X : World, Below wr.heap.size wr X → (convert 27 9 (.slice (some ⟨w1.heap.size + 1, 0, none⟩) 128 128)).run Tryd.prog X = .ok (.string O) X := fun X hX => by
          have h := By.back (keepBlock hQ.ho hX) 128 128 (maskZ_length _ _ _ _).symm (by rw [maskZ_all]; exact maskL_lt (nums_lt K) (by decide))
          rw [maskZ_all, ← HO.out] at h
          exact h
        have HC := Lib.hid (fun X h => And.intro (ci X h) (co X h))
        have HB2 := Lib.hid (below_link HB1.out hQ.below)
        have hd : Below wr.heap.size wr wr.drew := (Below.refl _ _).drew
        clear ci co hQ hlt
        go_wp2
        go_region_held3 (fun X => (convert 27 9 (.slice (some ⟨w1.heap.size, 0, none⟩) 128 128)).run Tryd.prog X = .ok (.string I) X ∧ (convert 27 9 (.slice (some ⟨w1.heap.size + 1, 0, none⟩) 128 128)).run Tryd.prog X = .ok (.string O) X) ((refine HC.out _ ?_; (with_reducible assumption)))
          (first | (go_at_call 12; with_reducible refine (HS2.out _).mono ?_; rintro e w' ⟨rfl, hbw⟩; have hbx' := below_link (by with_reducible assumption) hbw) | (go_at_call 12; with_reducible refine (HS3.out _).mono ?_; rintro e w' ⟨rfl, hbw⟩; have hbx' := below_link (by with_reducible assumption) hbw))
        all_goals (go_wp2; go_ret)
        all_goals exact ⟨congrArg (fun r => Ending.returned (.string r)) HRR.out, below_link HB2.out (by with_reducible assumption)⟩
  · have HIO := Lib.hid (show Io w1 (w1.heap.size + 1) (w1.heap.size) 128 (nums K) 0 ((w1.alloc (.cells (valsK .u8 (List.replicate 128 0)) 5)).alloc (.cells (valsK .u8 (List.replicate 128 0)) 5)).drew from by
      have r1 : By w1.heap.size (List.replicate 128 0) ((w1.alloc (.cells (valsK .u8 (List.replicate 128 0)) 5)).alloc (.cells (valsK .u8 (List.replicate 128 0)) 5)).drew := keepAlloc (heap_alloc_new w1 _) _
      have r2 : By (w1.heap.size + 1) (List.replicate 128 0) ((w1.alloc (.cells (valsK .u8 (List.replicate 128 0)) 5)).alloc (.cells (valsK .u8 (List.replicate 128 0)) 5)).drew := by
        have := heap_alloc_new (w1.alloc (.cells (valsK .u8 (List.replicate 128 0)) 5)) (.cells (valsK .u8 (List.replicate 128 0)) 5)
        rw [alloc_size] at this
        exact this
      refine ⟨?_, ?_, by omega, by omega, by omega, (below_alloc (below_alloc (Below.refl _ _) _) _).drew⟩
      · rw [maskZ_zero]; exact r2
      · rw [maskZ_zero]; exact r1)
    go_wp2
    go_loopw [10, 11] (fun x _ wr => ∃ k : Nat, k ≤ 128 ∧ x = .int .i64 (k : Nat) ∧ Io w1 (w1.heap.size + 1) (w1.heap.size) 128 (nums K) k wr) (fun x _ _ => 128 - (intOf x).toNat)
    case atStart => exact ⟨0, Nat.zero_le _, rfl, HIO.out⟩
    case round =>
      obtain ⟨k, hk, rfl, hQ⟩ := hrel
      clear HIO
      by_cases hlt : k < 128
      · have i0 := hQ.hi.cell (j := k) (x := 0) (by rw [maskZ_get hlt, if_neg (by omega)])
        have i1 := hQ.hi.frozen k
        have o1 := hQ.ho.frozen k
        have k1 : (k : Int) < 128 := by omega
        by_cases hkk : k < K.size
        · obtain ⟨x, hx⟩ : ∃ x, x = (nums K).getD k 0 := ⟨_, rfl⟩
          have xa : (K[k].toNat : Int) = (x : Int) := by rw [hx, List.getD_eq_getElem?_getD, nums_get K k hkk]; rfl
          have xl : x < 256 := by rw [hx]; exact getD_lt (nums_lt K) k
          obtain ⟨y, hy⟩ : ∃ y, y = x ^^^ 54 := ⟨_, rfl⟩
          obtain ⟨z, hz⟩ : ∃ z, z = x ^^^ 92 := ⟨_, rfl⟩
          have e1 := u8_xor_nat x 54 xl (by decide)
          have e2 := u8_xor_nat x 92 xl (by decide)
          rw [← hy] at e1
          rw [← hz] at e2
          have e1' : bits .xor .u8 (x : Int) 54 = (y : Int) := e1
          have e2' : bits .xor .u8 (x : Int) 92 = (z : Int) := e2
          have hm := hQ.mid (y := y) hlt
          have HS := Lib.hid (hQ.step hlt hx hy hz)
          clear hQ hx hy hz xl e1 e2
          go_wp2
          go_roundw
          case rel => exact ⟨k + 1, by omega, by go_num, HS.out⟩
          case measure => simp [intOf]; omega
        · have hx : 0 = (nums K).getD k 0 := by rw [List.getD_eq_getElem?_getD, List.getElem?_eq_none (by rw [nums_length]; omega)]; rfl
          have hm : (wr.setCell ⟨w1.heap.size + 1, k, none⟩ (.int .u8 54)).cell? ⟨w1.heap.size, k, none⟩ = some (.int .u8 0) := hQ.mid (y := 54) hlt
          have HS := Lib.hid (hQ.step hlt hx (show 54 = 0 ^^^ 54 by decide) (show 92 = 0 ^^^ 92 by decide))
          have hkk2 : ¬ (k : Int) < (K.size : Int) := by omega
          have x54 : bits .xor .u8 0 54 = 54 := by decide
          have x92 : bits .xor .u8 0 92 = 92 := by decide
          clear hQ hx
          go_wp2
          go_roundw
          case rel => exact ⟨k + 1, by omega, by go_num, HS.out⟩
          case measure => simp [intOf]; omega
      · obtain rfl : k = 128 := by omega
        have ci : ∀ X : World, Below wr.heap.size wr X → (convert 27 9 (.slice (some ⟨w1.heap.size + 1, 0, none⟩) 128 128)).run Tryd.prog X = .ok (.string I) X := fun X hX => by
          have h := By.back (keepBlock hQ.hi hX) 128 128 (maskZ_length _ _ _ _).symm (by rw [maskZ_all]; exact maskL_lt (nums_lt K) (by decide))
          rw [maskZ_all, ← HI.out] at h
          exact h
        have co : ∀ X : World, Below wr.heap.size wr X → (convert 27 9 (.slice (some ⟨w1.heap.size, 0, none⟩) 128 128)).run Tryd.prog X = .ok (.string O) X := fun X hX => by
          have h := By.back (keepBlock hQ.ho hX) 128 128 (maskZ_length _ _ _ _).symm (by rw [maskZ_all]; exact maskL_lt (nums_lt K) (by decide))
          rw [maskZ_all, ← HO.out] at h
          exact h
        have HC := Lib.hid (fun X h => And.intro (ci X h) (co X h))
        have HB2 := Lib.hid (below_link HB1.out hQ.below)
        have hd : Below wr.heap.size wr wr.drew := (Below.refl _ _).drew
        clear ci co hQ hlt
        go_wp2
        go_region_held3 (fun X => (convert 27 9 (.slice (some ⟨w1.heap.size + 1, 0, none⟩) 128 128)).run Tryd.prog X = .ok (.string I) X ∧ (convert 27 9 (.slice (some ⟨w1.heap.size, 0, none⟩) 128 128)).run Tryd.prog X = .ok (.string O) X) ((refine HC.out _ ?_; (with_reducible assumption)))
          (first | (go_at_call 12; with_reducible refine (HS2.out _).mono ?_; rintro e w' ⟨rfl, hbw⟩; have hbx' := below_link (by with_reducible assumption) hbw) | (go_at_call 12; with_reducible refine (HS3.out _).mono ?_; rintro e w' ⟨rfl, hbw⟩; have hbx' := below_link (by with_reducible assumption) hbw))
        all_goals (go_wp2; go_ret)
        all_goals exact ⟨congrArg (fun r => Ending.returned (.string r)) HRR.out, below_link HB2.out (by with_reducible assumption)⟩

theorem rsum_384 (key text : ByteArray) (w : World) (hk2 : key.size < 536870912) (ht : text.size < 536870912) :
    Calls Tryd.prog 16 #[.int .i64 384, .string key, .string text] w fun e w' => e = .returned (.string (hmacOf 384 128 key text)) ∧ Below w.heap.size w w' := by
  by_cases hk : 128 < key.size
  · exact rsum_384_long key text w hk hk2 ht
  · exact rsum_384_short key text w (by omega) hk2 ht
theorem rblock_512 (w : World) : Calls Tryd.prog 17 #[.int .i64 512] w fun e w' => e = .returned (.int .i64 128) ∧ w' = w := by
  go_enter Tryd.func17, Tryd.ntmps17
  go_wp2
  go_ret
  exact ⟨rfl, rfl⟩

set_option maxHeartbeats 2000000 in
theorem rsum_512_short (key text : ByteArray) (w : World) (hk : key.size ≤ 128) (hk2 : key.size < 536870912) (ht : text.size < 536870912) :
    Calls Tryd.prog 16 #[.int .i64 512, .string key, .string text] w fun e w' => e = .returned (.string (hmacOf 512 128 key text)) ∧ Below w.heap.size w w' := by
  have hko : keyOf 512 128 key = key := if_neg (by omega)
  obtain ⟨R, hR⟩ : ∃ R, R = hmacOf 512 128 key text := ⟨_, rfl⟩
  have hR' := hR
  unfold hmacOf at hR'
  rw [hko] at hR'
  have HRR := Lib.hid hR; clear hR hko
  have g1 : decide ((key.size : Int) > 128) = false := by simp; omega
  have g2 : ¬ (128 : Int) < (key.size : Int) := by omega
  
  have hks : key.size ≤ 128 := hk
  obtain ⟨K, hKe⟩ : ∃ K, K = key := ⟨_, rfl⟩
  rw [← hKe] at hR' hks
  obtain ⟨I, hI⟩ : ∃ I, I = toB (maskL 128 54 (nums K)) := ⟨_, rfl⟩
  obtain ⟨O, hO⟩ : ∃ O, O = toB (maskL 128 92 (nums K)) := ⟨_, rfl⟩
  have hIs : I.size = 128 := by rw [hI, toB_size, maskL_length]
  have hOs : O.size = 128 := by rw [hO, toB_size, maskL_length]
  rw [← hI, ← hO] at hR'
  have c1 : ¬ 9223372036854775807 < I.size + text.size := by omega
  obtain ⟨T, hT⟩ : ∃ T, T = I ++ text := ⟨_, rfl⟩
  have hTs : T.size < 1073741824 := by rw [hT, ByteArray.size_append]; omega
  have HS2 := Lib.hid (fun X => T512.ref T X hTs)
  have hDs := sumOf_size_512 T
  rw [← hT] at hR'
  obtain ⟨D, hD⟩ : ∃ D, D = sumOf 512 T := ⟨_, rfl⟩
  rw [← hD] at hR' hDs HS2
  have c2 : ¬ 9223372036854775807 < O.size + D.size := by omega
  obtain ⟨U, hU⟩ : ∃ U, U = O ++ D := ⟨_, rfl⟩
  have hUs : U.size < 1073741824 := by rw [hU, ByteArray.size_append]; omega
  have HS3 := Lib.hid (fun X => T512.ref U X hUs)
  rw [← hU] at hR'
  rw [← hR'] at HS3
  have s1 : ∀ X, (Op.stringOp .add I text).run Tryd.prog X = .ok (.string T) X := by rw [hT]; exact fun X => run_string_add_sum X I text (by omega)
  have s2 : ∀ X, (Op.stringOp .add O D).run Tryd.prog X = .ok (.string U) X := by rw [hU]; exact fun X => run_string_add_sum X O D (by omega)
  have HI := Lib.hid hI; have HO := Lib.hid hO; have HKS := Lib.hid hks
  clear hUs hTs hDs hIs hOs hks hD hT hU hI hO hR' c1 c2 hk hk2 ht
  subst hKe
  have hmk : ∀ X, (Instr.makeSlice 27 (.int .i64 128) (.int .i64 128)).run Tryd.prog X = .ok (.slice (some ⟨X.heap.size, 0, none⟩) 128 128) (X.alloc (.cells (valsK .u8 (List.replicate 128 0)) 5)) := fun X => made_row 128 (by decide) X
  go_enter Tryd.func16, Tryd.ntmps16
  go_wp2_with fail
  refine (rblock_512 _).mono ?_
  rintro e w0 ⟨rfl, rfl⟩
  go_wp2_with fail
  obtain ⟨w1, hw1⟩ : ∃ x, x = w0 := ⟨_, rfl⟩
  have HB1 := Lib.hid (show Below w0.heap.size w0 w1 by rw [hw1]; exact Below.refl _ _)
  rw [← hw1]
  clear hw1
  go_wp2_with fail
  go_region
  · have HIO := Lib.hid (show Io w1 (w1.heap.size) (w1.heap.size + 1) 128 (nums K) 0 ((w1.alloc (.cells (valsK .u8 (List.replicate 128 0)) 5)).alloc (.cells (valsK .u8 (List.replicate 128 0)) 5)).drew from by
      have r1 : By w1.heap.size (List.replicate 128 0) ((w1.alloc (.cells (valsK .u8 (List.replicate 128 0)) 5)).alloc (.cells (valsK .u8 (List.replicate 128 0)) 5)).drew := keepAlloc (heap_alloc_new w1 _) _
      have r2 : By (w1.heap.size + 1) (List.replicate 128 0) ((w1.alloc (.cells (valsK .u8 (List.replicate 128 0)) 5)).alloc (.cells (valsK .u8 (List.replicate 128 0)) 5)).drew := by
        have := heap_alloc_new (w1.alloc (.cells (valsK .u8 (List.replicate 128 0)) 5)) (.cells (valsK .u8 (List.replicate 128 0)) 5)
        rw [alloc_size] at this
        exact this
      refine ⟨?_, ?_, by omega, by omega, by omega, (below_alloc (below_alloc (Below.refl _ _) _) _).drew⟩
      · rw [maskZ_zero]; exact r1
      · rw [maskZ_zero]; exact r2)
    go_wp2
    go_loopw [10, 11] (fun x _ wr => ∃ k : Nat, k ≤ 128 ∧ x = .int .i64 (k : Nat) ∧ Io w1 (w1.heap.size) (w1.heap.size + 1) 128 (nums K) k wr) (fun x _ _ => 128 - (intOf x).toNat)
    case atStart => exact ⟨0, Nat.zero_le _, rfl, HIO.out⟩
    case round =>
      obtain ⟨k, hk, rfl, hQ⟩ := hrel
      clear HIO
      by_cases hlt : k < 128
      · have i0 := hQ.hi.cell (j := k) (x := 0) (by rw [maskZ_get hlt, if_neg (by omega)])
        have i1 := hQ.hi.frozen k
        have o1 := hQ.ho.frozen k
        have k1 : (k : Int) < 128 := by omega
        by_cases hkk : k < K.size
        · obtain ⟨x, hx⟩ : ∃ x, x = (nums K).getD k 0 := ⟨_, rfl⟩
          have xa : (K[k].toNat : Int) = (x : Int) := by rw [hx, List.getD_eq_getElem?_getD, nums_get K k hkk]; rfl
          have xl : x < 256 := by rw [hx]; exact getD_lt (nums_lt K) k
          obtain ⟨y, hy⟩ : ∃ y, y = x ^^^ 54 := ⟨_, rfl⟩
          obtain ⟨z, hz⟩ : ∃ z, z = x ^^^ 92 := ⟨_, rfl⟩
          have e1 := u8_xor_nat x 54 xl (by decide)
          have e2 := u8_xor_nat x 92 xl (by decide)
          rw [← hy] at e1
          rw [← hz] at e2
          have e1' : bits .xor .u8 (x : Int) 54 = (y : Int) := e1
          have e2' : bits .xor .u8 (x : Int) 92 = (z : Int) := e2
          have hm := hQ.mid (y := y) hlt
          have HS := Lib.hid (hQ.step hlt hx hy hz)
          clear hQ hx hy hz xl e1 e2
          go_wp2
          go_roundw
          case rel => exact ⟨k + 1, by omega, by go_num, HS.out⟩
          case measure => simp [intOf]; omega
        · have hx : 0 = (nums K).getD k 0 := by rw [List.getD_eq_getElem?_getD, List.getElem?_eq_none (by rw [nums_length]; omega)]; rfl
          have hm : (wr.setCell ⟨w1.heap.size, k, none⟩ (.int .u8 54)).cell? ⟨w1.heap.size + 1, k, none⟩ = some (.int .u8 0) := hQ.mid (y := 54) hlt
          have HS := Lib.hid (hQ.step hlt hx (show 54 = 0 ^^^ 54 by decide) (show 92 = 0 ^^^ 92 by decide))
          have hkk2 : ¬ (k : Int) < (K.size : Int) := by omega
          have x54 : bits .xor .u8 0 54 = 54 := by decide
          have x92 : bits .xor .u8 0 92 = 92 := by decide
          clear hQ hx
          go_wp2
          go_roundw
          case rel => exact ⟨k + 1, by omega, by go_num, HS.out⟩
          case measure => simp [intOf]; omega
      · obtain rfl : k = 128 := by omega
        have ci : ∀ X : World, Below wr.heap.size wr X → (convert 27 9 (.slice (some ⟨w1.heap.size, 0, none⟩) 128 128)).run Tryd.prog X = .ok (.string I) X := fun X hX => by
          have h := By.back (keepBlock hQ.hi hX) 128 128 (maskZ_length _ _ _ _).symm (by rw [maskZ_all]; exact maskL_lt (nums_lt K) (by decide))
          rw [maskZ_all, ← HI.out] at h
          exact h
        have co : ∀ X : World, Below wr.heap.size wr X → (convert 27 9 (.slice (some ⟨w1.heap.size + 1, 0, none⟩) 128 128)).run Tryd.prog X = .ok (.string O) X := fun X hX => by
          have h := By.back (keepBlock hQ.ho hX) 128 128 (maskZ_length _ _ _ _).symm (by rw [maskZ_all]; exact maskL_lt (nums_lt K) (by decide))
          rw [maskZ_all, ← HO.out] at h
          exact h
        have HC := Lib.hid (fun X h => And.intro (ci X h) (co X h))
        have HB2 := Lib.hid (below_link HB1.out hQ.below)
        have hd : Below wr.heap.size wr wr.drew := (Below.refl _ _).drew
        clear ci co hQ hlt
        go_wp2
        go_region_held3 (fun X => (convert 27 9 (.slice (some ⟨w1.heap.size, 0, none⟩) 128 128)).run Tryd.prog X = .ok (.string I) X ∧ (convert 27 9 (.slice (some ⟨w1.heap.size + 1, 0, none⟩) 128 128)).run Tryd.prog X = .ok (.string O) X) ((refine HC.out _ ?_; (with_reducible assumption)))
          (first | (go_at_call 12; with_reducible refine (HS2.out _).mono ?_; rintro e w' ⟨rfl, hbw⟩; have hbx' := below_link (by with_reducible assumption) hbw) | (go_at_call 12; with_reducible refine (HS3.out _).mono ?_; rintro e w' ⟨rfl, hbw⟩; have hbx' := below_link (by with_reducible assumption) hbw))
        all_goals (go_wp2; go_ret)
        all_goals exact ⟨congrArg (fun r => Ending.returned (.string r)) HRR.out, below_link HB2.out (by with_reducible assumption)⟩
  · have HIO := Lib.hid (show Io w1 (w1.heap.size + 1) (w1.heap.size) 128 (nums K) 0 ((w1.alloc (.cells (valsK .u8 (List.replicate 128 0)) 5)).alloc (.cells (valsK .u8 (List.replicate 128 0)) 5)).drew from by
      have r1 : By w1.heap.size (List.replicate 128 0) ((w1.alloc (.cells (valsK .u8 (List.replicate 128 0)) 5)).alloc (.cells (valsK .u8 (List.replicate 128 0)) 5)).drew := keepAlloc (heap_alloc_new w1 _) _
      have r2 : By (w1.heap.size + 1) (List.replicate 128 0) ((w1.alloc (.cells (valsK .u8 (List.replicate 128 0)) 5)).alloc (.cells (valsK .u8 (List.replicate 128 0)) 5)).drew := by
        have := heap_alloc_new (w1.alloc (.cells (valsK .u8 (List.replicate 128 0)) 5)) (.cells (valsK .u8 (List.replicate 128 0)) 5)
        rw [alloc_size] at this
        exact this
      refine ⟨?_, ?_, by omega, by omega, by omega, (below_alloc (below_alloc (Below.refl _ _) _) _).drew⟩
      · rw [maskZ_zero]; exact r2
      · rw [maskZ_zero]; exact r1)
    go_wp2
    go_loopw [10, 11] (fun x _ wr => ∃ k : Nat, k ≤ 128 ∧ x = .int .i64 (k : Nat) ∧ Io w1 (w1.heap.size + 1) (w1.heap.size) 128 (nums K) k wr) (fun x _ _ => 128 - (intOf x).toNat)
    case atStart => exact ⟨0, Nat.zero_le _, rfl, HIO.out⟩
    case round =>
      obtain ⟨k, hk, rfl, hQ⟩ := hrel
      clear HIO
      by_cases hlt : k < 128
      · have i0 := hQ.hi.cell (j := k) (x := 0) (by rw [maskZ_get hlt, if_neg (by omega)])
        have i1 := hQ.hi.frozen k
        have o1 := hQ.ho.frozen k
        have k1 : (k : Int) < 128 := by omega
        by_cases hkk : k < K.size
        · obtain ⟨x, hx⟩ : ∃ x, x = (nums K).getD k 0 := ⟨_, rfl⟩
          have xa : (K[k].toNat : Int) = (x : Int) := by rw [hx, List.getD_eq_getElem?_getD, nums_get K k hkk]; rfl
          have xl : x < 256 := by rw [hx]; exact getD_lt (nums_lt K) k
          obtain ⟨y, hy⟩ : ∃ y, y = x ^^^ 54 := ⟨_, rfl⟩
          obtain ⟨z, hz⟩ : ∃ z, z = x ^^^ 92 := ⟨_, rfl⟩
          have e1 := u8_xor_nat x 54 xl (by decide)
          have e2 := u8_xor_nat x 92 xl (by decide)
          rw [← hy] at e1
          rw [← hz] at e2
          have e1' : bits .xor .u8 (x : Int) 54 = (y : Int) := e1
          have e2' : bits .xor .u8 (x : Int) 92 = (z : Int) := e2
          have hm := hQ.mid (y := y) hlt
          have HS := Lib.hid (hQ.step hlt hx hy hz)
          clear hQ hx hy hz xl e1 e2
          go_wp2
          go_roundw
          case rel => exact ⟨k + 1, by omega, by go_num, HS.out⟩
          case measure => simp [intOf]; omega
        · have hx : 0 = (nums K).getD k 0 := by rw [List.getD_eq_getElem?_getD, List.getElem?_eq_none (by rw [nums_length]; omega)]; rfl
          have hm : (wr.setCell ⟨w1.heap.size + 1, k, none⟩ (.int .u8 54)).cell? ⟨w1.heap.size, k, none⟩ = some (.int .u8 0) := hQ.mid (y := 54) hlt
          have HS := Lib.hid (hQ.step hlt hx (show 54 = 0 ^^^ 54 by decide) (show 92 = 0 ^^^ 92 by decide))
          have hkk2 : ¬ (k : Int) < (K.size : Int) := by omega
          have x54 : bits .xor .u8 0 54 = 54 := by decide
          have x92 : bits .xor .u8 0 92 = 92 := by decide
          clear hQ hx
          go_wp2
          go_roundw
          case rel => exact ⟨k + 1, by omega, by go_num, HS.out⟩
          case measure => simp [intOf]; omega
      · obtain rfl : k = 128 := by omega
        have ci : ∀ X : World, Below wr.heap.size wr X → (convert 27 9 (.slice (some ⟨w1.heap.size + 1, 0, none⟩) 128 128)).run Tryd.prog X = .ok (.string I) X := fun X hX => by
          have h := By.back (keepBlock hQ.hi hX) 128 128 (maskZ_length _ _ _ _).symm (by rw [maskZ_all]; exact maskL_lt (nums_lt K) (by decide))
          rw [maskZ_all, ← HI.out] at h
          exact h
        have co : ∀ X : World, Below wr.heap.size wr X → (convert 27 9 (.slice (some ⟨w1.heap.size, 0, none⟩) 128 128)).run Tryd.prog X = .ok (.string O) X := fun X hX => by
          have h := By.back (keepBlock hQ.ho hX) 128 128 (maskZ_length _ _ _ _).symm (by rw [maskZ_all]; exact maskL_lt (nums_lt K) (by decide))
          rw [maskZ_all, ← HO.out] at h
          exact h
        have HC := Lib.hid (fun X h => And.intro (ci X h) (co X h))
        have HB2 := Lib.hid (below_link HB1.out hQ.below)
        have hd : Below wr.heap.size wr wr.drew := (Below.refl _ _).drew
        clear ci co hQ hlt
        go_wp2
        go_region_held3 (fun X => (convert 27 9 (.slice (some ⟨w1.heap.size + 1, 0, none⟩) 128 128)).run Tryd.prog X = .ok (.string I) X ∧ (convert 27 9 (.slice (some ⟨w1.heap.size, 0, none⟩) 128 128)).run Tryd.prog X = .ok (.string O) X) ((refine HC.out _ ?_; (with_reducible assumption)))
          (first | (go_at_call 12; with_reducible refine (HS2.out _).mono ?_; rintro e w' ⟨rfl, hbw⟩; have hbx' := below_link (by with_reducible assumption) hbw) | (go_at_call 12; with_reducible refine (HS3.out _).mono ?_; rintro e w' ⟨rfl, hbw⟩; have hbx' := below_link (by with_reducible assumption) hbw))
        all_goals (go_wp2; go_ret)
        all_goals exact ⟨congrArg (fun r => Ending.returned (.string r)) HRR.out, below_link HB2.out (by with_reducible assumption)⟩

set_option maxHeartbeats 2000000 in
theorem rsum_512_long (key text : ByteArray) (w : World) (hk : 128 < key.size) (hk2 : key.size < 536870912) (ht : text.size < 536870912) :
    Calls Tryd.prog 16 #[.int .i64 512, .string key, .string text] w fun e w' => e = .returned (.string (hmacOf 512 128 key text)) ∧ Below w.heap.size w w' := by
  have hko : keyOf 512 128 key = sumOf 512 key := if_pos hk
  obtain ⟨R, hR⟩ : ∃ R, R = hmacOf 512 128 key text := ⟨_, rfl⟩
  have hR' := hR
  unfold hmacOf at hR'
  rw [hko] at hR'
  have HRR := Lib.hid hR; clear hR hko
  have g1 : decide ((key.size : Int) > 128) = true := by simp; omega
  have g2 : (128 : Int) < (key.size : Int) := by omega
  have HS1 := Lib.hid (fun X => T512.ref key X (by omega))
  have hks : (sumOf 512 key).size ≤ 128 := by rw [sumOf_size_512]; decide
  obtain ⟨K, hKe⟩ : ∃ K, K = sumOf 512 key := ⟨_, rfl⟩
  rw [← hKe] at hR' hks HS1
  obtain ⟨I, hI⟩ : ∃ I, I = toB (maskL 128 54 (nums K)) := ⟨_, rfl⟩
  obtain ⟨O, hO⟩ : ∃ O, O = toB (maskL 128 92 (nums K)) := ⟨_, rfl⟩
  have hIs : I.size = 128 := by rw [hI, toB_size, maskL_length]
  have hOs : O.size = 128 := by rw [hO, toB_size, maskL_length]
  rw [← hI, ← hO] at hR'
  have c1 : ¬ 9223372036854775807 < I.size + text.size := by omega
  obtain ⟨T, hT⟩ : ∃ T, T = I ++ text := ⟨_, rfl⟩
  have hTs : T.size < 1073741824 := by rw [hT, ByteArray.size_append]; omega
  have HS2 := Lib.hid (fun X => T512.ref T X hTs)
  have hDs := sumOf_size_512 T
  rw [← hT] at hR'
  obtain ⟨D, hD⟩ : ∃ D, D = sumOf 512 T := ⟨_, rfl⟩
  rw [← hD] at hR' hDs HS2
  have c2 : ¬ 9223372036854775807 < O.size + D.size := by omega
  obtain ⟨U, hU⟩ : ∃ U, U = O ++ D := ⟨_, rfl⟩
  have hUs : U.size < 1073741824 := by rw [hU, ByteArray.size_append]; omega
  have HS3 := Lib.hid (fun X => T512.ref U X hUs)
  rw [← hU] at hR'
  rw [← hR'] at HS3
  have s1 : ∀ X, (Op.stringOp .add I text).run Tryd.prog X = .ok (.string T) X := by rw [hT]; exact fun X => run_string_add_sum X I text (by omega)
  have s2 : ∀ X, (Op.stringOp .add O D).run Tryd.prog X = .ok (.string U) X := by rw [hU]; exact fun X => run_string_add_sum X O D (by omega)
  have HI := Lib.hid hI; have HO := Lib.hid hO; have HKS := Lib.hid hks
  clear hUs hTs hDs hIs hOs hks hD hT hU hI hO hR' c1 c2 hk hk2 ht
  clear hKe
  have hmk : ∀ X, (Instr.makeSlice 27 (.int .i64 128) (.int .i64 128)).run Tryd.prog X = .ok (.slice (some ⟨X.heap.size, 0, none⟩) 128 128) (X.alloc (.cells (valsK .u8 (List.replicate 128 0)) 5)) := fun X => made_row 128 (by decide) X
  go_enter Tryd.func16, Tryd.ntmps16
  go_wp2_with fail
  refine (rblock_512 _).mono ?_
  rintro e w0 ⟨rfl, rfl⟩
  go_wp2_with fail
  refine (HS1.out _).mono ?_
  rintro e w1 ⟨rfl, hb1⟩
  have HB1 := Lib.hid hb1; clear hb1
  go_wp2_with fail
  go_region
  · have HIO := Lib.hid (show Io w1 (w1.heap.size) (w1.heap.size + 1) 128 (nums K) 0 ((w1.alloc (.cells (valsK .u8 (List.replicate 128 0)) 5)).alloc (.cells (valsK .u8 (List.replicate 128 0)) 5)).drew from by
      have r1 : By w1.heap.size (List.replicate 128 0) ((w1.alloc (.cells (valsK .u8 (List.replicate 128 0)) 5)).alloc (.cells (valsK .u8 (List.replicate 128 0)) 5)).drew := keepAlloc (heap_alloc_new w1 _) _
      have r2 : By (w1.heap.size + 1) (List.replicate 128 0) ((w1.alloc (.cells (valsK .u8 (List.replicate 128 0)) 5)).alloc (.cells (valsK .u8 (List.replicate 128 0)) 5)).drew := by
        have := heap_alloc_new (w1.alloc (.cells (valsK .u8 (List.replicate 128 0)) 5)) (.cells (valsK .u8 (List.replicate 128 0)) 5)
        rw [alloc_size] at this
        exact this
      refine ⟨?_, ?_, by omega, by omega, by omega, (below_alloc (below_alloc (Below.refl _ _) _) _).drew⟩
      · rw [maskZ_zero]; exact r1
      · rw [maskZ_zero]; exact r2)
    go_wp2
    go_loopw [10, 11] (fun x _ wr => ∃ k : Nat, k ≤ 128 ∧ x = .int .i64 (k : Nat) ∧ Io w1 (w1.heap.size) (w1.heap.size + 1) 128 (nums K) k wr) (fun x _ _ => 128 - (intOf x).toNat)
    case atStart => exact ⟨0, Nat.zero_le _, rfl, HIO.out⟩
    case round =>
      obtain ⟨k, hk, rfl, hQ⟩ := hrel
      clear HIO
      by_cases hlt : k < 128
      · have i0 := hQ.hi.cell (j := k) (x := 0) (by rw [maskZ_get hlt, if_neg (by omega)])
        have i1 := hQ.hi.frozen k
        have o1 := hQ.ho.frozen k
        have k1 : (k : Int) < 128 := by omega
        by_cases hkk : k < K.size
        · obtain ⟨x, hx⟩ : ∃ x, x = (nums K).getD k 0 := ⟨_, rfl⟩
          have xa : (K[k].toNat : Int) = (x : Int) := by rw [hx, List.getD_eq_getElem?_getD, nums_get K k hkk]; rfl
          have xl : x < 256 := by rw [hx]; exact getD_lt (nums_lt K) k
          obtain ⟨y, hy⟩ : ∃ y, y = x ^^^ 54 := ⟨_, rfl⟩
          obtain ⟨z, hz⟩ : ∃ z, z = x ^^^ 92 := ⟨_, rfl⟩
          have e1 := u8_xor_nat x 54 xl (by decide)
          have e2 := u8_xor_nat x 92 xl (by decide)
          rw [← hy] at e1
          rw [← hz] at e2
          have e1' : bits .xor .u8 (x : Int) 54 = (y : Int) := e1
          have e2' : bits .xor .u8 (x : Int) 92 = (z : Int) := e2
          have hm := hQ.mid (y := y) hlt
          have HS := Lib.hid (hQ.step hlt hx hy hz)
          clear hQ hx hy hz xl e1 e2
          go_wp2
          go_roundw
          case rel => exact ⟨k + 1, by omega, by go_num, HS.out⟩
          case measure => simp [intOf]; omega
        · have hx : 0 = (nums K).getD k 0 := by rw [List.getD_eq_getElem?_getD, List.getElem?_eq_none (by rw [nums_length]; omega)]; rfl
          have hm : (wr.setCell ⟨w1.heap.size, k, none⟩ (.int .u8 54)).cell? ⟨w1.heap.size + 1, k, none⟩ = some (.int .u8 0) := hQ.mid (y := 54) hlt
          have HS := Lib.hid (hQ.step hlt hx (show 54 = 0 ^^^ 54 by decide) (show 92 = 0 ^^^ 92 by decide))
          have hkk2 : ¬ (k : Int) < (K.size : Int) := by omega
          have x54 : bits .xor .u8 0 54 = 54 := by decide
          have x92 : bits .xor .u8 0 92 = 92 := by decide
          clear hQ hx
          go_wp2
          go_roundw
          case rel => exact ⟨k + 1, by omega, by go_num, HS.out⟩
          case measure => simp [intOf]; omega
      · obtain rfl : k = 128 := by omega
        have ci : ∀ X : World, Below wr.heap.size wr X → (convert 27 9 (.slice (some ⟨w1.heap.size, 0, none⟩) 128 128)).run Tryd.prog X = .ok (.string I) X := fun X hX => by
          have h := By.back (keepBlock hQ.hi hX) 128 128 (maskZ_length _ _ _ _).symm (by rw [maskZ_all]; exact maskL_lt (nums_lt K) (by decide))
          rw [maskZ_all, ← HI.out] at h
          exact h
        have co : ∀ X : World, Below wr.heap.size wr X → (convert 27 9 (.slice (some ⟨w1.heap.size + 1, 0, none⟩) 128 128)).run Tryd.prog X = .ok (.string O) X := fun X hX => by
          have h := By.back (keepBlock hQ.ho hX) 128 128 (maskZ_length _ _ _ _).symm (by rw [maskZ_all]; exact maskL_lt (nums_lt K) (by decide))
          rw [maskZ_all, ← HO.out] at h
          exact h
        have HC := Lib.hid (fun X h => And.intro (ci X h) (co X h))
        have HB2 := Lib.hid (below_link HB1.out hQ.below)
        have hd : Below wr.heap.size wr wr.drew := (Below.refl _ _).drew
        clear ci co hQ hlt
        go_wp2
        go_region_held3 (fun X => (convert 27 9 (.slice (some ⟨w1.heap.size, 0, none⟩) 128 128)).run Tryd.prog X = .ok (.string I) X ∧ (convert 27 9 (.slice (some ⟨w1.heap.size + 1, 0, none⟩) 128 128)).run Tryd.prog X = .ok (.string O) X) ((refine HC.out _ ?_; (with_reducible assumption)))
          (first | (go_at_call 12; with_reducible refine (HS2.out _).mono ?_; rintro e w' ⟨rfl, hbw⟩; have hbx' := below_link (by with_reducible assumption) hbw) | (go_at_call 12; with_reducible refine (HS3.out _).mono ?_; rintro e w' ⟨rfl, hbw⟩; have hbx' := below_link (by with_reducible assumption) hbw))
        all_goals (go_wp2; go_ret)
        all_goals exact ⟨congrArg (fun r => Ending.returned (.string r)) HRR.out, below_link HB2.out (by with_reducible assumption)⟩
  · have HIO := Lib.hid (show Io w1 (w1.heap.size + 1) (w1.heap.size) 128 (nums K) 0 ((w1.alloc (.cells (valsK .u8 (List.replicate 128 0)) 5)).alloc (.cells (valsK .u8 (List.replicate 128 0)) 5)).drew from by
      have r1 : By w1.heap.size (List.replicate 128 0) ((w1.alloc (.cells (valsK .u8 (List.replicate 128 0)) 5)).alloc (.cells (valsK .u8 (List.replicate 128 0)) 5)).drew := keepAlloc (heap_alloc_new w1 _) _
      have r2 : By (w1.heap.size + 1) (List.replicate 128 0) ((w1.alloc (.cells (valsK .u8 (List.replicate 128 0)) 5)).alloc (.cells (valsK .u8 (List.replicate 128 0)) 5)).drew := by
        have := heap_alloc_new (w1.alloc (.cells (valsK .u8 (List.replicate 128 0)) 5)) (.cells (valsK .u8 (List.replicate 128 0)) 5)
        rw [alloc_size] at this
        exact this
      refine ⟨?_, ?_, by omega, by omega, by omega, (below_alloc (below_alloc (Below.refl _ _) _) _).drew⟩
      · rw [maskZ_zero]; exact r2
      · rw [maskZ_zero]; exact r1)
    go_wp2
    go_loopw [10, 11] (fun x _ wr => ∃ k : Nat, k ≤ 128 ∧ x = .int .i64 (k : Nat) ∧ Io w1 (w1.heap.size + 1) (w1.heap.size) 128 (nums K) k wr) (fun x _ _ => 128 - (intOf x).toNat)
    case atStart => exact ⟨0, Nat.zero_le _, rfl, HIO.out⟩
    case round =>
      obtain ⟨k, hk, rfl, hQ⟩ := hrel
      clear HIO
      by_cases hlt : k < 128
      · have i0 := hQ.hi.cell (j := k) (x := 0) (by rw [maskZ_get hlt, if_neg (by omega)])
        have i1 := hQ.hi.frozen k
        have o1 := hQ.ho.frozen k
        have k1 : (k : Int) < 128 := by omega
        by_cases hkk : k < K.size
        · obtain ⟨x, hx⟩ : ∃ x, x = (nums K).getD k 0 := ⟨_, rfl⟩
          have xa : (K[k].toNat : Int) = (x : Int) := by rw [hx, List.getD_eq_getElem?_getD, nums_get K k hkk]; rfl
          have xl : x < 256 := by rw [hx]; exact getD_lt (nums_lt K) k
          obtain ⟨y, hy⟩ : ∃ y, y = x ^^^ 54 := ⟨_, rfl⟩
          obtain ⟨z, hz⟩ : ∃ z, z = x ^^^ 92 := ⟨_, rfl⟩
          have e1 := u8_xor_nat x 54 xl (by decide)
          have e2 := u8_xor_nat x 92 xl (by decide)
          rw [← hy] at e1
          rw [← hz] at e2
          have e1' : bits .xor .u8 (x : Int) 54 = (y : Int) := e1
          have e2' : bits .xor .u8 (x : Int) 92 = (z : Int) := e2
          have hm := hQ.mid (y := y) hlt
          have HS := Lib.hid (hQ.step hlt hx hy hz)
          clear hQ hx hy hz xl e1 e2
          go_wp2
          go_roundw
          case rel => exact ⟨k + 1, by omega, by go_num, HS.out⟩
          case measure => simp [intOf]; omega
        · have hx : 0 = (nums K).getD k 0 := by rw [List.getD_eq_getElem?_getD, List.getElem?_eq_none (by rw [nums_length]; omega)]; rfl
          have hm : (wr.setCell ⟨w1.heap.size + 1, k, none⟩ (.int .u8 54)).cell? ⟨w1.heap.size, k, none⟩ = some (.int .u8 0) := hQ.mid (y := 54) hlt
          have HS := Lib.hid (hQ.step hlt hx (show 54 = 0 ^^^ 54 by decide) (show 92 = 0 ^^^ 92 by decide))
          have hkk2 : ¬ (k : Int) < (K.size : Int) := by omega
          have x54 : bits .xor .u8 0 54 = 54 := by decide
          have x92 : bits .xor .u8 0 92 = 92 := by decide
          clear hQ hx
          go_wp2
          go_roundw
          case rel => exact ⟨k + 1, by omega, by go_num, HS.out⟩
          case measure => simp [intOf]; omega
      · obtain rfl : k = 128 := by omega
        have ci : ∀ X : World, Below wr.heap.size wr X → (convert 27 9 (.slice (some ⟨w1.heap.size + 1, 0, none⟩) 128 128)).run Tryd.prog X = .ok (.string I) X := fun X hX => by
          have h := By.back (keepBlock hQ.hi hX) 128 128 (maskZ_length _ _ _ _).symm (by rw [maskZ_all]; exact maskL_lt (nums_lt K) (by decide))
          rw [maskZ_all, ← HI.out] at h
          exact h
        have co : ∀ X : World, Below wr.heap.size wr X → (convert 27 9 (.slice (some ⟨w1.heap.size, 0, none⟩) 128 128)).run Tryd.prog X = .ok (.string O) X := fun X hX => by
          have h := By.back (keepBlock hQ.ho hX) 128 128 (maskZ_length _ _ _ _).symm (by rw [maskZ_all]; exact maskL_lt (nums_lt K) (by decide))
          rw [maskZ_all, ← HO.out] at h
          exact h
        have HC := Lib.hid (fun X h => And.intro (ci X h) (co X h))
        have HB2 := Lib.hid (below_link HB1.out hQ.below)
        have hd : Below wr.heap.size wr wr.drew := (Below.refl _ _).drew
        clear ci co hQ hlt
        go_wp2
        go_region_held3 (fun X => (convert 27 9 (.slice (some ⟨w1.heap.size + 1, 0, none⟩) 128 128)).run Tryd.prog X = .ok (.string I) X ∧ (convert 27 9 (.slice (some ⟨w1.heap.size, 0, none⟩) 128 128)).run Tryd.prog X = .ok (.string O) X) ((refine HC.out _ ?_; (with_reducible assumption)))
          (first | (go_at_call 12; with_reducible refine (HS2.out _).mono ?_; rintro e w' ⟨rfl, hbw⟩; have hbx' := below_link (by with_reducible assumption) hbw) | (go_at_call 12; with_reducible refine (HS3.out _).mono ?_; rintro e w' ⟨rfl, hbw⟩; have hbx' := below_link (by with_reducible assumption) hbw))
        all_goals (go_wp2; go_ret)
        all_goals exact ⟨congrArg (fun r => Ending.returned (.string r)) HRR.out, below_link HB2.out (by with_reducible assumption)⟩

theorem rsum_512 (key text : ByteArray) (w : World) (hk2 : key.size < 536870912) (ht : text.size < 536870912) :
    Calls Tryd.prog 16 #[.int .i64 512, .string key, .string text] w fun e w' => e = .returned (.string (hmacOf 512 128 key text)) ∧ Below w.heap.size w w' := by
  by_cases hk : 128 < key.size
  · exact rsum_512_long key text w hk hk2 ht
  · exact rsum_512_short key text w (by omega) hk2 ht

end Go.Proofs.YtfahmbkeibeceaaDoor
