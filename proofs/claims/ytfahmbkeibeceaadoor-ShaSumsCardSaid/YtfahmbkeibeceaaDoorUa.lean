/-
  The walks of ShaSums and ShaLengths. Conditions: the table of round constants holds the standard's numbers.
-/
import Derived.Test.YtfahmbkeibeceaaDoorTg256
import Derived.Test.YtfahmbkeibeceaaDoorTg384
import Derived.Test.YtfahmbkeibeceaaDoorTg512
import Derived.Test.YtfahmbkeibeceaaDoorRe
namespace Go.Proofs.YtfahmbkeibeceaaDoor
open Go.ChangeShapes Go.WideShapes Go.ChangeAt Go.RowKit Go.Great Go.ChangeMaps
open Sha
set_option linter.unusedVariables false

theorem ix3 (j : Nat) (z : Int) (h : (j = 0 ∧ z = 256) ∨ (j = 1 ∧ z = 384) ∨ (j = 2 ∧ z = 512)) (X : World) :
    (Instr.index 23 (.agg #[.int .i64 256, .int .i64 384, .int .i64 512]) (.int .u8 (j : Nat))).run Tryd.prog X = .ok (.int .i64 z) X := by
  rcases h with ⟨rfl, rfl⟩ | ⟨rfl, rfl⟩ | ⟨rfl, rfl⟩ <;> kernel_rfl

set_option maxHeartbeats 1000000 in
theorem sums_long (b : ByteArray) (k : Nat) (w : World) (hk : k < 256) (hb : 600 < b.size) :
    Calls Tryd.prog 3 #[.string b, .int .u8 (k : Nat)] w fun e w' => e = .returned (.bool true) ∧ Below w.heap.size w w' := by
  have g1 : decide ((b.size : Int) > 600) = true := by simp; omega
  have g2 : (600 : Int) < (b.size : Int) := by omega
  go_enter Tryd.func3, Tryd.ntmps3
  go_wp2_with fail
  refine (awake_any _).mono ?_
  rintro e w1 ⟨rfl, hb1⟩
  have HB1 := Lib.hid hb1; clear hb1
  go_wp2_with fail
  refine (awake_any _).mono ?_
  rintro e w2 ⟨rfl, hb2⟩
  have HB2 := Lib.hid (below_link HB1.out hb2); clear hb2
  go_wp2
  go_ret
  exact ⟨rfl, HB2.out⟩

set_option maxHeartbeats 1000000 in
theorem sums_256 (b : ByteArray) (k : Nat) (w : World) (hk : k < 256) (hkj : k % 3 = 0) (hb : b.size ≤ 600) (hK : Kon w) :
    Calls Tryd.prog 3 #[.string b, .int .u8 (k : Nat)] w fun e w' => e = .returned (.bool true) ∧ Below w.heap.size w w' := by
  have HK := Lib.hid hK; clear hK
  have g2 : ¬ (600 : Int) < (b.size : Int) := by omega
  have q1 : Int.tmod (k : Int) 3 = 0 := by rw [Int.tmod_eq_emod_of_nonneg (by omega)]; omega
  have q2 : (k : Int) % 3 = 0 := by omega
  have ix := fun X => ix3 0 256 (by decide) X
  have ix' : ∀ X, (Instr.index 23 (.agg #[.int .i64 256, .int .i64 384, .int .i64 512]) (.int .u8 0)).run Tryd.prog X = .ok (.int .i64 256) X := ix
  have hz := sumOf_size_256 b
  have HS := Lib.hid (fun X h => sum_256 b X (by omega) h)
  have HR := Lib.hid (fun X => T256.ref b X (by omega))
  generalize sumOf 256 b = S at *
  have hz2 : (S.size : Int) = 32 := by omega
  clear hkj hk hz hb ix
  go_enter Tryd.func3, Tryd.ntmps3
  go_wp2_with fail
  refine (awake_any _).mono ?_
  rintro e w1 ⟨rfl, hb1⟩
  have HB1 := Lib.hid hb1; clear hb1
  go_wp2_with fail
  refine (HS.out _ (HK.out.next HB1.out)).mono ?_
  rintro e w2 ⟨rfl, hb2⟩
  have HB2 := Lib.hid (below_link HB1.out hb2); clear hb2
  go_wp2_with fail
  refine (HR.out _).mono ?_
  rintro e w3 ⟨rfl, hb3⟩
  have HB3 := Lib.hid (below_link HB2.out hb3); clear hb3
  go_wp2
  go_ret
  exact ⟨rfl, HB3.out⟩

set_option maxHeartbeats 1000000 in
theorem sums_384 (b : ByteArray) (k : Nat) (w : World) (hk : k < 256) (hkj : k % 3 = 1) (hb : b.size ≤ 600) (hK : Kon w) :
    Calls Tryd.prog 3 #[.string b, .int .u8 (k : Nat)] w fun e w' => e = .returned (.bool true) ∧ Below w.heap.size w w' := by
  have HK := Lib.hid hK; clear hK
  have g2 : ¬ (600 : Int) < (b.size : Int) := by omega
  have q1 : Int.tmod (k : Int) 3 = 1 := by rw [Int.tmod_eq_emod_of_nonneg (by omega)]; omega
  have q2 : (k : Int) % 3 = 1 := by omega
  have ix := fun X => ix3 1 384 (by decide) X
  have ix' : ∀ X, (Instr.index 23 (.agg #[.int .i64 256, .int .i64 384, .int .i64 512]) (.int .u8 1)).run Tryd.prog X = .ok (.int .i64 384) X := ix
  have hz := sumOf_size_384 b
  have HS := Lib.hid (fun X h => sum_384 b X (by omega) h)
  have HR := Lib.hid (fun X => T384.ref b X (by omega))
  generalize sumOf 384 b = S at *
  have hz2 : (S.size : Int) = 48 := by omega
  clear hkj hk hz hb ix
  go_enter Tryd.func3, Tryd.ntmps3
  go_wp2_with fail
  refine (awake_any _).mono ?_
  rintro e w1 ⟨rfl, hb1⟩
  have HB1 := Lib.hid hb1; clear hb1
  go_wp2_with fail
  refine (HS.out _ (HK.out.next HB1.out)).mono ?_
  rintro e w2 ⟨rfl, hb2⟩
  have HB2 := Lib.hid (below_link HB1.out hb2); clear hb2
  go_wp2_with fail
  refine (HR.out _).mono ?_
  rintro e w3 ⟨rfl, hb3⟩
  have HB3 := Lib.hid (below_link HB2.out hb3); clear hb3
  go_wp2
  go_ret
  exact ⟨rfl, HB3.out⟩

set_option maxHeartbeats 1000000 in
theorem sums_512 (b : ByteArray) (k : Nat) (w : World) (hk : k < 256) (hkj : k % 3 = 2) (hb : b.size ≤ 600) (hK : Kon w) :
    Calls Tryd.prog 3 #[.string b, .int .u8 (k : Nat)] w fun e w' => e = .returned (.bool true) ∧ Below w.heap.size w w' := by
  have HK := Lib.hid hK; clear hK
  have g2 : ¬ (600 : Int) < (b.size : Int) := by omega
  have q1 : Int.tmod (k : Int) 3 = 2 := by rw [Int.tmod_eq_emod_of_nonneg (by omega)]; omega
  have q2 : (k : Int) % 3 = 2 := by omega
  have ix := fun X => ix3 2 512 (by decide) X
  have ix' : ∀ X, (Instr.index 23 (.agg #[.int .i64 256, .int .i64 384, .int .i64 512]) (.int .u8 2)).run Tryd.prog X = .ok (.int .i64 512) X := ix
  have hz := sumOf_size_512 b
  have HS := Lib.hid (fun X h => sum_512 b X (by omega) h)
  have HR := Lib.hid (fun X => T512.ref b X (by omega))
  generalize sumOf 512 b = S at *
  have hz2 : (S.size : Int) = 64 := by omega
  clear hkj hk hz hb ix
  go_enter Tryd.func3, Tryd.ntmps3
  go_wp2_with fail
  refine (awake_any _).mono ?_
  rintro e w1 ⟨rfl, hb1⟩
  have HB1 := Lib.hid hb1; clear hb1
  go_wp2_with fail
  refine (HS.out _ (HK.out.next HB1.out)).mono ?_
  rintro e w2 ⟨rfl, hb2⟩
  have HB2 := Lib.hid (below_link HB1.out hb2); clear hb2
  go_wp2_with fail
  refine (HR.out _).mono ?_
  rintro e w3 ⟨rfl, hb3⟩
  have HB3 := Lib.hid (below_link HB2.out hb3); clear hb3
  go_wp2
  go_ret
  exact ⟨rfl, HB3.out⟩

theorem sums_all (b : ByteArray) (k : Nat) (w : World) (hk : k < 256) (hK : Kon w) :
    Calls Tryd.prog 3 #[.string b, .int .u8 (k : Nat)] w fun e w' => e = .returned (.bool true) ∧ Below w.heap.size w w' := by
  by_cases hb : 600 < b.size
  · exact sums_long b k w hk hb
  have h3 : k % 3 = 0 ∨ k % 3 = 1 ∨ k % 3 = 2 := by omega
  rcases h3 with h | h | h
  · exact sums_256 b k w hk h (by omega) hK
  · exact sums_384 b k w hk h (by omega) hK
  · exact sums_512 b k w hk h (by omega) hK

/-- The row of so many bytes of one kind. -/
def likes (n c i : Nat) : List Nat := List.replicate i c ++ List.replicate (n - i) 0
theorem likes_get (n c i j : Nat) (hj : j < n) : ∃ z, (likes n c i)[j]? = some z := ⟨_, List.getElem?_eq_getElem (by simp [likes]; omega)⟩
theorem likes_next (n c i : Nat) (hi : i < n) : (likes n c i).set i c = likes n c (i + 1) := by
  apply List.ext_getElem?
  intro j
  unfold likes
  rw [List.getElem?_set]
  by_cases hj : i = j
  · subst hj
    rw [if_pos rfl, if_pos (by simp; omega), List.getElem?_append_left (by simp), List.getElem?_replicate, if_pos (by omega)]
  · rw [if_neg hj]
    by_cases h1 : j < i
    · rw [List.getElem?_append_left (by simpa using h1), List.getElem?_append_left (by simp; omega), List.getElem?_replicate, List.getElem?_replicate, if_pos h1, if_pos (by omega)]
    · rw [List.getElem?_append_right (by simp; omega), List.getElem?_append_right (by simp; omega), List.length_replicate, List.length_replicate, List.getElem?_replicate, List.getElem?_replicate]
      have : (j - i < n - i) = (j - (i + 1) < n - (i + 1)) := by apply propext; omega
      simp only [this]

set_option maxHeartbeats 2000000 in
theorem lengths_256 (n c k : Nat) (w : World) (hn : n < 65536) (hc : c < 256) (hk : k < 256) (hkj : k % 3 = 0) (hK : Kon w) :
    Calls Tryd.prog 4 #[.int .u16 (n : Nat), .int .u8 (c : Nat), .int .u8 (k : Nat)] w fun e w' => e = .returned (.bool true) ∧ Below w.heap.size w w' := by
  have HK := Lib.hid hK; clear hK
  have q1 : Int.tmod (k : Int) 3 = 0 := by rw [Int.tmod_eq_emod_of_nonneg (by omega)]; omega
  have q2 : (k : Int) % 3 = 0 := by omega
  have ix : ∀ X, (Instr.index 23 (.agg #[.int .i64 256, .int .i64 384, .int .i64 512]) (.int .u8 0)).run Tryd.prog X = .ok (.int .i64 256) X := fun X => ix3 0 256 (by decide) X
  obtain ⟨m, hm⟩ : ∃ m, m = n % 400 := ⟨_, rfl⟩
  have r1 : Int.tmod (n : Int) 400 = (m : Int) := by rw [Int.tmod_eq_emod_of_nonneg (by omega)]; omega
  have r2 : (n : Int) % 400 = (m : Int) := by omega
  have r3 : IntKind.i64.wrap (m : Int) = (m : Int) := by rw [IntKind.wrap_i64]; omega
  have hml : m < 400 := by omega
  have HC := Lib.hid hc; clear hc
  have HML := Lib.hid hml
  obtain ⟨i0, hi, hz0, hz1, hz2⟩ := info_parts infoByte
  clear hkj hk hm hn
  go_enter Tryd.func4, Tryd.ntmps4
  go_wp2_with fail
  refine (awake_any _).mono ?_
  rintro e w1 ⟨rfl, hb1⟩
  have HB1 := Lib.hid hb1; clear hb1
  go_wp2_with (at_make; refine wpList_make_full _ rfl _ _ 27 rfl w1.heap.size 5 i0 (.int .u8 0) 1 Tryd.underlying27 hi hz0 hz1 _ _ _ _ m rfl rfl rfl rfl (by rw [hz2]; omega) (by unfold maxLen; omega) (Nat.le_refl _) ?_; intro w2 hown hgrow; have hQ := By.made hown hgrow; have HQ := Lib.hid (And.intro (show By w1.heap.size (likes m c 0) w2 from hQ.1) hQ.2); clear hown hgrow hQ)
  go_loopw [8] (fun x wr => ∃ i : Nat, i ≤ m ∧ x = .int .i64 (i : Nat) ∧ By w1.heap.size (likes m c i) wr ∧ Below w1.heap.size w1 wr) (fun x _ => m - (intOf x).toNat)
  case atStart => exact ⟨0, Nat.zero_le _, rfl, HQ.out⟩
  case round =>
    obtain ⟨i, hi, rfl, hQ, hB⟩ := hrel
    clear HQ
    by_cases hlt : i < m
    · obtain ⟨z, hz⟩ := likes_get m c i i hlt
      have hcell := hQ.cell hz
      have hf := hQ.frozen i
      have HS := Lib.hid (show By w1.heap.size (likes m c (i + 1)) (wr.setCell ⟨w1.heap.size, i, none⟩ (.int .u8 (c : Nat))) by rw [← likes_next m c i hlt]; exact hQ.setE i c)
      have HB := Lib.hid (show Below w1.heap.size w1 (wr.setCell ⟨w1.heap.size, i, none⟩ (.int .u8 (c : Nat))) from hB.setCell (Nat.le_refl _) _)
      clear hQ hB hz
      go_wp2
      go_roundw
      case rel => exact ⟨i + 1, by omega, by go_num, HS.out, HB.out⟩
      case measure => simp [intOf]; omega
    · obtain rfl : i = m := by omega
      have hll : (likes i c i).length = i := by simp [likes]
      have hls : ∀ x ∈ likes i c i, x < 256 := by
        intro x hx
        unfold likes at hx
        rcases List.mem_append.1 hx with hx | hx
        · rw [List.eq_of_mem_replicate hx]; exact HC.out
        · rw [List.eq_of_mem_replicate hx]; decide
      have hconv : ∀ X : World, X.heap[w1.heap.size]? = wr.heap[w1.heap.size]? → (convert 27 9 (.slice (some ⟨w1.heap.size, 0, none⟩) i i)).run Tryd.prog X = .ok (.string (toB (likes i c i))) X :=
        fun X hX => By.back (l := likes i c i) (show By w1.heap.size (likes i c i) X from hX.trans hQ) i i hll.symm hls
      obtain ⟨b, hb⟩ : ∃ b, b = toB (likes i c i) := ⟨_, rfl⟩
      have hbs : b.size < 400 := by rw [hb, toB_size, hll]; exact HML.out
      rw [← hb] at hconv
      have HS := Lib.hid (fun X h => sum_256 b X (by omega) h)
      have HR := Lib.hid (fun X => T256.ref b X (by omega))
      generalize sumOf 256 b = S at *
      have hlt1 : w1.heap.size < wr.heap.size := (Array.getElem?_eq_some_iff.1 hQ).1
      have HKX := Lib.hid (fun X (h : Below wr.heap.size wr X) => ((HK.out.next HB1.out).next hB).next h)
      have HCV := Lib.hid (fun X (h : Below wr.heap.size wr X) => hconv X (h.block _ hlt1))
      have HB := Lib.hid (below_link HB1.out hB)
      have hd : Below wr.heap.size wr wr.drew := (Below.refl _ _).drew
      clear hQ hB hll hls hconv hb hbs hlt1 hlt
      go_wp2
      go_region_held3 (fun X => (convert 27 9 (.slice (some ⟨w1.heap.size, 0, none⟩) i i)).run Tryd.prog X = .ok (.string b) X) ((refine HCV.out _ ?_; (with_reducible assumption)))
        (first | (go_at_call 11; refine (HS.out _ (HKX.out _ (by with_reducible assumption))).mono ?_; rintro e w' ⟨rfl, hbw⟩; have hbx' := below_link (by with_reducible assumption) hbw) | (go_at_call 12; refine (HR.out _).mono ?_; rintro e w' ⟨rfl, hbw⟩; have hbx' := below_link (by with_reducible assumption) hbw))
      all_goals (go_wp2; go_ret)
      all_goals exact ⟨rfl, below_link HB.out (by with_reducible assumption)⟩

set_option maxHeartbeats 2000000 in
theorem lengths_384 (n c k : Nat) (w : World) (hn : n < 65536) (hc : c < 256) (hk : k < 256) (hkj : k % 3 = 1) (hK : Kon w) :
    Calls Tryd.prog 4 #[.int .u16 (n : Nat), .int .u8 (c : Nat), .int .u8 (k : Nat)] w fun e w' => e = .returned (.bool true) ∧ Below w.heap.size w w' := by
  have HK := Lib.hid hK; clear hK
  have q1 : Int.tmod (k : Int) 3 = 1 := by rw [Int.tmod_eq_emod_of_nonneg (by omega)]; omega
  have q2 : (k : Int) % 3 = 1 := by omega
  have ix : ∀ X, (Instr.index 23 (.agg #[.int .i64 256, .int .i64 384, .int .i64 512]) (.int .u8 1)).run Tryd.prog X = .ok (.int .i64 384) X := fun X => ix3 1 384 (by decide) X
  obtain ⟨m, hm⟩ : ∃ m, m = n % 400 := ⟨_, rfl⟩
  have r1 : Int.tmod (n : Int) 400 = (m : Int) := by rw [Int.tmod_eq_emod_of_nonneg (by omega)]; omega
  have r2 : (n : Int) % 400 = (m : Int) := by omega
  have r3 : IntKind.i64.wrap (m : Int) = (m : Int) := by rw [IntKind.wrap_i64]; omega
  have hml : m < 400 := by omega
  have HC := Lib.hid hc; clear hc
  have HML := Lib.hid hml
  obtain ⟨i0, hi, hz0, hz1, hz2⟩ := info_parts infoByte
  clear hkj hk hm hn
  go_enter Tryd.func4, Tryd.ntmps4
  go_wp2_with fail
  refine (awake_any _).mono ?_
  rintro e w1 ⟨rfl, hb1⟩
  have HB1 := Lib.hid hb1; clear hb1
  go_wp2_with (at_make; refine wpList_make_full _ rfl _ _ 27 rfl w1.heap.size 5 i0 (.int .u8 0) 1 Tryd.underlying27 hi hz0 hz1 _ _ _ _ m rfl rfl rfl rfl (by rw [hz2]; omega) (by unfold maxLen; omega) (Nat.le_refl _) ?_; intro w2 hown hgrow; have hQ := By.made hown hgrow; have HQ := Lib.hid (And.intro (show By w1.heap.size (likes m c 0) w2 from hQ.1) hQ.2); clear hown hgrow hQ)
  go_loopw [8] (fun x wr => ∃ i : Nat, i ≤ m ∧ x = .int .i64 (i : Nat) ∧ By w1.heap.size (likes m c i) wr ∧ Below w1.heap.size w1 wr) (fun x _ => m - (intOf x).toNat)
  case atStart => exact ⟨0, Nat.zero_le _, rfl, HQ.out⟩
  case round =>
    obtain ⟨i, hi, rfl, hQ, hB⟩ := hrel
    clear HQ
    by_cases hlt : i < m
    · obtain ⟨z, hz⟩ := likes_get m c i i hlt
      have hcell := hQ.cell hz
      have hf := hQ.frozen i
      have HS := Lib.hid (show By w1.heap.size (likes m c (i + 1)) (wr.setCell ⟨w1.heap.size, i, none⟩ (.int .u8 (c : Nat))) by rw [← likes_next m c i hlt]; exact hQ.setE i c)
      have HB := Lib.hid (show Below w1.heap.size w1 (wr.setCell ⟨w1.heap.size, i, none⟩ (.int .u8 (c : Nat))) from hB.setCell (Nat.le_refl _) _)
      clear hQ hB hz
      go_wp2
      go_roundw
      case rel => exact ⟨i + 1, by omega, by go_num, HS.out, HB.out⟩
      case measure => simp [intOf]; omega
    · obtain rfl : i = m := by omega
      have hll : (likes i c i).length = i := by simp [likes]
      have hls : ∀ x ∈ likes i c i, x < 256 := by
        intro x hx
        unfold likes at hx
        rcases List.mem_append.1 hx with hx | hx
        · rw [List.eq_of_mem_replicate hx]; exact HC.out
        · rw [List.eq_of_mem_replicate hx]; decide
      have hconv : ∀ X : World, X.heap[w1.heap.size]? = wr.heap[w1.heap.size]? → (convert 27 9 (.slice (some ⟨w1.heap.size, 0, none⟩) i i)).run Tryd.prog X = .ok (.string (toB (likes i c i))) X :=
        fun X hX => By.back (l := likes i c i) (show By w1.heap.size (likes i c i) X from hX.trans hQ) i i hll.symm hls
      obtain ⟨b, hb⟩ : ∃ b, b = toB (likes i c i) := ⟨_, rfl⟩
      have hbs : b.size < 400 := by rw [hb, toB_size, hll]; exact HML.out
      rw [← hb] at hconv
      have HS := Lib.hid (fun X h => sum_384 b X (by omega) h)
      have HR := Lib.hid (fun X => T384.ref b X (by omega))
      generalize sumOf 384 b = S at *
      have hlt1 : w1.heap.size < wr.heap.size := (Array.getElem?_eq_some_iff.1 hQ).1
      have HKX := Lib.hid (fun X (h : Below wr.heap.size wr X) => ((HK.out.next HB1.out).next hB).next h)
      have HCV := Lib.hid (fun X (h : Below wr.heap.size wr X) => hconv X (h.block _ hlt1))
      have HB := Lib.hid (below_link HB1.out hB)
      have hd : Below wr.heap.size wr wr.drew := (Below.refl _ _).drew
      clear hQ hB hll hls hconv hb hbs hlt1 hlt
      go_wp2
      go_region_held3 (fun X => (convert 27 9 (.slice (some ⟨w1.heap.size, 0, none⟩) i i)).run Tryd.prog X = .ok (.string b) X) ((refine HCV.out _ ?_; (with_reducible assumption)))
        (first | (go_at_call 11; refine (HS.out _ (HKX.out _ (by with_reducible assumption))).mono ?_; rintro e w' ⟨rfl, hbw⟩; have hbx' := below_link (by with_reducible assumption) hbw) | (go_at_call 12; refine (HR.out _).mono ?_; rintro e w' ⟨rfl, hbw⟩; have hbx' := below_link (by with_reducible assumption) hbw))
      all_goals (go_wp2; go_ret)
      all_goals exact ⟨rfl, below_link HB.out (by with_reducible assumption)⟩

set_option maxHeartbeats 2000000 in
theorem lengths_512 (n c k : Nat) (w : World) (hn : n < 65536) (hc : c < 256) (hk : k < 256) (hkj : k % 3 = 2) (hK : Kon w) :
    Calls Tryd.prog 4 #[.int .u16 (n : Nat), .int .u8 (c : Nat), .int .u8 (k : Nat)] w fun e w' => e = .returned (.bool true) ∧ Below w.heap.size w w' := by
  have HK := Lib.hid hK; clear hK
  have q1 : Int.tmod (k : Int) 3 = 2 := by rw [Int.tmod_eq_emod_of_nonneg (by omega)]; omega
  have q2 : (k : Int) % 3 = 2 := by omega
  have ix : ∀ X, (Instr.index 23 (.agg #[.int .i64 256, .int .i64 384, .int .i64 512]) (.int .u8 2)).run Tryd.prog X = .ok (.int .i64 512) X := fun X => ix3 2 512 (by decide) X
  obtain ⟨m, hm⟩ : ∃ m, m = n % 400 := ⟨_, rfl⟩
  have r1 : Int.tmod (n : Int) 400 = (m : Int) := by rw [Int.tmod_eq_emod_of_nonneg (by omega)]; omega
  have r2 : (n : Int) % 400 = (m : Int) := by omega
  have r3 : IntKind.i64.wrap (m : Int) = (m : Int) := by rw [IntKind.wrap_i64]; omega
  have hml : m < 400 := by omega
  have HC := Lib.hid hc; clear hc
  have HML := Lib.hid hml
  obtain ⟨i0, hi, hz0, hz1, hz2⟩ := info_parts infoByte
  clear hkj hk hm hn
  go_enter Tryd.func4, Tryd.ntmps4
  go_wp2_with fail
  refine (awake_any _).mono ?_
  rintro e w1 ⟨rfl, hb1⟩
  have HB1 := Lib.hid hb1; clear hb1
  go_wp2_with (at_make; refine wpList_make_full _ rfl _ _ 27 rfl w1.heap.size 5 i0 (.int .u8 0) 1 Tryd.underlying27 hi hz0 hz1 _ _ _ _ m rfl rfl rfl rfl (by rw [hz2]; omega) (by unfold maxLen; omega) (Nat.le_refl _) ?_; intro w2 hown hgrow; have hQ := By.made hown hgrow; have HQ := Lib.hid (And.intro (show By w1.heap.size (likes m c 0) w2 from hQ.1) hQ.2); clear hown hgrow hQ)
  go_loopw [8] (fun x wr => ∃ i : Nat, i ≤ m ∧ x = .int .i64 (i : Nat) ∧ By w1.heap.size (likes m c i) wr ∧ Below w1.heap.size w1 wr) (fun x _ => m - (intOf x).toNat)
  case atStart => exact ⟨0, Nat.zero_le _, rfl, HQ.out⟩
  case round =>
    obtain ⟨i, hi, rfl, hQ, hB⟩ := hrel
    clear HQ
    by_cases hlt : i < m
    · obtain ⟨z, hz⟩ := likes_get m c i i hlt
      have hcell := hQ.cell hz
      have hf := hQ.frozen i
      have HS := Lib.hid (show By w1.heap.size (likes m c (i + 1)) (wr.setCell ⟨w1.heap.size, i, none⟩ (.int .u8 (c : Nat))) by rw [← likes_next m c i hlt]; exact hQ.setE i c)
      have HB := Lib.hid (show Below w1.heap.size w1 (wr.setCell ⟨w1.heap.size, i, none⟩ (.int .u8 (c : Nat))) from hB.setCell (Nat.le_refl _) _)
      clear hQ hB hz
      go_wp2
      go_roundw
      case rel => exact ⟨i + 1, by omega, by go_num, HS.out, HB.out⟩
      case measure => simp [intOf]; omega
    · obtain rfl : i = m := by omega
      have hll : (likes i c i).length = i := by simp [likes]
      have hls : ∀ x ∈ likes i c i, x < 256 := by
        intro x hx
        unfold likes at hx
        rcases List.mem_append.1 hx with hx | hx
        · rw [List.eq_of_mem_replicate hx]; exact HC.out
        · rw [List.eq_of_mem_replicate hx]; decide
      have hconv : ∀ X : World, X.heap[w1.heap.size]? = wr.heap[w1.heap.size]? → (convert 27 9 (.slice (some ⟨w1.heap.size, 0, none⟩) i i)).run Tryd.prog X = .ok (.string (toB (likes i c i))) X :=
        fun X hX => By.back (l := likes i c i) (show By w1.heap.size (likes i c i) X from hX.trans hQ) i i hll.symm hls
      obtain ⟨b, hb⟩ : ∃ b, b = toB (likes i c i) := ⟨_, rfl⟩
      have hbs : b.size < 400 := by rw [hb, toB_size, hll]; exact HML.out
      rw [← hb] at hconv
      have HS := Lib.hid (fun X h => sum_512 b X (by omega) h)
      have HR := Lib.hid (fun X => T512.ref b X (by omega))
      generalize sumOf 512 b = S at *
      have hlt1 : w1.heap.size < wr.heap.size := (Array.getElem?_eq_some_iff.1 hQ).1
      have HKX := Lib.hid (fun X (h : Below wr.heap.size wr X) => ((HK.out.next HB1.out).next hB).next h)
      have HCV := Lib.hid (fun X (h : Below wr.heap.size wr X) => hconv X (h.block _ hlt1))
      have HB := Lib.hid (below_link HB1.out hB)
      have hd : Below wr.heap.size wr wr.drew := (Below.refl _ _).drew
      clear hQ hB hll hls hconv hb hbs hlt1 hlt
      go_wp2
      go_region_held3 (fun X => (convert 27 9 (.slice (some ⟨w1.heap.size, 0, none⟩) i i)).run Tryd.prog X = .ok (.string b) X) ((refine HCV.out _ ?_; (with_reducible assumption)))
        (first | (go_at_call 11; refine (HS.out _ (HKX.out _ (by with_reducible assumption))).mono ?_; rintro e w' ⟨rfl, hbw⟩; have hbx' := below_link (by with_reducible assumption) hbw) | (go_at_call 12; refine (HR.out _).mono ?_; rintro e w' ⟨rfl, hbw⟩; have hbx' := below_link (by with_reducible assumption) hbw))
      all_goals (go_wp2; go_ret)
      all_goals exact ⟨rfl, below_link HB.out (by with_reducible assumption)⟩

theorem lengths_all (n c k : Nat) (w : World) (hn : n < 65536) (hc : c < 256) (hk : k < 256) (hK : Kon w) :
    Calls Tryd.prog 4 #[.int .u16 (n : Nat), .int .u8 (c : Nat), .int .u8 (k : Nat)] w fun e w' => e = .returned (.bool true) ∧ Below w.heap.size w w' := by
  have h3 : k % 3 = 0 ∨ k % 3 = 1 ∨ k % 3 = 2 := by omega
  rcases h3 with h | h | h
  · exact lengths_256 n c k w hn hc hk h hK
  · exact lengths_384 n c k w hn hc hk h hK
  · exact lengths_512 n c k w hn hc hk h hK

end Go.Proofs.YtfahmbkeibeceaaDoor
