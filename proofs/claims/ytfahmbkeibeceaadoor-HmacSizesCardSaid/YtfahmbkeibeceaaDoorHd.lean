/-
  The walks of HmacSums and HmacSizes. Conditions: the table of round constants holds the standard's numbers.
-/
import Derived.Test.YtfahmbkeibeceaaDoorHc
namespace Go.Proofs.YtfahmbkeibeceaaDoor
open Go.ChangeShapes Go.WideShapes Go.ChangeAt Go.RowKit Go.Great Go.ChangeMaps
open Sha
set_option linter.unusedVariables false

theorem hsums_long0 (k : Nat) (key text : ByteArray) (w : World) (hK : Kon w) (hl : 300 < key.size) :
    Calls Tryd.prog 5 #[.int .u8 (k : Nat), .string key, .string text] w fun e w' => e = .returned (.bool true) ∧ Below w.heap.size w w' := by
  have HK := Lib.hid hK; clear hK
  have g0 : (300 : Int) < (key.size : Int) := by omega
  clear hl
  go_enter Tryd.func5, Tryd.ntmps5
  go_wp2_with fail
  refine (hawake _ HK.out).mono ?_
  rintro e w1 ⟨rfl, hb1⟩
  have HB1 := Lib.hid hb1; clear hb1
  go_wp2_with fail
  refine (hawake _ (HK.out.next HB1.out)).mono ?_
  rintro e w2 ⟨rfl, hb2⟩
  have HB2 := Lib.hid (below_link HB1.out hb2); clear hb2
  go_wp2
  go_ret
  exact ⟨rfl, HB2.out⟩

theorem hsums_long1 (k : Nat) (key text : ByteArray) (w : World) (hK : Kon w) (h0 : key.size ≤ 300) (hl : 400 < text.size) :
    Calls Tryd.prog 5 #[.int .u8 (k : Nat), .string key, .string text] w fun e w' => e = .returned (.bool true) ∧ Below w.heap.size w w' := by
  have HK := Lib.hid hK; clear hK
  have g0 : ¬ (300 : Int) < (key.size : Int) := by omega
  have g1 : (400 : Int) < (text.size : Int) := by omega
  clear hl h0
  go_enter Tryd.func5, Tryd.ntmps5
  go_wp2_with fail
  refine (hawake _ HK.out).mono ?_
  rintro e w1 ⟨rfl, hb1⟩
  have HB1 := Lib.hid hb1; clear hb1
  go_wp2_with fail
  refine (hawake _ (HK.out.next HB1.out)).mono ?_
  rintro e w2 ⟨rfl, hb2⟩
  have HB2 := Lib.hid (below_link HB1.out hb2); clear hb2
  go_wp2
  go_ret
  exact ⟨rfl, HB2.out⟩

theorem hsizes_long0 (n : Int) (key text : ByteArray) (w : World) (hK : Kon w) (hl : 300 < key.size) :
    Calls Tryd.prog 6 #[.int .i64 n, .string key, .string text] w fun e w' => e = .returned (.bool true) ∧ Below w.heap.size w w' := by
  have HK := Lib.hid hK; clear hK
  have g0 : (300 : Int) < (key.size : Int) := by omega
  clear hl
  go_enter Tryd.func6, Tryd.ntmps6
  go_wp2_with fail
  refine (hawake _ HK.out).mono ?_
  rintro e w1 ⟨rfl, hb1⟩
  have HB1 := Lib.hid hb1; clear hb1
  go_wp2_with fail
  refine (hawake _ (HK.out.next HB1.out)).mono ?_
  rintro e w2 ⟨rfl, hb2⟩
  have HB2 := Lib.hid (below_link HB1.out hb2); clear hb2
  go_wp2
  go_ret
  exact ⟨rfl, HB2.out⟩

theorem hsizes_long1 (n : Int) (key text : ByteArray) (w : World) (hK : Kon w) (h0 : key.size ≤ 300) (hl : 300 < text.size) :
    Calls Tryd.prog 6 #[.int .i64 n, .string key, .string text] w fun e w' => e = .returned (.bool true) ∧ Below w.heap.size w w' := by
  have HK := Lib.hid hK; clear hK
  have g0 : ¬ (300 : Int) < (key.size : Int) := by omega
  have g1 : (300 : Int) < (text.size : Int) := by omega
  clear hl h0
  go_enter Tryd.func6, Tryd.ntmps6
  go_wp2_with fail
  refine (hawake _ HK.out).mono ?_
  rintro e w1 ⟨rfl, hb1⟩
  have HB1 := Lib.hid hb1; clear hb1
  go_wp2_with fail
  refine (hawake _ (HK.out.next HB1.out)).mono ?_
  rintro e w2 ⟨rfl, hb2⟩
  have HB2 := Lib.hid (below_link HB1.out hb2); clear hb2
  go_wp2
  go_ret
  exact ⟨rfl, HB2.out⟩

set_option maxHeartbeats 1000000 in
theorem hsums_256 (k : Nat) (key text : ByteArray) (w : World) (hK : Kon w) (hkj : k % 3 = 0) (h0 : key.size ≤ 300) (h1 : text.size ≤ 400) :
    Calls Tryd.prog 5 #[.int .u8 (k : Nat), .string key, .string text] w fun e w' => e = .returned (.bool true) ∧ Below w.heap.size w w' := by
  have HK := Lib.hid hK; clear hK
  have g0 : ¬ (300 : Int) < (key.size : Int) := by omega
  have g1 : ¬ (400 : Int) < (text.size : Int) := by omega
  have HS := Lib.hid (fun (X : World) (h : Kon X) => hsum_256 key text (.slice (some ⟨X.heap.size, 0, none⟩) 1 1) (X.alloc (.cells #[.string text] 9)) (h.alloc _) (by omega) (by omega)
    (joins_one _ _ _ _ _ (by rw [alloc_size]; exact Nat.lt_succ_self _) (cell_of_row _ _ 0 _ _ _ (heap_alloc_new X (.cells #[.string text] 9)))))
  have HR := Lib.hid (fun X => rsum_256 key text X (by omega) (by omega))
  have hz := hmac_size_256 key text
  generalize hmacOf 256 64 key text = S at *
  have hz2 : (S.size : Int) = 32 := by omega
  have HJ := Lib.hid (fun X => hsize_256 k X hkj)
  clear h0 h1 hz hkj
  go_enter Tryd.func5, Tryd.ntmps5
  go_wp2_with fail
  refine (hawake _ HK.out).mono ?_
  rintro e w1 ⟨rfl, hb1⟩
  have HB1 := Lib.hid hb1; clear hb1
  go_wp2_with fail
  refine (HJ.out _).mono ?_
  rintro e w1' ⟨rfl, rfl⟩
  go_wp2_with fail
  refine (HS.out _ (HK.out.next HB1.out)).mono ?_
  rintro e w2 ⟨rfl, hb2⟩
  have HB2 := Lib.hid (below_link (below_alloc HB1.out _) hb2); clear hb2
  go_wp2_with fail
  refine (HR.out _).mono ?_
  rintro e w3 ⟨rfl, hb3⟩
  have HB3 := Lib.hid (below_link HB2.out hb3); clear hb3
  go_wp2
  go_ret
  exact ⟨rfl, HB3.out⟩

set_option maxHeartbeats 1000000 in
theorem hsizes_256 (key text : ByteArray) (w : World) (hK : Kon w) (h0 : key.size ≤ 300) (h1 : text.size ≤ 300) :
    Calls Tryd.prog 6 #[.int .i64 256, .string key, .string text] w fun e w' => e = .returned (.bool true) ∧ Below w.heap.size w w' := by
  have HK := Lib.hid hK; clear hK
  have g0 : ¬ (300 : Int) < (key.size : Int) := by omega
  have g1 : ¬ (300 : Int) < (text.size : Int) := by omega
  have HS := Lib.hid (fun (X : World) (h : Kon X) => hsum_256 key text (.slice (some ⟨X.heap.size, 0, none⟩) 1 1) (X.alloc (.cells #[.string text] 9)) (h.alloc _) (by omega) (by omega)
    (joins_one _ _ _ _ _ (by rw [alloc_size]; exact Nat.lt_succ_self _) (cell_of_row _ _ 0 _ _ _ (heap_alloc_new X (.cells #[.string text] 9)))))
  have HR := Lib.hid (fun X => rsum_256 key text X (by omega) (by omega))
  have hz := hmac_size_256 key text
  generalize hmacOf 256 64 key text = S at *
  have hz2 : (S.size : Int) = 32 := by omega
  
  clear h0 h1 hz
  go_enter Tryd.func6, Tryd.ntmps6
  go_wp2_with fail
  refine (hawake _ HK.out).mono ?_
  rintro e w1 ⟨rfl, hb1⟩
  have HB1 := Lib.hid hb1; clear hb1
  go_wp2_with fail
  refine (HS.out _ (HK.out.next HB1.out)).mono ?_
  rintro e w2 ⟨rfl, hb2⟩
  have HB2 := Lib.hid (below_link (below_alloc HB1.out _) hb2); clear hb2
  go_wp2_with fail
  refine (HR.out _).mono ?_
  rintro e w3 ⟨rfl, hb3⟩
  have HB3 := Lib.hid (below_link HB2.out hb3); clear hb3
  go_wp2
  go_ret
  exact ⟨rfl, HB3.out⟩

set_option maxHeartbeats 1000000 in
theorem hsums_384 (k : Nat) (key text : ByteArray) (w : World) (hK : Kon w) (hkj : k % 3 = 1) (h0 : key.size ≤ 300) (h1 : text.size ≤ 400) :
    Calls Tryd.prog 5 #[.int .u8 (k : Nat), .string key, .string text] w fun e w' => e = .returned (.bool true) ∧ Below w.heap.size w w' := by
  have HK := Lib.hid hK; clear hK
  have g0 : ¬ (300 : Int) < (key.size : Int) := by omega
  have g1 : ¬ (400 : Int) < (text.size : Int) := by omega
  have HS := Lib.hid (fun (X : World) (h : Kon X) => hsum_384 key text (.slice (some ⟨X.heap.size, 0, none⟩) 1 1) (X.alloc (.cells #[.string text] 9)) (h.alloc _) (by omega) (by omega)
    (joins_one _ _ _ _ _ (by rw [alloc_size]; exact Nat.lt_succ_self _) (cell_of_row _ _ 0 _ _ _ (heap_alloc_new X (.cells #[.string text] 9)))))
  have HR := Lib.hid (fun X => rsum_384 key text X (by omega) (by omega))
  have hz := hmac_size_384 key text
  generalize hmacOf 384 128 key text = S at *
  have hz2 : (S.size : Int) = 48 := by omega
  have HJ := Lib.hid (fun X => hsize_384 k X hkj)
  clear h0 h1 hz hkj
  go_enter Tryd.func5, Tryd.ntmps5
  go_wp2_with fail
  refine (hawake _ HK.out).mono ?_
  rintro e w1 ⟨rfl, hb1⟩
  have HB1 := Lib.hid hb1; clear hb1
  go_wp2_with fail
  refine (HJ.out _).mono ?_
  rintro e w1' ⟨rfl, rfl⟩
  go_wp2_with fail
  refine (HS.out _ (HK.out.next HB1.out)).mono ?_
  rintro e w2 ⟨rfl, hb2⟩
  have HB2 := Lib.hid (below_link (below_alloc HB1.out _) hb2); clear hb2
  go_wp2_with fail
  refine (HR.out _).mono ?_
  rintro e w3 ⟨rfl, hb3⟩
  have HB3 := Lib.hid (below_link HB2.out hb3); clear hb3
  go_wp2
  go_ret
  exact ⟨rfl, HB3.out⟩

set_option maxHeartbeats 1000000 in
theorem hsizes_384 (key text : ByteArray) (w : World) (hK : Kon w) (h0 : key.size ≤ 300) (h1 : text.size ≤ 300) :
    Calls Tryd.prog 6 #[.int .i64 384, .string key, .string text] w fun e w' => e = .returned (.bool true) ∧ Below w.heap.size w w' := by
  have HK := Lib.hid hK; clear hK
  have g0 : ¬ (300 : Int) < (key.size : Int) := by omega
  have g1 : ¬ (300 : Int) < (text.size : Int) := by omega
  have HS := Lib.hid (fun (X : World) (h : Kon X) => hsum_384 key text (.slice (some ⟨X.heap.size, 0, none⟩) 1 1) (X.alloc (.cells #[.string text] 9)) (h.alloc _) (by omega) (by omega)
    (joins_one _ _ _ _ _ (by rw [alloc_size]; exact Nat.lt_succ_self _) (cell_of_row _ _ 0 _ _ _ (heap_alloc_new X (.cells #[.string text] 9)))))
  have HR := Lib.hid (fun X => rsum_384 key text X (by omega) (by omega))
  have hz := hmac_size_384 key text
  generalize hmacOf 384 128 key text = S at *
  have hz2 : (S.size : Int) = 48 := by omega
  
  clear h0 h1 hz
  go_enter Tryd.func6, Tryd.ntmps6
  go_wp2_with fail
  refine (hawake _ HK.out).mono ?_
  rintro e w1 ⟨rfl, hb1⟩
  have HB1 := Lib.hid hb1; clear hb1
  go_wp2_with fail
  refine (HS.out _ (HK.out.next HB1.out)).mono ?_
  rintro e w2 ⟨rfl, hb2⟩
  have HB2 := Lib.hid (below_link (below_alloc HB1.out _) hb2); clear hb2
  go_wp2_with fail
  refine (HR.out _).mono ?_
  rintro e w3 ⟨rfl, hb3⟩
  have HB3 := Lib.hid (below_link HB2.out hb3); clear hb3
  go_wp2
  go_ret
  exact ⟨rfl, HB3.out⟩

set_option maxHeartbeats 1000000 in
theorem hsums_512 (k : Nat) (key text : ByteArray) (w : World) (hK : Kon w) (hkj : k % 3 = 2) (h0 : key.size ≤ 300) (h1 : text.size ≤ 400) :
    Calls Tryd.prog 5 #[.int .u8 (k : Nat), .string key, .string text] w fun e w' => e = .returned (.bool true) ∧ Below w.heap.size w w' := by
  have HK := Lib.hid hK; clear hK
  have g0 : ¬ (300 : Int) < (key.size : Int) := by omega
  have g1 : ¬ (400 : Int) < (text.size : Int) := by omega
  have HS := Lib.hid (fun (X : World) (h : Kon X) => hsum_512 key text (.slice (some ⟨X.heap.size, 0, none⟩) 1 1) (X.alloc (.cells #[.string text] 9)) (h.alloc _) (by omega) (by omega)
    (joins_one _ _ _ _ _ (by rw [alloc_size]; exact Nat.lt_succ_self _) (cell_of_row _ _ 0 _ _ _ (heap_alloc_new X (.cells #[.string text] 9)))))
  have HR := Lib.hid (fun X => rsum_512 key text X (by omega) (by omega))
  have hz := hmac_size_512 key text
  generalize hmacOf 512 128 key text = S at *
  have hz2 : (S.size : Int) = 64 := by omega
  have HJ := Lib.hid (fun X => hsize_512 k X hkj)
  clear h0 h1 hz hkj
  go_enter Tryd.func5, Tryd.ntmps5
  go_wp2_with fail
  refine (hawake _ HK.out).mono ?_
  rintro e w1 ⟨rfl, hb1⟩
  have HB1 := Lib.hid hb1; clear hb1
  go_wp2_with fail
  refine (HJ.out _).mono ?_
  rintro e w1' ⟨rfl, rfl⟩
  go_wp2_with fail
  refine (HS.out _ (HK.out.next HB1.out)).mono ?_
  rintro e w2 ⟨rfl, hb2⟩
  have HB2 := Lib.hid (below_link (below_alloc HB1.out _) hb2); clear hb2
  go_wp2_with fail
  refine (HR.out _).mono ?_
  rintro e w3 ⟨rfl, hb3⟩
  have HB3 := Lib.hid (below_link HB2.out hb3); clear hb3
  go_wp2
  go_ret
  exact ⟨rfl, HB3.out⟩

set_option maxHeartbeats 1000000 in
theorem hsizes_512 (key text : ByteArray) (w : World) (hK : Kon w) (h0 : key.size ≤ 300) (h1 : text.size ≤ 300) :
    Calls Tryd.prog 6 #[.int .i64 512, .string key, .string text] w fun e w' => e = .returned (.bool true) ∧ Below w.heap.size w w' := by
  have HK := Lib.hid hK; clear hK
  have g0 : ¬ (300 : Int) < (key.size : Int) := by omega
  have g1 : ¬ (300 : Int) < (text.size : Int) := by omega
  have HS := Lib.hid (fun (X : World) (h : Kon X) => hsum_512 key text (.slice (some ⟨X.heap.size, 0, none⟩) 1 1) (X.alloc (.cells #[.string text] 9)) (h.alloc _) (by omega) (by omega)
    (joins_one _ _ _ _ _ (by rw [alloc_size]; exact Nat.lt_succ_self _) (cell_of_row _ _ 0 _ _ _ (heap_alloc_new X (.cells #[.string text] 9)))))
  have HR := Lib.hid (fun X => rsum_512 key text X (by omega) (by omega))
  have hz := hmac_size_512 key text
  generalize hmacOf 512 128 key text = S at *
  have hz2 : (S.size : Int) = 64 := by omega
  
  clear h0 h1 hz
  go_enter Tryd.func6, Tryd.ntmps6
  go_wp2_with fail
  refine (hawake _ HK.out).mono ?_
  rintro e w1 ⟨rfl, hb1⟩
  have HB1 := Lib.hid hb1; clear hb1
  go_wp2_with fail
  refine (HS.out _ (HK.out.next HB1.out)).mono ?_
  rintro e w2 ⟨rfl, hb2⟩
  have HB2 := Lib.hid (below_link (below_alloc HB1.out _) hb2); clear hb2
  go_wp2_with fail
  refine (HR.out _).mono ?_
  rintro e w3 ⟨rfl, hb3⟩
  have HB3 := Lib.hid (below_link HB2.out hb3); clear hb3
  go_wp2
  go_ret
  exact ⟨rfl, HB3.out⟩

theorem hsizes_other (n : Int) (key text : ByteArray) (w : World) (hK : Kon w) (n1 : n ≠ 256) (n2 : n ≠ 384) (n3 : n ≠ 512) (h0 : key.size ≤ 300) (h1 : text.size ≤ 300) :
    Calls Tryd.prog 6 #[.int .i64 n, .string key, .string text] w fun e w' => e = .returned (.bool true) ∧ Below w.heap.size w w' := by
  have HK := Lib.hid hK; clear hK
  have g0 : ¬ (300 : Int) < (key.size : Int) := by omega
  have g1 : ¬ (300 : Int) < (text.size : Int) := by omega
  have HS := Lib.hid (fun X ps => hsum_other n key ps X n1 n2 n3)
  have HR := Lib.hid (fun X => rsum_other n key text X n1 n2 n3)
  clear h0 h1 n1 n2 n3
  go_enter Tryd.func6, Tryd.ntmps6
  go_wp2_with fail
  refine (hawake _ HK.out).mono ?_
  rintro e w1 ⟨rfl, hb1⟩
  have HB1 := Lib.hid hb1; clear hb1
  go_wp2_with fail
  refine (HS.out _ _).mono ?_
  rintro e w2 ⟨rfl, hb2⟩
  have HB2 := Lib.hid (below_link (below_alloc HB1.out _) hb2); clear hb2
  go_wp2_with fail
  refine (HR.out _).mono ?_
  rintro e w3 ⟨rfl, hb3⟩
  have HB3 := Lib.hid (below_link HB2.out hb3); clear hb3
  go_wp2
  go_ret
  exact ⟨rfl, HB3.out⟩

theorem hsums_all (k : Nat) (key text : ByteArray) (w : World) (hk : k < 256) (hK : Kon w) :
    Calls Tryd.prog 5 #[.int .u8 (k : Nat), .string key, .string text] w fun e w' => e = .returned (.bool true) ∧ Below w.heap.size w w' := by
  by_cases h0 : 300 < key.size
  · exact hsums_long0 k key text w hK h0
  by_cases h1 : 400 < text.size
  · exact hsums_long1 k key text w hK (by omega) h1
  have h3 : k % 3 = 0 ∨ k % 3 = 1 ∨ k % 3 = 2 := by omega
  rcases h3 with h | h | h
  · exact hsums_256 k key text w hK h (by omega) (by omega)
  · exact hsums_384 k key text w hK h (by omega) (by omega)
  · exact hsums_512 k key text w hK h (by omega) (by omega)

theorem hsizes_all (n : Int) (key text : ByteArray) (w : World) (hK : Kon w) :
    Calls Tryd.prog 6 #[.int .i64 n, .string key, .string text] w fun e w' => e = .returned (.bool true) ∧ Below w.heap.size w w' := by
  by_cases h0 : 300 < key.size
  · exact hsizes_long0 n key text w hK h0
  by_cases h1 : 300 < text.size
  · exact hsizes_long1 n key text w hK (by omega) h1
  by_cases n1 : n = 256
  · subst n1; exact hsizes_256 key text w hK (by omega) (by omega)
  by_cases n2 : n = 384
  · subst n2; exact hsizes_384 key text w hK (by omega) (by omega)
  by_cases n3 : n = 512
  · subst n3; exact hsizes_512 key text w hK (by omega) (by omega)
  exact hsizes_other n key text w hK n1 n2 n3 (by omega) (by omega)

end Go.Proofs.YtfahmbkeibeceaaDoor
