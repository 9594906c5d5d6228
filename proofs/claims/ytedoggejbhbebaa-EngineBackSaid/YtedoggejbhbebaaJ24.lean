/-
  Joined: Hb. Conditions: as each part says.
-/
import Derived.Test.YtedoggejbhbebaaJ23

/-
  Contract of hmac.Sum (given what strings.Join makes of the parts). Conditions: key and text are shorter than 2^29 bytes; the table of round constants holds eighty words.
-/
namespace Go.Proofs.Ytedoggejbhbebaa
namespace Dg
open Go.ChangeShapes Go.WideShapes Go.ChangeAt Go.RowKit Go.Great Go.ChangeMaps
open Sha
set_option linter.unusedVariables false
set_option maxRecDepth 100000
variable {KQ : KTab}

/-- A key that fits a block. -/
def keyOf (KQ : KTab) (Z : Int) (B : Nat) (key : ByteArray) : ByteArray := if B < key.size then sumOf KQ Z key else key
/-- The code. -/
def hmacOf (KQ : KTab) (Z : Int) (B : Nat) (key text : ByteArray) : ByteArray :=
  sumOf KQ Z (toB (maskL B 92 (nums (keyOf KQ Z B key))) ++ sumOf KQ Z (toB (maskL B 54 (nums (keyOf KQ Z B key))) ++ text))

/-- What Join makes of the parts. -/
def Joins (ps : Value) (text : ByteArray) (w : World) : Prop :=
  ∀ X, Below w.heap.size w X → Calls Try.prog 58 #[ps, .string ⟨#[]⟩] X fun e w' => e = .returned (.string text) ∧ Below X.heap.size X w'

theorem joins_one (g o c : Nat) (t : ByteArray) (w : World) (hg : g < w.heap.size) (h : w.cell? ⟨g, o, none⟩ = some (.string t)) : Joins (.slice (some ⟨g, o, none⟩) 1 c) t w := by
  intro X hX
  refine (join_one g o c t X ?_).mono fun e w' ⟨h1, h2⟩ => ⟨h1, h2 ▸ Below.refl _ _⟩
  rw [World.cell?_of_block (a := ⟨g, o, none⟩) (hX.block g hg)]
  exact h

theorem hsum_other (size : Int) (key : ByteArray) (ps : Value) (w : World) (h1 : size ≠ 256) (h2 : size ≠ 384) (h3 : size ≠ 512) :
    Calls Try.prog 52 #[.int .i64 size, .string key, ps] w fun e w' => e = .returned (.string ⟨#[]⟩) ∧ Below w.heap.size w w' := by
  have H := Lib.hid (fun X => block_other size X h1 h2 h3)
  clear h1 h2 h3
  go_enter Try.func52, Try.ntmps52
  go_wp2_with fail
  refine (H.out _).mono ?_
  rintro e w1 ⟨rfl, rfl⟩
  go_wp2
  go_ret
  exact ⟨rfl, Below.refl _ _⟩

set_option maxHeartbeats 1000000 in
theorem hsum_256_short (key text : ByteArray) (ps : Value) (w : World) (hK : Kon KQ w) (hk : key.size ≤ 64) (hk2 : key.size < 536870912) (ht : text.size < 536870912) (hJ : Joins ps text w) :
    Calls Try.prog 52 #[.int .i64 256, .string key, ps] w fun e w' => e = .returned (.string (hmacOf KQ 256 64 key text)) ∧ Below w.heap.size w w' := by
  have HK := Lib.hid hK; clear hK
  have HJ := Lib.hid hJ; clear hJ
  have hko : keyOf KQ 256 64 key = key := if_neg (by omega)
  obtain ⟨R, hR⟩ : ∃ R, R = hmacOf KQ 256 64 key text := ⟨_, rfl⟩
  have hR' := hR
  unfold hmacOf at hR'
  rw [hko] at hR'
  have HRR := Lib.hid hR; clear hR hko
  have g1 : decide ((key.size : Int) > 64) = false := by simp; omega
  have g2 : ¬ (64 : Int) < (key.size : Int) := by omega
  
  have hks : key.size ≤ 64 := hk
  obtain ⟨K, hKe⟩ : ∃ K, K = key := ⟨_, rfl⟩
  rw [← hKe] at hR' hks
  obtain ⟨I, hI⟩ : ∃ I, I = toB (maskL 64 54 (nums K)) := ⟨_, rfl⟩
  obtain ⟨O, hO⟩ : ∃ O, O = toB (maskL 64 92 (nums K)) := ⟨_, rfl⟩
  have hIs : I.size = 64 := by rw [hI, toB_size, maskL_length]
  have hOs : O.size = 64 := by rw [hO, toB_size, maskL_length]
  have HMI := Lib.hid (show ∀ X, Calls Try.prog 59 #[.string K, .int .i64 64, .int .u8 54] X fun e w' => e = .returned (.string I) ∧ Below X.heap.size X w' from fun X => by rw [hI]; exact masked_any K 64 54 X (by decide) (by decide) hks)
  have HMO := Lib.hid (show ∀ X, Calls Try.prog 59 #[.string K, .int .i64 64, .int .u8 92] X fun e w' => e = .returned (.string O) ∧ Below X.heap.size X w' from fun X => by rw [hO]; exact masked_any K 64 92 X (by decide) (by decide) hks)
  rw [← hI, ← hO] at hR'
  have c1 : ¬ 9223372036854775807 < I.size + text.size := by omega
  obtain ⟨T, hT⟩ : ∃ T, T = I ++ text := ⟨_, rfl⟩
  have hTs : T.size < 1073741824 := by rw [hT, ByteArray.size_append]; omega
  have HS2 := Lib.hid (fun X (h : Kon KQ X) => sum_256 T X hTs h)
  have hDs := sumOf_size_256 (KQ := KQ) T
  rw [← hT] at hR'
  obtain ⟨D, hD⟩ : ∃ D, D = sumOf KQ 256 T := ⟨_, rfl⟩
  rw [← hD] at hR' hDs HS2
  have c2 : ¬ 9223372036854775807 < O.size + D.size := by omega
  obtain ⟨U, hU⟩ : ∃ U, U = O ++ D := ⟨_, rfl⟩
  have hUs : U.size < 1073741824 := by rw [hU, ByteArray.size_append]; omega
  have HS3 := Lib.hid (fun X (h : Kon KQ X) => sum_256 U X hUs h)
  rw [← hU] at hR'
  rw [← hR'] at HS3
  have cT := hT.symm
  have cU := hU.symm
  clear hUs hTs hDs hIs hOs hks hD hT hU hI hO hR' hk hk2 ht
  subst hKe
  go_enter Try.func52, Try.ntmps52
  go_wp2_with fail
  refine (block_256 _).mono ?_
  rintro e w0 ⟨rfl, rfl⟩
  go_wp2_with fail
  have HB1 := Lib.hid (Below.refl w0.heap.size w0)
  refine (HJ.out _ HB1.out).mono ?_
  rintro e w2 ⟨rfl, hb2⟩
  have HB2 := Lib.hid (below_link HB1.out hb2); clear hb2
  go_wp2_with fail
  refine (HMO.out _).mono ?_
  rintro e w3 ⟨rfl, hb3⟩
  have HB3 := Lib.hid (below_link HB2.out hb3); clear hb3
  go_wp2_with fail
  refine (HMI.out _).mono ?_
  rintro e w4 ⟨rfl, hb4⟩
  have HB4 := Lib.hid (below_link HB3.out hb4); clear hb4
  go_wp2_with fail
  refine (HS2.out _ (HK.out.next HB4.out)).mono ?_
  rintro e w5 ⟨rfl, hb5⟩
  have HB5 := Lib.hid (below_link HB4.out hb5); clear hb5
  go_wp2_with fail
  refine (HS3.out _ (HK.out.next HB5.out)).mono ?_
  rintro e w6 ⟨rfl, hb6⟩
  have HB6 := Lib.hid (below_link HB5.out hb6); clear hb6
  go_wp2
  go_ret
  exact ⟨congrArg (fun r => Ending.returned (.string r)) HRR.out, HB6.out⟩

set_option maxHeartbeats 1000000 in
theorem hsum_256_long (key text : ByteArray) (ps : Value) (w : World) (hK : Kon KQ w) (hk : 64 < key.size) (hk2 : key.size < 536870912) (ht : text.size < 536870912) (hJ : Joins ps text w) :
    Calls Try.prog 52 #[.int .i64 256, .string key, ps] w fun e w' => e = .returned (.string (hmacOf KQ 256 64 key text)) ∧ Below w.heap.size w w' := by
  have HK := Lib.hid hK; clear hK
  have HJ := Lib.hid hJ; clear hJ
  have hko : keyOf KQ 256 64 key = sumOf KQ 256 key := if_pos hk
  obtain ⟨R, hR⟩ : ∃ R, R = hmacOf KQ 256 64 key text := ⟨_, rfl⟩
  have hR' := hR
  unfold hmacOf at hR'
  rw [hko] at hR'
  have HRR := Lib.hid hR; clear hR hko
  have g1 : decide ((key.size : Int) > 64) = true := by simp; omega
  have g2 : (64 : Int) < (key.size : Int) := by omega
  have HS1 := Lib.hid (fun X (h : Kon KQ X) => sum_256 key X (by omega) h)
  have hks : (sumOf KQ 256 key).size ≤ 64 := by rw [sumOf_size_256]; decide
  obtain ⟨K, hKe⟩ : ∃ K, K = sumOf KQ 256 key := ⟨_, rfl⟩
  rw [← hKe] at hR' hks HS1
  obtain ⟨I, hI⟩ : ∃ I, I = toB (maskL 64 54 (nums K)) := ⟨_, rfl⟩
  obtain ⟨O, hO⟩ : ∃ O, O = toB (maskL 64 92 (nums K)) := ⟨_, rfl⟩
  have hIs : I.size = 64 := by rw [hI, toB_size, maskL_length]
  have hOs : O.size = 64 := by rw [hO, toB_size, maskL_length]
  have HMI := Lib.hid (show ∀ X, Calls Try.prog 59 #[.string K, .int .i64 64, .int .u8 54] X fun e w' => e = .returned (.string I) ∧ Below X.heap.size X w' from fun X => by rw [hI]; exact masked_any K 64 54 X (by decide) (by decide) hks)
  have HMO := Lib.hid (show ∀ X, Calls Try.prog 59 #[.string K, .int .i64 64, .int .u8 92] X fun e w' => e = .returned (.string O) ∧ Below X.heap.size X w' from fun X => by rw [hO]; exact masked_any K 64 92 X (by decide) (by decide) hks)
  rw [← hI, ← hO] at hR'
  have c1 : ¬ 9223372036854775807 < I.size + text.size := by omega
  obtain ⟨T, hT⟩ : ∃ T, T = I ++ text := ⟨_, rfl⟩
  have hTs : T.size < 1073741824 := by rw [hT, ByteArray.size_append]; omega
  have HS2 := Lib.hid (fun X (h : Kon KQ X) => sum_256 T X hTs h)
  have hDs := sumOf_size_256 (KQ := KQ) T
  rw [← hT] at hR'
  obtain ⟨D, hD⟩ : ∃ D, D = sumOf KQ 256 T := ⟨_, rfl⟩
  rw [← hD] at hR' hDs HS2
  have c2 : ¬ 9223372036854775807 < O.size + D.size := by omega
  obtain ⟨U, hU⟩ : ∃ U, U = O ++ D := ⟨_, rfl⟩
  have hUs : U.size < 1073741824 := by rw [hU, ByteArray.size_append]; omega
  have HS3 := Lib.hid (fun X (h : Kon KQ X) => sum_256 U X hUs h)
  rw [← hU] at hR'
  rw [← hR'] at HS3
  have cT := hT.symm
  have cU := hU.symm
  clear hUs hTs hDs hIs hOs hks hD hT hU hI hO hR' hk hk2 ht
  subst hKe
  go_enter Try.func52, Try.ntmps52
  go_wp2_with fail
  refine (block_256 _).mono ?_
  rintro e w0 ⟨rfl, rfl⟩
  go_wp2_with fail
  refine (HS1.out _ HK.out).mono ?_
  rintro e w1 ⟨rfl, hb1⟩
  have HB1 := Lib.hid hb1; clear hb1
  go_wp2_with fail
  refine (HJ.out _ HB1.out).mono ?_
  rintro e w2 ⟨rfl, hb2⟩
  have HB2 := Lib.hid (below_link HB1.out hb2); clear hb2
  go_wp2_with fail
  refine (HMO.out _).mono ?_
  rintro e w3 ⟨rfl, hb3⟩
  have HB3 := Lib.hid (below_link HB2.out hb3); clear hb3
  go_wp2_with fail
  refine (HMI.out _).mono ?_
  rintro e w4 ⟨rfl, hb4⟩
  have HB4 := Lib.hid (below_link HB3.out hb4); clear hb4
  go_wp2_with fail
  refine (HS2.out _ (HK.out.next HB4.out)).mono ?_
  rintro e w5 ⟨rfl, hb5⟩
  have HB5 := Lib.hid (below_link HB4.out hb5); clear hb5
  go_wp2_with fail
  refine (HS3.out _ (HK.out.next HB5.out)).mono ?_
  rintro e w6 ⟨rfl, hb6⟩
  have HB6 := Lib.hid (below_link HB5.out hb6); clear hb6
  go_wp2
  go_ret
  exact ⟨congrArg (fun r => Ending.returned (.string r)) HRR.out, HB6.out⟩

theorem hsum_256 (key text : ByteArray) (ps : Value) (w : World) (hK : Kon KQ w) (hk2 : key.size < 536870912) (ht : text.size < 536870912) (hJ : Joins ps text w) :
    Calls Try.prog 52 #[.int .i64 256, .string key, ps] w fun e w' => e = .returned (.string (hmacOf KQ 256 64 key text)) ∧ Below w.heap.size w w' := by
  by_cases hk : 64 < key.size
  · exact hsum_256_long key text ps w hK hk hk2 ht hJ
  · exact hsum_256_short key text ps w hK (by omega) hk2 ht hJ
theorem hmac_size_256 (key text : ByteArray) : (hmacOf KQ 256 64 key text).size = 32 := sumOf_size_256 _

set_option maxHeartbeats 1000000 in
theorem hsum_384_short (key text : ByteArray) (ps : Value) (w : World) (hK : Kon KQ w) (hk : key.size ≤ 128) (hk2 : key.size < 536870912) (ht : text.size < 536870912) (hJ : Joins ps text w) :
    Calls Try.prog 52 #[.int .i64 384, .string key, ps] w fun e w' => e = .returned (.string (hmacOf KQ 384 128 key text)) ∧ Below w.heap.size w w' := by
  have HK := Lib.hid hK; clear hK
  have HJ := Lib.hid hJ; clear hJ
  have hko : keyOf KQ 384 128 key = key := if_neg (by omega)
  obtain ⟨R, hR⟩ : ∃ R, R = hmacOf KQ 384 128 key text := ⟨_, rfl⟩
  have hR' := hR
  unfold hmacOf at hR'
  rw [hko] at hR'
  have HRR := Lib.hid hR; clear hR hko
  have g1 : decide ((key.size : Int) > 128) = false := by simp; omega
  have g2 : ¬ (128 : Int) < (key.size : Int) := by omega
  
  have hks : key.size ≤ 128 := hk
  obtain ⟨K, hKe⟩ : ∃ K, K = key := ⟨_, rfl⟩
  rw [← hKe] at hR' hks
  obtain ⟨I, hI⟩ : ∃ I, I = toB (maskL 128 54 (nums K)) := ⟨_, rfl⟩
  obtain ⟨O, hO⟩ : ∃ O, O = toB (maskL 128 92 (nums K)) := ⟨_, rfl⟩
  have hIs : I.size = 128 := by rw [hI, toB_size, maskL_length]
  have hOs : O.size = 128 := by rw [hO, toB_size, maskL_length]
  have HMI := Lib.hid (show ∀ X, Calls Try.prog 59 #[.string K, .int .i64 128, .int .u8 54] X fun e w' => e = .returned (.string I) ∧ Below X.heap.size X w' from fun X => by rw [hI]; exact masked_any K 128 54 X (by decide) (by decide) hks)
  have HMO := Lib.hid (show ∀ X, Calls Try.prog 59 #[.string K, .int .i64 128, .int .u8 92] X fun e w' => e = .returned (.string O) ∧ Below X.heap.size X w' from fun X => by rw [hO]; exact masked_any K 128 92 X (by decide) (by decide) hks)
  rw [← hI, ← hO] at hR'
  have c1 : ¬ 9223372036854775807 < I.size + text.size := by omega
  obtain ⟨T, hT⟩ : ∃ T, T = I ++ text := ⟨_, rfl⟩
  have hTs : T.size < 1073741824 := by rw [hT, ByteArray.size_append]; omega
  have HS2 := Lib.hid (fun X (h : Kon KQ X) => sum_384 T X hTs h)
  have hDs := sumOf_size_384 (KQ := KQ) T
  rw [← hT] at hR'
  obtain ⟨D, hD⟩ : ∃ D, D = sumOf KQ 384 T := ⟨_, rfl⟩
  rw [← hD] at hR' hDs HS2
  have c2 : ¬ 9223372036854775807 < O.size + D.size := by omega
  obtain ⟨U, hU⟩ : ∃ U, U = O ++ D := ⟨_, rfl⟩
  have hUs : U.size < 1073741824 := by rw [hU, ByteArray.size_append]; omega
  have HS3 := Lib.hid (fun X (h : Kon KQ X) => sum_384 U X hUs h)
  rw [← hU] at hR'
  rw [← hR'] at HS3
  have cT := hT.symm
  have cU := hU.symm
  clear hUs hTs hDs hIs hOs hks hD hT hU hI hO hR' hk hk2 ht
  subst hKe
  go_enter Try.func52, Try.ntmps52
  go_wp2_with fail
  refine (block_384 _).mono ?_
  rintro e w0 ⟨rfl, rfl⟩
  go_wp2_with fail
  have HB1 := Lib.hid (Below.refl w0.heap.size w0)
  refine (HJ.out _ HB1.out).mono ?_
  rintro e w2 ⟨rfl, hb2⟩
  have HB2 := Lib.hid (below_link HB1.out hb2); clear hb2
  go_wp2_with fail
  refine (HMO.out _).mono ?_
  rintro e w3 ⟨rfl, hb3⟩
  have HB3 := Lib.hid (below_link HB2.out hb3); clear hb3
  go_wp2_with fail
  refine (HMI.out _).mono ?_
  rintro e w4 ⟨rfl, hb4⟩
  have HB4 := Lib.hid (below_link HB3.out hb4); clear hb4
  go_wp2_with fail
  refine (HS2.out _ (HK.out.next HB4.out)).mono ?_
  rintro e w5 ⟨rfl, hb5⟩
  have HB5 := Lib.hid (below_link HB4.out hb5); clear hb5
  go_wp2_with fail
  refine (HS3.out _ (HK.out.next HB5.out)).mono ?_
  rintro e w6 ⟨rfl, hb6⟩
  have HB6 := Lib.hid (below_link HB5.out hb6); clear hb6
  go_wp2
  go_ret
  exact ⟨congrArg (fun r => Ending.returned (.string r)) HRR.out, HB6.out⟩

set_option maxHeartbeats 1000000 in
theorem hsum_384_long (key text : ByteArray) (ps : Value) (w : World) (hK : Kon KQ w) (hk : 128 < key.size) (hk2 : key.size < 536870912) (ht : text.size < 536870912) (hJ : Joins ps text w) :
    Calls Try.prog 52 #[.int .i64 384, .string key, ps] w fun e w' => e = .returned (.string (hmacOf KQ 384 128 key text)) ∧ Below w.heap.size w w' := by
  have HK := Lib.hid hK; clear hK
  have HJ := Lib.hid hJ; clear hJ
  have hko : keyOf KQ 384 128 key = sumOf KQ 384 key := if_pos hk
  obtain ⟨R, hR⟩ : ∃ R, R = hmacOf KQ 384 128 key text := ⟨_, rfl⟩
  have hR' := hR
  unfold hmacOf at hR'
  rw [hko] at hR'
  have HRR := Lib.hid hR; clear hR hko
  have g1 : decide ((key.size : Int) > 128) = true := by simp; omega
  have g2 : (128 : Int) < (key.size : Int) := by omega
  have HS1 := Lib.hid (fun X (h : Kon KQ X) => sum_384 key X (by omega) h)
  have hks : (sumOf KQ 384 key).size ≤ 128 := by rw [sumOf_size_384]; decide
  obtain ⟨K, hKe⟩ : ∃ K, K = sumOf KQ 384 key := ⟨_, rfl⟩
  rw [← hKe] at hR' hks HS1
  obtain ⟨I, hI⟩ : ∃ I, I = toB (maskL 128 54 (nums K)) := ⟨_, rfl⟩
  obtain ⟨O, hO⟩ : ∃ O, O = toB (maskL 128 92 (nums K)) := ⟨_, rfl⟩
  have hIs : I.size = 128 := by rw [hI, toB_size, maskL_length]
  have hOs : O.size = 128 := by rw [hO, toB_size, maskL_length]
  have HMI := Lib.hid (show ∀ X, Calls Try.prog 59 #[.string K, .int .i64 128, .int .u8 54] X fun e w' => e = .returned (.string I) ∧ Below X.heap.size X w' from fun X => by rw [hI]; exact masked_any K 128 54 X (by decide) (by decide) hks)
  have HMO := Lib.hid (show ∀ X, Calls Try.prog 59 #[.string K, .int .i64 128, .int .u8 92] X fun e w' => e = .returned (.string O) ∧ Below X.heap.size X w' from fun X => by rw [hO]; exact masked_any K 128 92 X (by decide) (by decide) hks)
  rw [← hI, ← hO] at hR'
  have c1 : ¬ 9223372036854775807 < I.size + text.size := by omega
  obtain ⟨T, hT⟩ : ∃ T, T = I ++ text := ⟨_, rfl⟩
  have hTs : T.size < 1073741824 := by rw [hT, ByteArray.size_append]; omega
  have HS2 := Lib.hid (fun X (h : Kon KQ X) => sum_384 T X hTs h)
  have hDs := sumOf_size_384 (KQ := KQ) T
  rw [← hT] at hR'
  obtain ⟨D, hD⟩ : ∃ D, D = sumOf KQ 384 T := ⟨_, rfl⟩
  rw [← hD] at hR' hDs HS2
  have c2 : ¬ 9223372036854775807 < O.size + D.size := by omega
  obtain ⟨U, hU⟩ : ∃ U, U = O ++ D := ⟨_, rfl⟩
  have hUs : U.size < 1073741824 := by rw [hU, ByteArray.size_append]; omega
  have HS3 := Lib.hid (fun X (h : Kon KQ X) => sum_384 U X hUs h)
  rw [← hU] at hR'
  rw [← hR'] at HS3
  have cT := hT.symm
  have cU := hU.symm
  clear hUs hTs hDs hIs hOs hks hD hT hU hI hO hR' hk hk2 ht
  subst hKe
  go_enter Try.func52, Try.ntmps52
  go_wp2_with fail
  refine (block_384 _).mono ?_
  rintro e w0 ⟨rfl, rfl⟩
  go_wp2_with fail
  refine (HS1.out _ HK.out).mono ?_
  rintro e w1 ⟨rfl, hb1⟩
  have HB1 := Lib.hid hb1; clear hb1
  go_wp2_with fail
  refine (HJ.out _ HB1.out).mono ?_
  rintro e w2 ⟨rfl, hb2⟩
  have HB2 := Lib.hid (below_link HB1.out hb2); clear hb2
  go_wp2_with fail
  refine (HMO.out _).mono ?_
  rintro e w3 ⟨rfl, hb3⟩
  have HB3 := Lib.hid (below_link HB2.out hb3); clear hb3
  go_wp2_with fail
  refine (HMI.out _).mono ?_
  rintro e w4 ⟨rfl, hb4⟩
  have HB4 := Lib.hid (below_link HB3.out hb4); clear hb4
  go_wp2_with fail
  refine (HS2.out _ (HK.out.next HB4.out)).mono ?_
  rintro e w5 ⟨rfl, hb5⟩
  have HB5 := Lib.hid (below_link HB4.out hb5); clear hb5
  go_wp2_with fail
  refine (HS3.out _ (HK.out.next HB5.out)).mono ?_
  rintro e w6 ⟨rfl, hb6⟩
  have HB6 := Lib.hid (below_link HB5.out hb6); clear hb6
  go_wp2
  go_ret
  exact ⟨congrArg (fun r => Ending.returned (.string r)) HRR.out, HB6.out⟩

theorem hsum_384 (key text : ByteArray) (ps : Value) (w : World) (hK : Kon KQ w) (hk2 : key.size < 536870912) (ht : text.size < 536870912) (hJ : Joins ps text w) :
    Calls Try.prog 52 #[.int .i64 384, .string key, ps] w fun e w' => e = .returned (.string (hmacOf KQ 384 128 key text)) ∧ Below w.heap.size w w' := by
  by_cases hk : 128 < key.size
  · exact hsum_384_long key text ps w hK hk hk2 ht hJ
  · exact hsum_384_short key text ps w hK (by omega) hk2 ht hJ
theorem hmac_size_384 (key text : ByteArray) : (hmacOf KQ 384 128 key text).size = 48 := sumOf_size_384 _

set_option maxHeartbeats 1000000 in
theorem hsum_512_short (key text : ByteArray) (ps : Value) (w : World) (hK : Kon KQ w) (hk : key.size ≤ 128) (hk2 : key.size < 536870912) (ht : text.size < 536870912) (hJ : Joins ps text w) :
    Calls Try.prog 52 #[.int .i64 512, .string key, ps] w fun e w' => e = .returned (.string (hmacOf KQ 512 128 key text)) ∧ Below w.heap.size w w' := by
  have HK := Lib.hid hK; clear hK
  have HJ := Lib.hid hJ; clear hJ
  have hko : keyOf KQ 512 128 key = key := if_neg (by omega)
  obtain ⟨R, hR⟩ : ∃ R, R = hmacOf KQ 512 128 key text := ⟨_, rfl⟩
  have hR' := hR
  unfold hmacOf at hR'
  rw [hko] at hR'
  have HRR := Lib.hid hR; clear hR hko
  have g1 : decide ((key.size : Int) > 128) = false := by simp; omega
  have g2 : ¬ (128 : Int) < (key.size : Int) := by omega
  
  have hks : key.size ≤ 128 := hk
  obtain ⟨K, hKe⟩ : ∃ K, K = key := ⟨_, rfl⟩
  rw [← hKe] at hR' hks
  obtain ⟨I, hI⟩ : ∃ I, I = toB (maskL 128 54 (nums K)) := ⟨_, rfl⟩
  obtain ⟨O, hO⟩ : ∃ O, O = toB (maskL 128 92 (nums K)) := ⟨_, rfl⟩
  have hIs : I.size = 128 := by rw [hI, toB_size, maskL_length]
  have hOs : O.size = 128 := by rw [hO, toB_size, maskL_length]
  have HMI := Lib.hid (show ∀ X, Calls Try.prog 59 #[.string K, .int .i64 128, .int .u8 54] X fun e w' => e = .returned (.string I) ∧ Below X.heap.size X w' from fun X => by rw [hI]; exact masked_any K 128 54 X (by decide) (by decide) hks)
  have HMO := Lib.hid (show ∀ X, Calls Try.prog 59 #[.string K, .int .i64 128, .int .u8 92] X fun e w' => e = .returned (.string O) ∧ Below X.heap.size X w' from fun X => by rw [hO]; exact masked_any K 128 92 X (by decide) (by decide) hks)
  rw [← hI, ← hO] at hR'
  have c1 : ¬ 9223372036854775807 < I.size + text.size := by omega
  obtain ⟨T, hT⟩ : ∃ T, T = I ++ text := ⟨_, rfl⟩
  have hTs : T.size < 1073741824 := by rw [hT, ByteArray.size_append]; omega
  have HS2 := Lib.hid (fun X (h : Kon KQ X) => sum_512 T X hTs h)
  have hDs := sumOf_size_512 (KQ := KQ) T
  rw [← hT] at hR'
  obtain ⟨D, hD⟩ : ∃ D, D = sumOf KQ 512 T := ⟨_, rfl⟩
  rw [← hD] at hR' hDs HS2
  have c2 : ¬ 9223372036854775807 < O.size + D.size := by omega
  obtain ⟨U, hU⟩ : ∃ U, U = O ++ D := ⟨_, rfl⟩
  have hUs : U.size < 1073741824 := by rw [hU, ByteArray.size_append]; omega
  have HS3 := Lib.hid (fun X (h : Kon KQ X) => sum_512 U X hUs h)
  rw [← hU] at hR'
  rw [← hR'] at HS3
  have cT := hT.symm
  have cU := hU.symm
  clear hUs hTs hDs hIs hOs hks hD hT hU hI hO hR' hk hk2 ht
  subst hKe
  go_enter Try.func52, Try.ntmps52
  go_wp2_with fail
  refine (block_512 _).mono ?_
  rintro e w0 ⟨rfl, rfl⟩
  go_wp2_with fail
  have HB1 := Lib.hid (Below.refl w0.heap.size w0)
  refine (HJ.out _ HB1.out).mono ?_
  rintro e w2 ⟨rfl, hb2⟩
  have HB2 := Lib.hid (below_link HB1.out hb2); clear hb2
  go_wp2_with fail
  refine (HMO.out _).mono ?_
  rintro e w3 ⟨rfl, hb3⟩
  have HB3 := Lib.hid (below_link HB2.out hb3); clear hb3
  go_wp2_with fail
  refine (HMI.out _).mono ?_
  rintro e w4 ⟨rfl, hb4⟩
  have HB4 := Lib.hid (below_link HB3.out hb4); clear hb4
  go_wp2_with fail
  refine (HS2.out _ (HK.out.next HB4.out)).mono ?_
  rintro e w5 ⟨rfl, hb5⟩
  have HB5 := Lib.hid (below_link HB4.out hb5); clear hb5
  go_wp2_with fail
  refine (HS3.out _ (HK.out.next HB5.out)).mono ?_
  rintro e w6 ⟨rfl, hb6⟩
  have HB6 := Lib.hid (below_link HB5.out hb6); clear hb6
  go_wp2
  go_ret
  exact ⟨congrArg (fun r => Ending.returned (.string r)) HRR.out, HB6.out⟩

set_option maxHeartbeats 1000000 in
theorem hsum_512_long (key text : ByteArray) (ps : Value) (w : World) (hK : Kon KQ w) (hk : 128 < key.size) (hk2 : key.size < 536870912) (ht : text.size < 536870912) (hJ : Joins ps text w) :
    Calls Try.prog 52 #[.int .i64 512, .string key, ps] w fun e w' => e = .returned (.string (hmacOf KQ 512 128 key text)) ∧ Below w.heap.size w w' := by
  have HK := Lib.hid hK; clear hK
  have HJ := Lib.hid hJ; clear hJ
  have hko : keyOf KQ 512 128 key = sumOf KQ 512 key := if_pos hk
  obtain ⟨R, hR⟩ : ∃ R, R = hmacOf KQ 512 128 key text := ⟨_, rfl⟩
  have hR' := hR
  unfold hmacOf at hR'
  rw [hko] at hR'
  have HRR := Lib.hid hR; clear hR hko
  have g1 : decide ((key.size : Int) > 128) = true := by simp; omega
  have g2 : (128 : Int) < (key.size : Int) := by omega
  have HS1 := Lib.hid (fun X (h : Kon KQ X) => sum_512 key X (by omega) h)
  have hks : (sumOf KQ 512 key).size ≤ 128 := by rw [sumOf_size_512]; decide
  obtain ⟨K, hKe⟩ : ∃ K, K = sumOf KQ 512 key := ⟨_, rfl⟩
  rw [← hKe] at hR' hks HS1
  obtain ⟨I, hI⟩ : ∃ I, I = toB (maskL 128 54 (nums K)) := ⟨_, rfl⟩
  obtain ⟨O, hO⟩ : ∃ O, O = toB (maskL 128 92 (nums K)) := ⟨_, rfl⟩
  have hIs : I.size = 128 := by rw [hI, toB_size, maskL_length]
  have hOs : O.size = 128 := by rw [hO, toB_size, maskL_length]
  have HMI := Lib.hid (show ∀ X, Calls Try.prog 59 #[.string K, .int .i64 128, .int .u8 54] X fun e w' => e = .returned (.string I) ∧ Below X.heap.size X w' from fun X => by rw [hI]; exact masked_any K 128 54 X (by decide) (by decide) hks)
  have HMO := Lib.hid (show ∀ X, Calls Try.prog 59 #[.string K, .int .i64 128, .int .u8 92] X fun e w' => e = .returned (.string O) ∧ Below X.heap.size X w' from fun X => by rw [hO]; exact masked_any K 128 92 X (by decide) (by decide) hks)
  rw [← hI, ← hO] at hR'
  have c1 : ¬ 9223372036854775807 < I.size + text.size := by omega
  obtain ⟨T, hT⟩ : ∃ T, T = I ++ text := ⟨_, rfl⟩
  have hTs : T.size < 1073741824 := by rw [hT, ByteArray.size_append]; omega
  have HS2 := Lib.hid (fun X (h : Kon KQ X) => sum_512 T X hTs h)
  have hDs := sumOf_size_512 (KQ := KQ) T
  rw [← hT] at hR'
  obtain ⟨D, hD⟩ : ∃ D, D = sumOf KQ 512 T := ⟨_, rfl⟩
  rw [← hD] at hR' hDs HS2
  have c2 : ¬ 9223372036854775807 < O.size + D.size := by omega
  obtain ⟨U, hU⟩ : ∃ U, U = O ++ D := ⟨_, rfl⟩
  have hUs : U.size < 1073741824 := by rw [hU, ByteArray.size_append]; omega
  have HS3 := Lib.hid (fun X (h : Kon KQ X) => sum_512 U X hUs h)
  rw [← hU] at hR'
  rw [← hR'] at HS3
  have cT := hT.symm
  have cU := hU.symm
  clear hUs hTs hDs hIs hOs hks hD hT hU hI hO hR' hKe hk hk2 ht
  go_enter Try.func52, Try.ntmps52
  go_wp2_with fail
  refine (block_512 _).mono ?_
  rintro e w0 ⟨rfl, rfl⟩
  go_wp2_with fail
  refine (HS1.out _ HK.out).mono ?_
  rintro e w1 ⟨rfl, hb1⟩
  have HB1 := Lib.hid hb1; clear hb1
  go_wp2_with fail
  refine (HJ.out _ HB1.out).mono ?_
  rintro e w2 ⟨rfl, hb2⟩
  have HB2 := Lib.hid (below_link HB1.out hb2); clear hb2
  go_wp2_with fail
  refine (HMO.out _).mono ?_
  rintro e w3 ⟨rfl, hb3⟩
  have HB3 := Lib.hid (below_link HB2.out hb3); clear hb3
  go_wp2_with fail
  refine (HMI.out _).mono ?_
  rintro e w4 ⟨rfl, hb4⟩
  have HB4 := Lib.hid (below_link HB3.out hb4); clear hb4
  go_wp2_with fail
  refine (HS2.out _ (HK.out.next HB4.out)).mono ?_
  rintro e w5 ⟨rfl, hb5⟩
  have HB5 := Lib.hid (below_link HB4.out hb5); clear hb5
  go_wp2_with fail
  refine (HS3.out _ (HK.out.next HB5.out)).mono ?_
  rintro e w6 ⟨rfl, hb6⟩
  have HB6 := Lib.hid (below_link HB5.out hb6); clear hb6
  go_wp2
  go_ret
  exact ⟨congrArg (fun r => Ending.returned (.string r)) HRR.out, HB6.out⟩

theorem hsum_512 (key text : ByteArray) (ps : Value) (w : World) (hK : Kon KQ w) (hk2 : key.size < 536870912) (ht : text.size < 536870912) (hJ : Joins ps text w) :
    Calls Try.prog 52 #[.int .i64 512, .string key, ps] w fun e w' => e = .returned (.string (hmacOf KQ 512 128 key text)) ∧ Below w.heap.size w w' := by
  by_cases hk : 128 < key.size
  · exact hsum_512_long key text ps w hK hk hk2 ht hJ
  · exact hsum_512_short key text ps w hK (by omega) hk2 ht hJ
theorem hmac_size_512 (key text : ByteArray) : (hmacOf KQ 512 128 key text).size = 64 := sumOf_size_512 _

end Dg
end Go.Proofs.Ytedoggejbhbebaa
