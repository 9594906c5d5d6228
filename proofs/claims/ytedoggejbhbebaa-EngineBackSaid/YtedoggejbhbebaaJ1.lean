/-
  Joined: Er, Ka. Conditions: as each part says.
-/
import Derived.Test.YtedoggejbhbebaaProg
import Derived.WalkKit
import Derived.ProofKit
import Derived.OpenShut
import Derived.WalkSpells
import Derived.WalkLawsBesides
import Derived.Outline
import Derived.Lib.Hide
import Derived.RegionTactic
import Derived.ChangeAlike
import Derived.BigQuiet

/-
  Contracts of dromondref09.Bits, Size, Signs and Seals. Conditions: none.
-/
namespace Go.Proofs.Ytedoggejbhbebaa
namespace Eng
open Go.ChangeShapes Go.WideShapes Go.ChangeAt Go.RowKit
set_option linter.unusedVariables false
set_option maxRecDepth 100000

/-- The bits of a signing variant, or 0. -/
def bitsOf (v : Int) : Int := if 5 ≤ v ∧ v ≤ 7 then 128 * (v - 3) else 0
/-- The size of a variant's tags, or 0. -/
def sizeOf (v : Int) : Int := if v = 1 ∨ v = 3 then 16 else if v = 5 then 32 else if v = 6 then 48 else if v = 7 then 64 else 0
/-- May it be signed so? -/
def SignsP (v : Int) (key : ByteArray) : Prop := (5 ≤ v ∧ v ≤ 7) ∧ 1 ≤ key.size ∧ key.size ≤ 64
instance (v : Int) (key : ByteArray) : Decidable (SignsP v key) := by unfold SignsP; infer_instance
/-- May it be sealed so? -/
def SealsP (v : Int) (key nonce : ByteArray) : Prop := ((v = 1 ∧ key.size = 16) ∨ (v = 3 ∧ key.size = 32)) ∧ 8 ≤ nonce.size ∧ nonce.size ≤ 16
instance (v : Int) (key nonce : ByteArray) : Decidable (SealsP v key nonce) := by unfold SealsP; infer_instance

theorem rbits (v : Int) (w : World) : Calls Try.prog 24 #[.int .i64 v] w fun e w' => e = .returned (.int .i64 (bitsOf v)) ∧ w' = w := by
  by_cases h5 : 5 ≤ v
  · by_cases h7 : v ≤ 7
    · have : v = 5 ∨ v = 6 ∨ v = 7 := by omega
      clear h5 h7
      rcases this with rfl | rfl | rfl
      · go_enter Try.func24, Try.ntmps24
        go_wp2
        go_ret
        exact ⟨rfl, rfl⟩
      · go_enter Try.func24, Try.ntmps24
        go_wp2
        go_ret
        exact ⟨rfl, rfl⟩
      · go_enter Try.func24, Try.ntmps24
        go_wp2
        go_ret
        exact ⟨rfl, rfl⟩
    · have hb : bitsOf v = 0 := if_neg (by omega)
      rw [hb]
      clear hb
      go_enter Try.func24, Try.ntmps24
      go_wp2
      go_ret
      exact ⟨rfl, rfl⟩
  · have hb : bitsOf v = 0 := if_neg (by omega)
    rw [hb]
    clear hb
    go_enter Try.func24, Try.ntmps24
    go_wp2
    go_ret
    exact ⟨rfl, rfl⟩

theorem bits_5 : bitsOf 5 = 256 := rfl
theorem bits_6 : bitsOf 6 = 384 := rfl
theorem bits_7 : bitsOf 7 = 512 := rfl
theorem bits_pos {v : Int} (h : 5 ≤ v ∧ v ≤ 7) : 0 < bitsOf v := by unfold bitsOf; rw [if_pos h]; omega
theorem bits_none {v : Int} (h : ¬ (5 ≤ v ∧ v ≤ 7)) : bitsOf v = 0 := if_neg h

theorem rsize (v : Int) (w : World) : Calls Try.prog 10 #[.int .i64 v] w fun e w' => e = .returned (.int .i64 (sizeOf v)) ∧ w' = w := by
  by_cases h1 : v = 1
  · subst h1
    go_enter Try.func10, Try.ntmps10
    go_wp2
    go_ret
    exact ⟨rfl, rfl⟩
  by_cases h3 : v = 3
  · subst h3
    go_enter Try.func10, Try.ntmps10
    go_wp2
    go_ret
    exact ⟨rfl, rfl⟩
  by_cases h5 : v = 5
  · subst h5
    have K := Lib.hid (rbits 5)
    rw [bits_5] at K
    clear h1 h3
    go_enter Try.func10, Try.ntmps10
    go_wp2_with fail
    refine (K.out _).mono ?_
    rintro e w1 ⟨rfl, hw⟩
    rw [hw]
    clear hw
    go_wp2
    go_ret
    exact ⟨rfl, rfl⟩
  by_cases h6 : v = 6
  · subst h6
    have K := Lib.hid (rbits 6)
    rw [bits_6] at K
    clear h1 h3 h5
    go_enter Try.func10, Try.ntmps10
    go_wp2_with fail
    refine (K.out _).mono ?_
    rintro e w1 ⟨rfl, hw⟩
    rw [hw]
    clear hw
    go_wp2
    go_ret
    exact ⟨rfl, rfl⟩
  by_cases h7 : v = 7
  · subst h7
    have K := Lib.hid (rbits 7)
    rw [bits_7] at K
    clear h1 h3 h5 h6
    go_enter Try.func10, Try.ntmps10
    go_wp2_with fail
    refine (K.out _).mono ?_
    rintro e w1 ⟨rfl, hw⟩
    rw [hw]
    clear hw
    go_wp2
    go_ret
    exact ⟨rfl, rfl⟩
  have K := Lib.hid (rbits v)
  rw [bits_none (by omega)] at K
  have hs : sizeOf v = 0 := by unfold sizeOf; rw [if_neg (by omega), if_neg h5, if_neg h6, if_neg h7]
  rw [hs]
  have g1 : (v == 1) = false := by simpa using h1
  have g3 : (v == 3) = false := by simpa using h3
  clear hs h1 h3 h5 h6 h7
  go_enter Try.func10, Try.ntmps10
  go_wp2_with fail
  refine (K.out _).mono ?_
  rintro e w1 ⟨rfl, hw⟩
  rw [hw]
  clear hw
  go_wp2
  go_ret
  exact ⟨rfl, rfl⟩

theorem rsigns (v : Int) (key : ByteArray) (w : World) : Calls Try.prog 17 #[.int .i64 v, .string key] w fun e w' => e = .returned (.bool (decide (SignsP v key))) ∧ w' = w := by
  obtain ⟨n, hn⟩ : ∃ n, n = bitsOf v := ⟨_, rfl⟩
  have K := Lib.hid (rbits v)
  rw [← hn] at K
  by_cases hv : 5 ≤ v ∧ v ≤ 7
  · have g0 : decide ((0 : Int) < n) = true := by have := bits_pos hv; simp; omega
    by_cases h1 : 1 ≤ key.size
    · have g1 : decide ((1 : Int) ≤ (key.size : Int)) = true := by simp; omega
      by_cases h2 : key.size ≤ 64
      · have g2 : decide ((key.size : Int) ≤ 64) = true := by simp; omega
        rw [decide_eq_true (show SignsP v key from ⟨hv, h1, h2⟩)]
        clear hn hv h1 h2
        go_enter Try.func17, Try.ntmps17
        go_wp2_with fail
        refine (K.out _).mono ?_
        rintro e w1 ⟨rfl, hw⟩
        rw [hw]
        clear hw
        go_wp2
        go_ret
        exact ⟨rfl, rfl⟩
      · have g2 : decide ((key.size : Int) ≤ 64) = false := by simp; omega
        rw [decide_eq_false (show ¬ SignsP v key from fun h => h2 h.2.2)]
        clear hn hv h1 h2
        go_enter Try.func17, Try.ntmps17
        go_wp2_with fail
        refine (K.out _).mono ?_
        rintro e w1 ⟨rfl, hw⟩
        rw [hw]
        clear hw
        go_wp2
        go_ret
        exact ⟨rfl, rfl⟩
    · have g1 : decide ((1 : Int) ≤ (key.size : Int)) = false := by simp; omega
      rw [decide_eq_false (show ¬ SignsP v key from fun h => h1 h.2.1)]
      clear hn hv h1
      go_enter Try.func17, Try.ntmps17
      go_wp2_with fail
      refine (K.out _).mono ?_
      rintro e w1 ⟨rfl, hw⟩
      rw [hw]
      clear hw
      go_wp2
      go_ret
      exact ⟨rfl, rfl⟩
  · have g0 : decide ((0 : Int) < n) = false := by have := bits_none hv; simp; omega
    rw [decide_eq_false (show ¬ SignsP v key from fun h => hv h.1)]
    clear hn hv
    go_enter Try.func17, Try.ntmps17
    go_wp2_with fail
    refine (K.out _).mono ?_
    rintro e w1 ⟨rfl, hw⟩
    rw [hw]
    clear hw
    go_wp2
    go_ret
    exact ⟨rfl, rfl⟩

theorem rseals (v : Int) (key nonce : ByteArray) (w : World) : Calls Try.prog 18 #[.int .i64 v, .string key, .string nonce] w fun e w' => e = .returned (.bool (decide (SealsP v key nonce))) ∧ w' = w := by
  by_cases h1 : v = 1
  · subst h1
    by_cases hk : key.size = 16
    · have e1 : ((key.size : Int) == 16) = true := by simp; omega
      by_cases h8 : 8 ≤ nonce.size
      · have e2 : decide ((8 : Int) ≤ (nonce.size : Int)) = true := by simp; omega
        by_cases h16 : nonce.size ≤ 16
        · have e3 : decide ((nonce.size : Int) ≤ 16) = true := by simp; omega
          rw [decide_eq_true (show SealsP 1 key nonce from ⟨by omega, h8, h16⟩)]
          clear hk h8 h16
          go_enter Try.func18, Try.ntmps18
          go_wp2
          go_ret
          exact ⟨rfl, rfl⟩
        · have e3 : decide ((nonce.size : Int) ≤ 16) = false := by simp; omega
          rw [decide_eq_false (show ¬ SealsP 1 key nonce from fun h => h16 h.2.2)]
          clear hk h8 h16
          go_enter Try.func18, Try.ntmps18
          go_wp2
          go_ret
          exact ⟨rfl, rfl⟩
      · have e2 : decide ((8 : Int) ≤ (nonce.size : Int)) = false := by simp; omega
        rw [decide_eq_false (show ¬ SealsP 1 key nonce from fun h => h8 h.2.1)]
        clear hk h8
        go_enter Try.func18, Try.ntmps18
        go_wp2
        go_ret
        exact ⟨rfl, rfl⟩
    · have e1 : ((key.size : Int) == 16) = false := by simp; omega
      rw [decide_eq_false (show ¬ SealsP 1 key nonce from fun h => by have := h.1; omega)]
      clear hk
      go_enter Try.func18, Try.ntmps18
      go_wp2
      go_ret
      exact ⟨rfl, rfl⟩
  by_cases h3 : v = 3
  · subst h3
    by_cases hk : key.size = 32
    · have e1 : ((key.size : Int) == 32) = true := by simp; omega
      by_cases h8 : 8 ≤ nonce.size
      · have e2 : decide ((8 : Int) ≤ (nonce.size : Int)) = true := by simp; omega
        by_cases h16 : nonce.size ≤ 16
        · have e3 : decide ((nonce.size : Int) ≤ 16) = true := by simp; omega
          rw [decide_eq_true (show SealsP 3 key nonce from ⟨by omega, h8, h16⟩)]
          clear hk h8 h16
          go_enter Try.func18, Try.ntmps18
          go_wp2
          go_ret
          exact ⟨rfl, rfl⟩
        · have e3 : decide ((nonce.size : Int) ≤ 16) = false := by simp; omega
          rw [decide_eq_false (show ¬ SealsP 3 key nonce from fun h => h16 h.2.2)]
          clear hk h8 h16
          go_enter Try.func18, Try.ntmps18
          go_wp2
          go_ret
          exact ⟨rfl, rfl⟩
      · have e2 : decide ((8 : Int) ≤ (nonce.size : Int)) = false := by simp; omega
        rw [decide_eq_false (show ¬ SealsP 3 key nonce from fun h => h8 h.2.1)]
        clear hk h8
        go_enter Try.func18, Try.ntmps18
        go_wp2
        go_ret
        exact ⟨rfl, rfl⟩
    · have e1 : ((key.size : Int) == 32) = false := by simp; omega
      rw [decide_eq_false (show ¬ SealsP 3 key nonce from fun h => by have := h.1; omega)]
      clear hk
      go_enter Try.func18, Try.ntmps18
      go_wp2
      go_ret
      exact ⟨rfl, rfl⟩
  have e1 : (v == 1) = false := by simpa using h1
  have e3 : (v == 3) = false := by simpa using h3
  rw [decide_eq_false (show ¬ SealsP v key nonce from fun h => by have := h.1; omega)]
  clear h1 h3
  go_enter Try.func18, Try.ntmps18
  go_wp2
  go_ret
  exact ⟨rfl, rfl⟩

end Eng
end Go.Proofs.Ytedoggejbhbebaa

/-
  Contracts of engine.codeSize, keySize, Size, within, maySign, maySeal and sha.Size. Conditions: none.
-/
namespace Go.Proofs.Ytedoggejbhbebaa
namespace Eng
open Go.ChangeShapes Go.WideShapes Go.ChangeAt Go.RowKit
set_option linter.unusedVariables false
set_option maxRecDepth 100000

/-- The bytes of a sealing variant's keys, or 0. -/
def keyOf (v : Int) : Int := if v = 1 then 16 else if v = 3 then 32 else 0

theorem bits_cases (v : Int) : (v = 5 ∧ bitsOf v = 256) ∨ (v = 6 ∧ bitsOf v = 384) ∨ (v = 7 ∧ bitsOf v = 512) ∨ ((v ≠ 5 ∧ v ≠ 6 ∧ v ≠ 7) ∧ bitsOf v = 0) := by
  unfold bitsOf
  split <;> omega

theorem pcode (v : Int) (w : World) : Calls Try.prog 23 #[.int .i64 v] w fun e w' => e = .returned (.int .i64 (bitsOf v)) ∧ w' = w := by
  rcases bits_cases v with ⟨rfl, h⟩ | ⟨rfl, h⟩ | ⟨rfl, h⟩ | ⟨⟨h5, h6, h7⟩, h⟩ <;> rw [h] <;> clear h
  · go_enter Try.func23, Try.ntmps23
    go_wp2
    go_ret
    exact ⟨rfl, rfl⟩
  · go_enter Try.func23, Try.ntmps23
    go_wp2
    go_ret
    exact ⟨rfl, rfl⟩
  · go_enter Try.func23, Try.ntmps23
    go_wp2
    go_ret
    exact ⟨rfl, rfl⟩
  · have g5 : (v == 5) = false := by simpa using h5
    have g6 : (v == 6) = false := by simpa using h6
    have g7 : (v == 7) = false := by simpa using h7
    clear h5 h6 h7
    go_enter Try.func23, Try.ntmps23
    go_wp2
    go_ret
    exact ⟨rfl, rfl⟩

theorem pkey (v : Int) (w : World) : Calls Try.prog 21 #[.int .i64 v] w fun e w' => e = .returned (.int .i64 (keyOf v)) ∧ w' = w := by
  by_cases h1 : v = 1
  · subst h1
    go_enter Try.func21, Try.ntmps21
    go_wp2
    go_ret
    exact ⟨rfl, rfl⟩
  by_cases h3 : v = 3
  · subst h3
    clear h1
    go_enter Try.func21, Try.ntmps21
    go_wp2
    go_ret
    exact ⟨rfl, rfl⟩
  have g1 : (v == 1) = false := by simpa using h1
  have g3 : (v == 3) = false := by simpa using h3
  have hk : keyOf v = 0 := by unfold keyOf; rw [if_neg h1, if_neg h3]
  rw [hk]
  clear hk h1 h3
  go_enter Try.func21, Try.ntmps21
  go_wp2
  go_ret
  exact ⟨rfl, rfl⟩

theorem sha_size_256 (w : World) : Calls Try.prog 22 #[.int .i64 256] w fun e w' => e = .returned (.int .i64 32) ∧ w' = w := by
  go_enter Try.func22, Try.ntmps22
  go_wp2
  go_ret
  exact ⟨rfl, rfl⟩
theorem sha_size_384 (w : World) : Calls Try.prog 22 #[.int .i64 384] w fun e w' => e = .returned (.int .i64 48) ∧ w' = w := by
  go_enter Try.func22, Try.ntmps22
  go_wp2
  go_ret
  exact ⟨rfl, rfl⟩
theorem sha_size_512 (w : World) : Calls Try.prog 22 #[.int .i64 512] w fun e w' => e = .returned (.int .i64 64) ∧ w' = w := by
  go_enter Try.func22, Try.ntmps22
  go_wp2
  go_ret
  exact ⟨rfl, rfl⟩
theorem sha_size_0 (w : World) : Calls Try.prog 22 #[.int .i64 0] w fun e w' => e = .returned (.int .i64 0) ∧ w' = w := by
  go_enter Try.func22, Try.ntmps22
  go_wp2
  go_ret
  exact ⟨rfl, rfl⟩

theorem size_bits {v : Int} (h1 : v ≠ 1) (h3 : v ≠ 3) : sizeOf v = bitsOf v / 8 := by
  rcases bits_cases v with ⟨rfl, h⟩ | ⟨rfl, h⟩ | ⟨rfl, h⟩ | ⟨⟨h5, h6, h7⟩, h⟩ <;> rw [h] <;> unfold sizeOf <;> simp_all

theorem sha_size (v : Int) (w : World) : Calls Try.prog 22 #[.int .i64 (bitsOf v)] w fun e w' => e = .returned (.int .i64 (bitsOf v / 8)) ∧ w' = w := by
  rcases bits_cases v with ⟨rfl, h⟩ | ⟨rfl, h⟩ | ⟨rfl, h⟩ | ⟨_, h⟩ <;> rw [h]
  · exact sha_size_256 w
  · exact sha_size_384 w
  · exact sha_size_512 w
  · exact sha_size_0 w

theorem psize (v : Int) (w : World) : Calls Try.prog 9 #[.int .i64 v] w fun e w' => e = .returned (.int .i64 (sizeOf v)) ∧ w' = w := by
  have K := Lib.hid (pkey v)
  by_cases h1 : v = 1
  · subst h1
    go_enter Try.func9, Try.ntmps9
    go_wp2_with fail
    refine (K.out _).mono ?_
    rintro e w1 ⟨rfl, hw⟩
    rw [hw]
    clear hw
    go_wp2
    go_ret
    exact ⟨rfl, rfl⟩
  by_cases h3 : v = 3
  · subst h3
    clear h1
    go_enter Try.func9, Try.ntmps9
    go_wp2_with fail
    refine (K.out _).mono ?_
    rintro e w1 ⟨rfl, hw⟩
    rw [hw]
    clear hw
    go_wp2
    go_ret
    exact ⟨rfl, rfl⟩
  have hk : keyOf v = 0 := by unfold keyOf; rw [if_neg h1, if_neg h3]
  rw [hk] at K
  rw [size_bits h1 h3]
  have C := Lib.hid (pcode v)
  have S := Lib.hid (sha_size v)
  clear hk h1 h3
  obtain ⟨b, hb⟩ : ∃ b, b = bitsOf v := ⟨_, rfl⟩
  rw [← hb] at C S ⊢
  obtain ⟨s, hs⟩ : ∃ s, s = b / 8 := ⟨_, rfl⟩
  rw [← hs] at S ⊢
  clear hb hs
  go_enter Try.func9, Try.ntmps9
  go_wp2_with fail
  refine (K.out _).mono ?_
  rintro e w1 ⟨rfl, hw⟩
  rw [hw]
  clear hw
  go_wp2_with fail
  refine (C.out _).mono ?_
  rintro e w1 ⟨rfl, hw⟩
  rw [hw]
  clear hw
  go_wp2_with fail
  refine (S.out _).mono ?_
  rintro e w1 ⟨rfl, hw⟩
  rw [hw]
  clear hw
  go_wp2
  go_ret
  exact ⟨rfl, rfl⟩

theorem pwithin (n l m : Int) (w : World) (r : Bool) (hr : r = decide (l ≤ n ∧ n ≤ m)) : Calls Try.prog 28 #[.int .i64 n, .int .i64 l, .int .i64 m] w fun e w' => e = .returned (.bool r) ∧ w' = w := by
  by_cases h1 : l ≤ n
  · have g1 : decide (l ≤ n) = true := decide_eq_true h1
    have hr2 : r = decide (n ≤ m) := by rw [hr]; simp [h1]
    rw [hr2]
    clear h1 hr hr2
    go_enter Try.func28, Try.ntmps28
    go_wp2
    go_ret
    exact ⟨rfl, rfl⟩
  · have g1 : decide (l ≤ n) = false := decide_eq_false h1
    have hr2 : r = false := by rw [hr]; simp [h1]
    rw [hr2]
    clear h1 hr hr2
    go_enter Try.func28, Try.ntmps28
    go_wp2
    go_ret
    exact ⟨rfl, rfl⟩

theorem pmay_sign (v : Int) (key : ByteArray) (w : World) : Calls Try.prog 26 #[.int .i64 v, .string key] w fun e w' => e = .returned (.bool (decide (SignsP v key))) ∧ w' = w := by
  have K := Lib.hid (pcode v)
  obtain ⟨n, hn⟩ : ∃ n, n = bitsOf v := ⟨_, rfl⟩
  rw [← hn] at K
  by_cases hv : 5 ≤ v ∧ v ≤ 7
  · have g0 : (n != 0) = true := by have := bits_pos hv; simp; omega
    have hs : decide (SignsP v key) = decide ((1 : Int) ≤ (key.size : Int) ∧ (key.size : Int) ≤ 64) := by
      apply decide_eq_decide.2
      unfold SignsP
      omega
    rw [hs]
    obtain ⟨r, hr⟩ : ∃ r, r = decide ((1 : Int) ≤ (key.size : Int) ∧ (key.size : Int) ≤ 64) := ⟨_, rfl⟩
    rw [← hr]
    have W := Lib.hid (fun w => pwithin (key.size : Int) 1 64 w r hr)
    clear hn hv hs hr
    go_enter Try.func26, Try.ntmps26
    go_wp2_with fail
    refine (K.out _).mono ?_
    rintro e w1 ⟨rfl, hw⟩
    rw [hw]
    clear hw
    go_wp2_with fail
    refine (W.out _).mono ?_
    rintro e w1 ⟨rfl, hw⟩
    rw [hw]
    clear hw
    go_wp2
    go_ret
    exact ⟨rfl, rfl⟩
  · have hn0 : n = 0 := by have := bits_none hv; omega
    subst hn0
    rw [decide_eq_false (show ¬ SignsP v key from fun h => hv h.1)]
    clear hn hv
    go_enter Try.func26, Try.ntmps26
    go_wp2_with fail
    refine (K.out _).mono ?_
    rintro e w1 ⟨rfl, hw⟩
    rw [hw]
    clear hw
    go_wp2
    go_ret
    exact ⟨rfl, rfl⟩

theorem key_seals (v : Int) (key nonce : ByteArray) : SealsP v key nonce ↔ keyOf v ≠ 0 ∧ (key.size : Int) = keyOf v ∧ (8 : Int) ≤ (nonce.size : Int) ∧ (nonce.size : Int) ≤ 16 := by
  unfold SealsP keyOf
  split
  · omega
  · split <;> omega

theorem pmay_seal (v : Int) (key nonce : ByteArray) (w : World) : Calls Try.prog 27 #[.int .i64 v, .string key, .string nonce] w fun e w' => e = .returned (.bool (decide (SealsP v key nonce))) ∧ w' = w := by
  have K := Lib.hid (pkey v)
  have hks := key_seals v key nonce
  obtain ⟨n, hn⟩ : ∃ n, n = keyOf v := ⟨_, rfl⟩
  rw [← hn] at K hks
  by_cases h0 : n = 0
  · subst h0
    rw [decide_eq_false (show ¬ SealsP v key nonce from fun h => (hks.1 h).1 rfl)]
    clear hn hks
    go_enter Try.func27, Try.ntmps27
    go_wp2_with fail
    refine (K.out _).mono ?_
    rintro e w1 ⟨rfl, hw⟩
    rw [hw]
    clear hw
    go_wp2
    go_ret
    exact ⟨rfl, rfl⟩
  have g0 : (n != 0) = true := by simpa using h0
  by_cases h1 : (key.size : Int) = n
  · have g1 : ((key.size : Int) == n) = true := by simpa using h1
    have hs : decide (SealsP v key nonce) = decide ((8 : Int) ≤ (nonce.size : Int) ∧ (nonce.size : Int) ≤ 16) := by
      apply decide_eq_decide.2
      rw [hks]
      exact ⟨fun h => h.2.2, fun h => ⟨h0, h1, h⟩⟩
    rw [hs]
    obtain ⟨r, hr⟩ : ∃ r, r = decide ((8 : Int) ≤ (nonce.size : Int) ∧ (nonce.size : Int) ≤ 16) := ⟨_, rfl⟩
    rw [← hr]
    have W := Lib.hid (fun w => pwithin (nonce.size : Int) 8 16 w r hr)
    clear hn hks hs hr h0 h1
    go_enter Try.func27, Try.ntmps27
    go_wp2_with fail
    refine (K.out _).mono ?_
    rintro e w1 ⟨rfl, hw⟩
    rw [hw]
    clear hw
    go_wp2_with fail
    refine (W.out _).mono ?_
    rintro e w1 ⟨rfl, hw⟩
    rw [hw]
    clear hw
    go_wp2
    go_ret
    exact ⟨rfl, rfl⟩
  · have g1 : ((key.size : Int) == n) = false := by simpa using h1
    rw [decide_eq_false (show ¬ SealsP v key nonce from fun h => h1 (hks.1 h).2.1)]
    clear hn hks h0 h1
    go_enter Try.func27, Try.ntmps27
    go_wp2_with fail
    refine (K.out _).mono ?_
    rintro e w1 ⟨rfl, hw⟩
    rw [hw]
    clear hw
    go_wp2
    go_ret
    exact ⟨rfl, rfl⟩
end Eng
end Go.Proofs.Ytedoggejbhbebaa
