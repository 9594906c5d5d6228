/-
  Contracts of dromondref09.Bits, Size, Signs and Seals. Conditions: none.
-/
import Derived.Test.YtedoggejbhbebaaProg
import Derived.WalkKit
import Derived.ProofKit
import Derived.OpenShut
import Derived.WalkSpells
import Derived.WalkLawsBesides
import Derived.Outline
import Derived.Lib.Hide
import Derived.RegionTactic
import Derived.ChangeAlike
import Derived.BigQuiet
namespace Go.Proofs.Ytedoggejbhbebaa
namespace Eng
open Go.ChangeShapes Go.WideShapes Go.ChangeAt Go.RowKit
set_option linter.unusedVariables false
set_option maxRecDepth 100000

/-- The bits of a signing variant, or 0. -/
def bitsOf (v : Int) : Int := if 5 ≤ v ∧ v ≤ 7 then 128 * (v - 3) else 0
/-- The size of a variant's tags, or 0. -/
def sizeOf (v : Int) : Int := if v = 1 ∨ v = 3 then 16 else if v = 5 then 32 else if v = 6 then 48 else if v = 7 then 64 else 0
/-- May it be signed so? -/
def SignsP (v : Int) (key : ByteArray) : Prop := (5 ≤ v ∧ v ≤ 7) ∧ 1 ≤ key.size ∧ key.size ≤ 64
instance (v : Int) (key : ByteArray) : Decidable (SignsP v key) := by unfold SignsP; infer_instance
/-- May it be sealed so? -/
def SealsP (v : Int) (key nonce : ByteArray) : Prop := ((v = 1 ∧ key.size = 16) ∨ (v = 3 ∧ key.size = 32)) ∧ 8 ≤ nonce.size ∧ nonce.size ≤ 16
instance (v : Int) (key nonce : ByteArray) : Decidable (SealsP v key nonce) := by unfold SealsP; infer_instance

theorem rbits (v : Int) (w : World) : Calls Try.prog 24 #[.int .i64 v] w fun e w' => e = .returned (.int .i64 (bitsOf v)) ∧ w' = w := by
  by_cases h5 : 5 ≤ v
  · by_cases h7 : v ≤ 7
    · have : v = 5 ∨ v = 6 ∨ v = 7 := by omega
      clear h5 h7
      rcases this with rfl | rfl | rfl
      · go_enter Try.func24, Try.ntmps24
        go_wp2
        go_ret
        exact ⟨rfl, rfl⟩
      · go_enter Try.func24, Try.ntmps24
        go_wp2
        go_ret
        exact ⟨rfl, rfl⟩
      · go_enter Try.func24, Try.ntmps24
        go_wp2
        go_ret
        exact ⟨rfl, rfl⟩
    · have hb : bitsOf v = 0 := if_neg (by omega)
      rw [hb]
      clear hb
      go_enter Try.func24, Try.ntmps24
      go_wp2
      go_ret
      exact ⟨rfl, rfl⟩
  · have hb : bitsOf v = 0 := if_neg (by omega)
    rw [hb]
    clear hb
    go_enter Try.func24, Try.ntmps24
    go_wp2
    go_ret
    exact ⟨rfl, rfl⟩

theorem bits_5 : bitsOf 5 = 256 := rfl
theorem bits_6 : bitsOf 6 = 384 := rfl
theorem bits_7 : bitsOf 7 = 512 := rfl
theorem bits_pos {v : Int} (h : 5 ≤ v ∧ v ≤ 7) : 0 < bitsOf v := by unfold bitsOf; rw [if_pos h]; omega
theorem bits_none {v : Int} (h : ¬ (5 ≤ v ∧ v ≤ 7)) : bitsOf v = 0 := if_neg h

theorem rsize (v : Int) (w : World) : Calls Try.prog 10 #[.int .i64 v] w fun e w' => e = .returned (.int .i64 (sizeOf v)) ∧ w' = w := by
  by_cases h1 : v = 1
  · subst h1
    go_enter Try.func10, Try.ntmps10
    go_wp2
    go_ret
    exact ⟨rfl, rfl⟩
  by_cases h3 : v = 3
  · subst h3
    go_enter Try.func10, Try.ntmps10
    go_wp2
    go_ret
    exact ⟨rfl, rfl⟩
  by_cases h5 : v = 5
  · subst h5
    have K := Lib.hid (rbits 5)
    rw [bits_5] at K
    clear h1 h3
    go_enter Try.func10, Try.ntmps10
    go_wp2_with fail
    refine (K.out _).mono ?_
    rintro e w1 ⟨rfl, hw⟩
    rw [hw]
    clear hw
    go_wp2
    go_ret
    exact ⟨rfl, rfl⟩
  by_cases h6 : v = 6
  · subst h6
    have K := Lib.hid (rbits 6)
    rw [bits_6] at K
    clear h1 h3 h5
    go_enter Try.func10, Try.ntmps10
    go_wp2_with fail
    refine (K.out _).mono ?_
    rintro e w1 ⟨rfl, hw⟩
    rw [hw]
    clear hw
    go_wp2
    go_ret
    exact ⟨rfl, rfl⟩
  by_cases h7 : v = 7
  · subst h7
    have K := Lib.hid (rbits 7)
    rw [bits_7] at K
    clear h1 h3 h5 h6
    go_enter Try.func10, Try.ntmps10
    go_wp2_with fail
    refine (K.out _).mono ?_
    rintro e w1 ⟨rfl, hw⟩
    rw [hw]
    clear hw
    go_wp2
    go_ret
    exact ⟨rfl, rfl⟩
  have K := Lib.hid (rbits v)
  rw [bits_none (by omega)] at K
  have hs : sizeOf v = 0 := by unfold sizeOf; rw [if_neg (by omega), if_neg h5, if_neg h6, if_neg h7]
  rw [hs]
  have g1 : (v == 1) = false := by simpa using h1
  have g3 : (v == 3) = false := by simpa using h3
  clear hs h1 h3 h5 h6 h7
  go_enter Try.func10, Try.ntmps10
  go_wp2_with fail
  refine (K.out _).mono ?_
  rintro e w1 ⟨rfl, hw⟩
  rw [hw]
  clear hw
  go_wp2
  go_ret
  exact ⟨rfl, rfl⟩

theorem rsigns (v : Int) (key : ByteArray) (w : World) : Calls Try.prog 17 #[.int .i64 v, .string key] w fun e w' => e = .returned (.bool (decide (SignsP v key))) ∧ w' = w := by
  obtain ⟨n, hn⟩ : ∃ n, n = bitsOf v := ⟨_, rfl⟩
  have K := Lib.hid (rbits v)
  rw [← hn] at K
  by_cases hv : 5 ≤ v ∧ v ≤ 7
  · have g0 : decide ((0 : Int) < n) = true := by have := bits_pos hv; simp; omega
    by_cases h1 : 1 ≤ key.size
    · have g1 : decide ((1 : Int) ≤ (key.size : Int)) = true := by simp; omega
      by_cases h2 : key.size ≤ 64
      · have g2 : decide ((key.size : Int) ≤ 64) = true := by simp; omega
        rw [decide_eq_true (show SignsP v key from ⟨hv, h1, h2⟩)]
        clear hn hv h1 h2
        go_enter Try.func17, Try.ntmps17
        go_wp2_with fail
        refine (K.out _).mono ?_
        rintro e w1 ⟨rfl, hw⟩
        rw [hw]
        clear hw
        go_wp2
        go_ret
        exact ⟨rfl, rfl⟩
      · have g2 : decide ((key.size : Int) ≤ 64) = false := by simp; omega
        rw [decide_eq_false (show ¬ SignsP v key from fun h => h2 h.2.2)]
        clear hn hv h1 h2
        go_enter Try.func17, Try.ntmps17
        go_wp2_with fail
        refine (K.out _).mono ?_
        rintro e w1 ⟨rfl, hw⟩
        rw [hw]
        clear hw
        go_wp2
        go_ret
        exact ⟨rfl, rfl⟩
    · have g1 : decide ((1 : Int) ≤ (key.size : Int)) = false := by simp; omega
      rw [decide_eq_false (show ¬ SignsP v key from fun h => h1 h.2.1)]
      clear hn hv h1
      go_enter Try.func17, Try.ntmps17
      go_wp2_with fail
      refine (K.out _).mono ?_
      rintro e w1 ⟨rfl, hw⟩
      rw [hw]
      clear hw
      go_wp2
      go_ret
      exact ⟨rfl, rfl⟩
  · have g0 : decide ((0 : Int) < n) = false := by have := bits_none hv; simp; omega
    rw [decide_eq_false (show ¬ SignsP v key from fun h => hv h.1)]
    clear hn hv
    go_enter Try.func17, Try.ntmps17
    go_wp2_with fail
    refine (K.out _).mono ?_
    rintro e w1 ⟨rfl, hw⟩
    rw [hw]
    clear hw
    go_wp2
    go_ret
    exact ⟨rfl, rfl⟩

theorem rseals (v : Int) (key nonce : ByteArray) (w : World) : Calls Try.prog 18 #[.int .i64 v, .string key, .string nonce] w fun e w' => e = .returned (.bool (decide (SealsP v key nonce))) ∧ w' = w := by
  by_cases h1 : v = 1
  · subst h1
    by_cases hk : key.size = 16
    · have e1 : ((key.size : Int) == 16) = true := by simp; omega
      by_cases h8 : 8 ≤ nonce.size
      · have e2 : decide ((8 : Int) ≤ (nonce.size : Int)) = true := by simp; omega
        by_cases h16 : nonce.size ≤ 16
        · have e3 : decide ((nonce.size : Int) ≤ 16) = true := by simp; omega
          rw [decide_eq_true (show SealsP 1 key nonce from ⟨by omega, h8, h16⟩)]
          clear hk h8 h16
          go_enter Try.func18, Try.ntmps18
          go_wp2
          go_ret
          exact ⟨rfl, rfl⟩
        · have e3 : decide ((nonce.size : Int) ≤ 16) = false := by simp; omega
          rw [decide_eq_false (show ¬ SealsP 1 key nonce from fun h => h16 h.2.2)]
          clear hk h8 h16
          go_enter Try.func18, Try.ntmps18
          go_wp2
          go_ret
          exact ⟨rfl, rfl⟩
      · have e2 : decide ((8 : Int) ≤ (nonce.size : Int)) = false := by simp; omega
        rw [decide_eq_false (show ¬ SealsP 1 key nonce from fun h => h8 h.2.1)]
        clear hk h8
        go_enter Try.func18, Try.ntmps18
        go_wp2
        go_ret
        exact ⟨rfl, rfl⟩
    · have e1 : ((key.size : Int) == 16) = false := by simp; omega
      rw [decide_eq_false (show ¬ SealsP 1 key nonce from fun h => by have := h.1; omega)]
      clear hk
      go_enter Try.func18, Try.ntmps18
      go_wp2
      go_ret
      exact ⟨rfl, rfl⟩
  by_cases h3 : v = 3
  · subst h3
    by_cases hk : key.size = 32
    · have e1 : ((key.size : Int) == 32) = true := by simp; omega
      by_cases h8 : 8 ≤ nonce.size
      · have e2 : decide ((8 : Int) ≤ (nonce.size : Int)) = true := by simp; omega
        by_cases h16 : nonce.size ≤ 16
        · have e3 : decide ((nonce.size : Int) ≤ 16) = true := by simp; omega
          rw [decide_eq_true (show SealsP 3 key nonce from ⟨by omega, h8, h16⟩)]
          clear hk h8 h16
          go_enter Try.func18, Try.ntmps18
          go_wp2
          go_ret
          exact ⟨rfl, rfl⟩
        · have e3 : decide ((nonce.size : Int) ≤ 16) = false := by simp; omega
          rw [decide_eq_false (show ¬ SealsP 3 key nonce from fun h => h16 h.2.2)]
          clear hk h8 h16
          go_enter Try.func18, Try.ntmps18
          go_wp2
          go_ret
          exact ⟨rfl, rfl⟩
      · have e2 : decide ((8 : Int) ≤ (nonce.size : Int)) = false := by simp; omega
        rw [decide_eq_false (show ¬ SealsP 3 key nonce from fun h => h8 h.2.1)]
        clear hk h8
        go_enter Try.func18, Try.ntmps18
        go_wp2
        go_ret
        exact ⟨rfl, rfl⟩
    · have e1 : ((key.size : Int) == 32) = false := by simp; omega
      rw [decide_eq_false (show ¬ SealsP 3 key nonce from fun h => by have := h.1; omega)]
      clear hk
      go_enter Try.func18, Try.ntmps18
      go_wp2
      go_ret
      exact ⟨rfl, rfl⟩
  have e1 : (v == 1) = false := by simpa using h1
  have e3 : (v == 3) = false := by simpa using h3
  rw [decide_eq_false (show ¬ SealsP v key nonce from fun h => by have := h.1; omega)]
  clear h1 h3
  go_enter Try.func18, Try.ntmps18
  go_wp2
  go_ret
  exact ⟨rfl, rfl⟩

end Eng
end Go.Proofs.Ytedoggejbhbebaa
