/-
  The walk of AesKeys. Conditions: none.
-/
import Derived.Test.YtbocfmedkkgheaaCc
import Derived.Test.YtbocfmedkkgheaaBi
namespace Go.Proofs.Ytbocfmedkkgheaa
namespace Aes
open Go.ChangeShapes Go.WideShapes Go.ChangeAt Go.RowKit Go.Great Go.ChangeMaps
open Gf
set_option linter.unusedVariables false

theorem new_ok (key : ByteArray) (n : Nat) (w : World) (hn : n = 4 ∨ n = 8) (hk : key.size = 4 * n) :
    Calls Try.prog 14 #[.string key] w fun e w' => e = .returned (.tuple #[.pointer (some ⟨w.heap.size, 0, none⟩), .int .i64 0]) ∧ Cip w.heap.size (n + 6) (wordAt n (nums key)) sub unsub w' ∧ Below w.heap.size w w' := by
  rcases hn with rfl | rfl
  · exact new_4 key w hk
  · exact new_8 key w hk

/-- What Do and Undo make, as texts. -/
def doneB (n : Nat) (key b : ByteArray) : ByteArray := toB (allF (done (wordAt n (nums key)) (n + 6) (byteAt b)) 16)
def undoneB (n : Nat) (key b : ByteArray) : ByteArray := toB (allF (undone (wordAt n (nums key)) (n + 6) (byteAt b)) 16)
theorem doneB_size (n : Nat) (key b : ByteArray) : (doneB n key b).size = 16 := by unfold doneB; rw [toB_size, allF_length]
theorem undoneB_size (n : Nat) (key b : ByteArray) : (undoneB n key b).size = 16 := by unfold undoneB; rw [toB_size, allF_length]

/-- A cipher of a key. -/
def Key (g n : Nat) (key : ByteArray) (X : World) : Prop := Cip g (n + 6) (wordAt n (nums key)) sub unsub X
theorem Key.next {g n : Nat} {key : ByteArray} {X Y : World} (h : Key g n key X) (hb : Below X.heap.size X Y) : Key g n key Y := Cip.next h hb
theorem do_key (g n : Nat) (key b : ByteArray) (X : World) (hn : n = 4 ∨ n = 8) (hb : b.size = 16) (h : Key g n key X) :
    Calls Try.prog 16 #[.pointer (some ⟨g, 0, none⟩), .string b] X fun e w' => e = .returned (.string (doneB n key b)) ∧ Below X.heap.size X w' :=
  do_any g (n + 6) _ b X hb (fun j => wordAt_lt (nums_lt key) j) (by omega) (by omega) h
theorem undo_key (g n : Nat) (key b : ByteArray) (X : World) (hn : n = 4 ∨ n = 8) (hb : b.size = 16) (h : Key g n key X) :
    Calls Try.prog 17 #[.pointer (some ⟨g, 0, none⟩), .string b] X fun e w' => e = .returned (.string (undoneB n key b)) ∧ Below X.heap.size X w' :=
  undo_any g (n + 6) _ b X hb (fun j => wordAt_lt (nums_lt key) j) (by omega) (by omega) h

set_option maxHeartbeats 2000000 in
theorem keys_long (key b : ByteArray) (w : World) (h : 100 < key.size ∨ (key.size ≤ 100 ∧ 100 < b.size)) :
    Calls Try.prog 6 #[.string key, .string b] w fun e w' => e = .returned (.bool true) ∧ Below w.heap.size w w' := by
  rcases h with h | ⟨h0, h⟩
  · have g1 : (100 : Int) < (key.size : Int) := by omega
    clear h
    go_enter Try.func6, Try.ntmps6
    go_wp2_with fail
    refine (awake_any _).mono ?_
    rintro e w1 ⟨rfl, hb⟩
    have HB := Lib.hid hb; clear hb
    go_wp2_with fail
    refine (awake_any _).mono ?_
    rintro e w2 ⟨rfl, hb⟩
    have HB2 := Lib.hid (below_link HB.out hb); clear hb
    go_wp2
    go_ret
    exact ⟨rfl, HB2.out⟩
  · have g0 : ¬ (100 : Int) < (key.size : Int) := by omega
    have g1 : (100 : Int) < (b.size : Int) := by omega
    clear h h0
    go_enter Try.func6, Try.ntmps6
    go_wp2_with fail
    refine (awake_any _).mono ?_
    rintro e w1 ⟨rfl, hb⟩
    have HB := Lib.hid hb; clear hb
    go_wp2_with fail
    refine (awake_any _).mono ?_
    rintro e w2 ⟨rfl, hb⟩
    have HB2 := Lib.hid (below_link HB.out hb); clear hb
    go_wp2
    go_ret
    exact ⟨rfl, HB2.out⟩

set_option maxHeartbeats 2000000 in
theorem keys_none (key b : ByteArray) (w : World) (h0 : key.size ≤ 100) (hb0 : b.size ≤ 100) (h1 : key.size ≠ 16) (h2 : key.size ≠ 32) :
    Calls Try.prog 6 #[.string key, .string b] w fun e w' => e = .returned (.bool true) ∧ Below w.heap.size w w' := by
  have g0 : ¬ (100 : Int) < (key.size : Int) := by omega
  have g1 : ¬ (100 : Int) < (b.size : Int) := by omega
  have d1 : ((key.size : Int) != 16) = true := by simp; omega
  have d2 : ((key.size : Int) != 32) = true := by simp; omega
  have HN := Lib.hid (fun X => new_none key X h1 h2)
  clear h0 hb0 h1 h2
  go_enter Try.func6, Try.ntmps6
  go_wp2_with fail
  refine (awake_any _).mono ?_
  rintro e w1 ⟨rfl, hb⟩
  have HB := Lib.hid hb; clear hb
  go_wp2_with fail
  refine (HN.out _).mono ?_
  rintro e w2 ⟨rfl, hb⟩
  have HB2 := Lib.hid (below_link HB.out hb); clear hb
  go_wp2
  go_ret
  exact ⟨rfl, HB2.out⟩

set_option maxHeartbeats 4000000 in
theorem keys_some (key b : ByteArray) (n : Nat) (w : World) (hn : n = 4 ∨ n = 8) (hk : key.size = 4 * n) (hb0 : b.size ≤ 100) :
    Calls Try.prog 6 #[.string key, .string b] w fun e w' => e = .returned (.bool true) ∧ Below w.heap.size w w' := by
  have g0 : ¬ (100 : Int) < (key.size : Int) := by omega
  have g1 : ¬ (100 : Int) < (b.size : Int) := by omega
  have HNW := Lib.hid (fun X => new_ok key n X hn hk)
  have g4 : (key.size : Int) / 4 = (n : Int) := by omega
  obtain ⟨R, hR⟩ : ∃ R, R = n + 6 := ⟨_, rfl⟩
  have g5 : (n : Int) + 6 = (R : Int) := by omega
  have g6 : n ≤ 8 := by omega
  have dd : (((key.size : Int) != 16) = true ∧ ((key.size : Int) != 32) = false) ∨ ((key.size : Int) != 16) = false := by
    rcases hn with rfl | rfl
    · right; simp; omega
    · left; constructor <;> simp <;> omega
  have HNN := Lib.hid hn
  have HR := Lib.hid hR
  by_cases h16 : b.size = 16
  · have d3 : ((b.size : Int) == 16) = true := by simp; omega
    have HD := Lib.hid (fun g X (h : Key g n key X) => do_key g n key b X hn h16 h)
    have HU := Lib.hid (fun g X (h : Key g n key X) => undo_key g n key b X hn h16 h)
    obtain ⟨D, hD⟩ : ∃ D, D = doneB n key b := ⟨_, rfl⟩
    obtain ⟨U, hU⟩ : ∃ U, U = undoneB n key b := ⟨_, rfl⟩
    have s1 : (D.size : Int) = 16 := by rw [hD, doneB_size]; rfl
    have s2 : (U.size : Int) = 16 := by rw [hU, undoneB_size]; rfl
    rw [← hD] at HD
    rw [← hU] at HU
    clear hD hU hn hk hb0 h16 hR
    rcases dd with ⟨d1, d2⟩ | d1
    all_goals
      go_enter Try.func6, Try.ntmps6
      go_wp2_with fail
      refine (awake_any _).mono ?_
      rintro e w1 ⟨rfl, hb⟩
      have HB := Lib.hid hb; clear hb
      go_wp2_with fail
      refine (HNW.out _).mono ?_
      rintro e w2 ⟨rfl, hc, hb⟩
      rw [← HR.out] at hc
      have HB2 := Lib.hid (below_link HB.out hb)
      have HC := Lib.hid hc
      clear hb hc
      go_wp2_with fail
      refine (rounds_any _ _ _ _ _ _ HC.out).mono ?_
      rintro e w3 ⟨rfl, rfl⟩
      have hkey : Key w1.heap.size n key w3 := by unfold Key; rw [← HR.out]; exact HC.out
      have HKEY := Lib.hid hkey; clear hkey
      go_wp2_with fail
      refine (HD.out _ _ HKEY.out).mono ?_
      rintro e w4 ⟨rfl, hb⟩
      have HB4 := Lib.hid (below_link HB2.out hb)
      have HK4 := Lib.hid (HKEY.out.next hb)
      clear hb
      go_wp2_with fail
      refine (HU.out _ _ HK4.out).mono ?_
      rintro e w5 ⟨rfl, hb⟩
      have HB5 := Lib.hid (below_link HB4.out hb)
      clear hb
      go_wp2
      go_ret
      exact ⟨rfl, HB5.out⟩
  · have d3 : ((b.size : Int) == 16) = false := by simp; omega
    have HD := Lib.hid (fun g X => do_short g b X h16)
    have HU := Lib.hid (fun g X => undo_short g b X h16)
    clear hn hk hb0 h16 hR
    rcases dd with ⟨d1, d2⟩ | d1
    all_goals
      go_enter Try.func6, Try.ntmps6
      go_wp2_with fail
      refine (awake_any _).mono ?_
      rintro e w1 ⟨rfl, hb⟩
      have HB := Lib.hid hb; clear hb
      go_wp2_with fail
      refine (HNW.out _).mono ?_
      rintro e w2 ⟨rfl, hc, hb⟩
      rw [← HR.out] at hc
      have HB2 := Lib.hid (below_link HB.out hb)
      have HC := Lib.hid hc
      clear hb hc
      go_wp2_with fail
      refine (rounds_any _ _ _ _ _ _ HC.out).mono ?_
      rintro e w3 ⟨rfl, rfl⟩
      go_wp2_with fail
      refine (HD.out _ _).mono ?_
      rintro e w4 ⟨rfl, rfl⟩
      go_wp2_with fail
      refine (HU.out _ _).mono ?_
      rintro e w5 ⟨rfl, rfl⟩
      go_wp2
      go_ret
      exact ⟨rfl, HB2.out⟩

theorem walk_keys (key b : ByteArray) (w : World) :
    Calls Try.prog 6 #[.string key, .string b] w fun e w' => e = .returned (.bool true) ∧ Below w.heap.size w w' := by
  by_cases h : 100 < key.size ∨ (key.size ≤ 100 ∧ 100 < b.size)
  · exact keys_long key b w h
  by_cases h1 : key.size = 16
  · exact keys_some key b 4 w (Or.inl rfl) h1 (by omega)
  by_cases h2 : key.size = 32
  · exact keys_some key b 8 w (Or.inr rfl) h2 (by omega)
  exact keys_none key b w (by omega) (by omega) h1 h2

end Aes
end Go.Proofs.Ytbocfmedkkgheaa
