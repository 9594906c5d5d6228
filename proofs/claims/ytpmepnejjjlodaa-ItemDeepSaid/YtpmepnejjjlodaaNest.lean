/-
  Plain: arrays in arrays. Conditions: none.
-/
import Derived.Test.YtpmepnejjjlodaaParse
namespace Go.Proofs.Ytpmepnejjjlodaa
open Go.ChangeShapes Go.WideShapes Go.ChangeAt Go.RowKit
open Plain
set_option linter.unusedVariables false

/-- A number in so many arrays. -/
def nest (o : Bool) : Nat → It
  | 0 => .mk 0 7 ⟨#[]⟩ [] false
  | j + 1 => .mk 4 0 ⟨#[]⟩ [nest o j] o

theorem nest_valid (o : Bool) : ∀ (j m : Nat), validB (nest o j) m = decide (j < m)
  | 0, 0 => rfl
  | 0, m + 1 => by simp [nest, validB, validL, topB]
  | j + 1, 0 => by simp [nest, validB]
  | j + 1, m + 1 => by
    have ih := nest_valid o j m
    simp only [nest, validB, validL, ih]
    simp [topB]

theorem nest_plain (o : Bool) (j : Nat) : plainB (nest o j) = true := by
  have h := nest_valid o j (j + 1)
  rw [valid_deep] at h
  simp at h
  exact h.2

theorem nest_fit (o : Bool) : ∀ j : Nat, AllFit (nest o j)
  | 0 => .mk _ ⟨by simp only [nest, It.kind]; decide, by simp only [nest, It.kind]; decide, by simp only [nest, It.n]; decide, by simp only [nest, It.s]; decide, by simp [nest, It.l]⟩ (fun y hy => by simp [nest, It.l] at hy)
  | j + 1 => .mk _ ⟨by simp only [nest, It.kind]; decide, by simp only [nest, It.kind]; decide, by simp only [nest, It.n]; decide, by simp only [nest, It.s]; decide, by simp [nest, It.l]⟩ (fun y hy => by
      simp [nest, It.l] at hy
      subst hy
      exact nest_fit o j)

theorem nest_bytes_closed (j : Nat) : bytesOf (nest false (j + 1)) = [129] ++ bytesOf (nest false j) := by
  have h : headOf 4 1 = [129] := by decide
  simp [nest, bytesOf, bytesL, h]

theorem nest_bytes_open (j : Nat) : bytesOf (nest true (j + 1)) = ([159] ++ bytesOf (nest true j)) ++ [255] := by
  simp [nest, bytesOf, bytesL]

theorem nest_len (o : Bool) : ∀ j : Nat, (bytesOf (nest o j)).length ≤ 1 + 2 * j
  | 0 => by
    have h : headOf 0 7 = [7] := by decide
    simp [nest, bytesOf, h]
  | j + 1 => by
    have ih := nest_len o j
    cases o
    · rw [nest_bytes_closed]; simp; omega
    · rw [nest_bytes_open]; simp; omega

theorem nest_head (o : Bool) (j : Nat) (t : List UInt8) : ∃ h, headL (bytesOf (nest o j) ++ t) = some h ∧ kindOk h.major = true := by
  cases j with
  | zero =>
    have h : bytesOf (nest o 0) = headOf 0 7 := by simp [nest, bytesOf]
    rw [h, headL_headOf 0 7 t (by omega) (by omega)]
    exact ⟨_, rfl, rfl⟩
  | succ j =>
    cases o
    · have h : bytesOf (nest false (j + 1)) ++ t = headOf 4 1 ++ (bytesOf (nest false j) ++ t) := by
        rw [nest_bytes_closed, List.append_assoc]
        rfl
      rw [h, headL_headOf 4 1 _ (by omega) (by omega)]
      exact ⟨_, rfl, rfl⟩
    · rw [nest_bytes_open]
      simp only [List.append_assoc, List.cons_append, List.nil_append]
      rw [headL_open]
      exact ⟨_, rfl, rfl⟩

/-- Too many arrays in arrays: the first that is too deep is told, at its place. -/
theorem nest_deep (o : Bool) : ∀ (d i : Nat) (t : List UInt8), readItem d (bytesOf (nest o (d + i)) ++ t) = .err d 3
  | 0, i, t => by
    obtain ⟨h, hh, hk⟩ := nest_head o (0 + i) t
    simp only [readItem, hh, hk]
    rfl
  | d + 1, i, t => by
    have e : d + 1 + i = (d + i) + 1 := by omega
    rw [e]
    cases o
    · have hb : bytesOf (nest false (d + i + 1)) ++ t = headOf 4 1 ++ (bytesOf (nest false (d + i)) ++ t) := by
        rw [nest_bytes_closed, List.append_assoc]
        rfl
      have ih := nest_deep false d i t
      rw [hb]
      simp only [readItem]
      rw [headL_headOf 4 1 _ (by omega) (by omega)]
      have hl : (headOf 4 1).length = 1 := by decide
      have hd : (headOf 4 1 ++ (bytesOf (nest false (d + i)) ++ t)).drop 1 = bytesOf (nest false (d + i)) ++ t := rfl
      simp only [hl]
      rw [if_neg (by decide), if_neg (by decide), if_pos trivial, if_neg (by decide), if_neg (by decide), hd]
      simp only [readMany, ih, arrayRes]
      rw [Nat.add_comm]
    · have ih := nest_deep true d i (255 :: t)
      have hb : bytesOf (nest true (d + i + 1)) ++ t = 159 :: (bytesOf (nest true (d + i)) ++ 255 :: t) := by
        rw [nest_bytes_open]
        simp
      have hnb := bytesOf_noBreak (nest true (d + i)) (nest_plain true (d + i)) (255 :: t)
      rw [hb]
      simp only [readItem]
      rw [headL_open]
      simp only []
      rw [if_neg (by decide), if_neg (by decide), if_pos trivial, if_pos trivial]
      simp only [List.drop_succ_cons, List.drop_zero, readOpen, hnb, Bool.false_eq_true, if_false, ih, arrayRes]
      rw [Nat.add_comm]

theorem nest_parse_no (o : Bool) (j : Nat) (hj : 8 ≤ j) : parseOf (bytesOf (nest o j)) = (zeroIt, 8, 3) := by
  have h := nest_deep o 8 (j - 8) []
  rw [List.append_nil, show 8 + (j - 8) = j by omega] at h
  unfold parseOf
  rw [h]
  rfl

end Go.Proofs.Ytpmepnejjjlodaa
