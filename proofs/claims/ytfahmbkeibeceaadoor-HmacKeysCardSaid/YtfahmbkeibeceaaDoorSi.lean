/-
  Contracts of sha.Sum, Block and Size at every size. Conditions: the text is shorter than 2^30 bytes; the table of round constants holds the standard's numbers.
-/
import Derived.Test.YtfahmbkeibeceaaDoorSh
namespace Go.Proofs.YtfahmbkeibeceaaDoor
open Go.ChangeShapes Go.WideShapes Go.ChangeAt Go.RowKit Go.Great Go.ChangeMaps
open Sha
set_option linter.unusedVariables false

/-- The digest of that size. -/
def sumOf (size : Int) (b : ByteArray) : ByteArray :=
  if size = 256 then toB (Sha.digest 32 256 (kAt 32) ini256 (nums b)) else if size = 384 then toB (Sha.digest 64 384 (kAt 64) ini384 (nums b)) else if size = 512 then toB (Sha.digest 64 512 (kAt 64) ini512 (nums b)) else ⟨#[]⟩

theorem sum_256 (b : ByteArray) (w : World) (hb : b.size < 1073741824) (hk : Kon w) :
    Calls Tryd.prog 11 #[.int .i64 256, .string b] w fun e w' => e = .returned (.string (sumOf 256 b)) ∧ Below w.heap.size w w' := by
  have H := Lib.hid (digest_256 b w hb hk); clear hb hk
  go_enter Tryd.func11, Tryd.ntmps11
  go_wp2_with fail
  refine H.out.mono ?_
  rintro e w1 ⟨rfl, hb1⟩
  have HB := Lib.hid hb1; clear hb1
  go_wp2
  go_ret
  exact ⟨rfl, HB.out⟩

theorem sum_384 (b : ByteArray) (w : World) (hb : b.size < 1073741824) (hk : Kon w) :
    Calls Tryd.prog 11 #[.int .i64 384, .string b] w fun e w' => e = .returned (.string (sumOf 384 b)) ∧ Below w.heap.size w w' := by
  have H := Lib.hid (digest_384 b w hb hk); clear hb hk
  go_enter Tryd.func11, Tryd.ntmps11
  go_wp2_with fail
  refine H.out.mono ?_
  rintro e w1 ⟨rfl, hb1⟩
  have HB := Lib.hid hb1; clear hb1
  go_wp2
  go_ret
  exact ⟨rfl, HB.out⟩

theorem sum_512 (b : ByteArray) (w : World) (hb : b.size < 1073741824) (hk : Kon w) :
    Calls Tryd.prog 11 #[.int .i64 512, .string b] w fun e w' => e = .returned (.string (sumOf 512 b)) ∧ Below w.heap.size w w' := by
  have H := Lib.hid (digest_512 b w hb hk); clear hb hk
  go_enter Tryd.func11, Tryd.ntmps11
  go_wp2_with fail
  refine H.out.mono ?_
  rintro e w1 ⟨rfl, hb1⟩
  have HB := Lib.hid hb1; clear hb1
  go_wp2
  go_ret
  exact ⟨rfl, HB.out⟩

theorem sum_other (size : Int) (b : ByteArray) (w : World) (h1 : size ≠ 256) (h2 : size ≠ 384) (h3 : size ≠ 512) :
    Calls Tryd.prog 11 #[.int .i64 size, .string b] w fun e w' => e = .returned (.string ⟨#[]⟩) ∧ w' = w := by
  have g1 : (size == 256) = false := by simpa using h1
  have g2 : (size == 384) = false := by simpa using h2
  have g3 : (size == 512) = false := by simpa using h3
  go_enter Tryd.func11, Tryd.ntmps11
  go_wp2
  go_ret
  exact ⟨rfl, rfl⟩
theorem block_other (size : Int) (w : World) (h1 : size ≠ 256) (h2 : size ≠ 384) (h3 : size ≠ 512) :
    Calls Tryd.prog 26 #[.int .i64 size] w fun e w' => e = .returned (.int .i64 0) ∧ w' = w := by
  have g1 : (size == 256) = false := by simpa using h1
  have g2 : (size == 384) = false := by simpa using h2
  have g3 : (size == 512) = false := by simpa using h3
  go_enter Tryd.func26, Tryd.ntmps26
  go_wp2
  go_ret
  exact ⟨rfl, rfl⟩
theorem size_other (size : Int) (w : World) (h1 : size ≠ 256) (h2 : size ≠ 384) (h3 : size ≠ 512) :
    Calls Tryd.prog 19 #[.int .i64 size] w fun e w' => e = .returned (.int .i64 0) ∧ w' = w := by
  have g1 : (size == 256) = false := by simpa using h1
  have g2 : (size == 384) = false := by simpa using h2
  have g3 : (size == 512) = false := by simpa using h3
  go_enter Tryd.func19, Tryd.ntmps19
  go_wp2
  go_ret
  exact ⟨rfl, rfl⟩

theorem digest_length (w size : Nat) (k : Nat → Nat) (h : St) (s : List Nat) (hs : size / 8 ≤ w / 8 * 8) : (Sha.digest w size k h s).length = size / 8 := by
  unfold Sha.digest
  rw [List.length_take, spelled_length]
  have : (Sha.blocks w k h (padded w s) ((padded w s).length / (2 * w))).list.length = 8 := rfl
  rw [this]
  omega
theorem sumOf_size_256 (b : ByteArray) : (sumOf 256 b).size = 32 := by
  show (toB _).size = 32
  rw [toB_size, digest_length _ _ _ _ _ (by decide)]
theorem sumOf_size_384 (b : ByteArray) : (sumOf 384 b).size = 48 := by
  show (toB _).size = 48
  rw [toB_size, digest_length _ _ _ _ _ (by decide)]
theorem sumOf_size_512 (b : ByteArray) : (sumOf 512 b).size = 64 := by
  show (toB _).size = 64
  rw [toB_size, digest_length _ _ _ _ _ (by decide)]

end Go.Proofs.YtfahmbkeibeceaaDoor
