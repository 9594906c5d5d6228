/-
  Contracts of aes.New and aes.Cipher.Do, by the key. Conditions: the key has 16 or 32 bytes; the block has 16.
-/
import Derived.Test.YtpjobjpdfhpobaaCc
namespace Go.Proofs.Ytpjobjpdfhpobaa
namespace Aes
open Go.ChangeShapes Go.WideShapes Go.ChangeAt Go.RowKit Go.Great Go.ChangeMaps
open Gf
set_option linter.unusedVariables false
set_option maxRecDepth 100000

theorem new_ok (key : ByteArray) (n : Nat) (w : World) (hn : n = 4 ∨ n = 8) (hk : key.size = 4 * n) :
    Calls Try.prog 40 #[.string key] w fun e w' => e = .returned (.tuple #[.pointer (some ⟨w.heap.size, 0, none⟩), .int .i64 0]) ∧ Cip w.heap.size (n + 6) (wordAt n (nums key)) sub unsub w' ∧ Below w.heap.size w w' := by
  rcases hn with rfl | rfl
  · exact new_4 key w hk
  · exact new_8 key w hk

/-- What Do and Undo make, as texts. -/
def doneB (n : Nat) (key b : ByteArray) : ByteArray := toB (allF (done (wordAt n (nums key)) (n + 6) (byteAt b)) 16)
def undoneB (n : Nat) (key b : ByteArray) : ByteArray := toB (allF (undone (wordAt n (nums key)) (n + 6) (byteAt b)) 16)
theorem doneB_size (n : Nat) (key b : ByteArray) : (doneB n key b).size = 16 := by unfold doneB; rw [toB_size, allF_length]
theorem undoneB_size (n : Nat) (key b : ByteArray) : (undoneB n key b).size = 16 := by unfold undoneB; rw [toB_size, allF_length]

/-- A cipher of a key. -/
def Key (g n : Nat) (key : ByteArray) (X : World) : Prop := Cip g (n + 6) (wordAt n (nums key)) sub unsub X
theorem Key.next {g n : Nat} {key : ByteArray} {X Y : World} (h : Key g n key X) (hb : Below X.heap.size X Y) : Key g n key Y := Cip.next h hb
theorem do_key (g n : Nat) (key b : ByteArray) (X : World) (hn : n = 4 ∨ n = 8) (hb : b.size = 16) (h : Key g n key X) :
    Calls Try.prog 43 #[.pointer (some ⟨g, 0, none⟩), .string b] X fun e w' => e = .returned (.string (doneB n key b)) ∧ Below X.heap.size X w' :=
  do_any g (n + 6) _ b X hb (fun j => wordAt_lt (nums_lt key) j) (by omega) (by omega) h

end Aes
end Go.Proofs.Ytpjobjpdfhpobaa
