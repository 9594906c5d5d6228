/-
  The plain mathematics of heads: a number in so many bytes, big-endian, and the bytes of a head. Nothing of the program is read here.
-/
import Derived.WalkKit
namespace Go.Proofs.YtmbmhblogjkflaaDoor.Plain

/-- n in k bytes, big-endian. -/
def be : Nat → Nat → List UInt8
  | _, 0 => []
  | n, k + 1 => be (n / 256) k ++ [UInt8.ofNat (n % 256)]

theorem be_length (n k : Nat) : (be n k).length = k := by
  induction k generalizing n with
  | zero => rfl
  | succ k ih => simp [be, ih]

/-- From the left: the first of k + 1 bytes. -/
theorem be_cons (n k : Nat) : be n (k + 1) = UInt8.ofNat (n / 256 ^ k % 256) :: be n k := by
  induction k generalizing n with
  | zero => simp [be]
  | succ k ih =>
    rw [be, ih]
    rw [show be n (k + 1) = be (n / 256) k ++ [UInt8.ofNat (n % 256)] from rfl]
    rw [Nat.div_div_eq_div_mul, Nat.pow_succ, Nat.mul_comm 256]
    simp

/-- The first i of k bytes are the number's upper ones. -/
theorem be_split (n k j : Nat) : be n (k + j) = be (n / 256 ^ j) k ++ be n j := by
  induction j generalizing n with
  | zero => simp [be]
  | succ j ih =>
    show be (n / 256) (k + j) ++ _ = _
    rw [ih, be, Nat.div_div_eq_div_mul, Nat.pow_succ, Nat.mul_comm 256]
    simp

/-- A first byte. -/
def first (m low : Nat) : UInt8 := UInt8.ofNat (32 * m + low)

/-- A head: the first byte, then the number in k bytes. -/
def headOf (m n : Nat) : List UInt8 :=
  if n < 24 then [first m n]
  else if n < 256 then first m 24 :: be n 1
  else if n < 65536 then first m 25 :: be n 2
  else if n < 4294967296 then first m 26 :: be n 4
  else first m 27 :: be n 8

/-- The type that counts: outside 0 to 7 it is 0. -/
def typeOf (m : Int) : Nat := if m < 0 ∨ 7 < m then 0 else m.toNat

/-- The cells of bytes. -/
def cellsOf (l : List UInt8) : List Value := l.map fun b => .int .u8 b.toNat

theorem cellsOf_length (l : List UInt8) : (cellsOf l).length = l.length := by simp [cellsOf]

theorem be_step (n size k : Nat) (h : k < size) :
    be (n / 256 ^ (size - (k + 1))) (k + 1) = be (n / 256 ^ (size - k)) k ++ [UInt8.ofNat (n / 256 ^ (size - (k + 1)) % 256)] := by
  rw [be, Nat.div_div_eq_div_mul, show 256 ^ (size - (k + 1)) * 256 = 256 ^ (size - k) from by
    rw [← Nat.pow_succ]; congr 1; omega]

theorem pow_bytes (j : Nat) : 2 ^ (8 * j) = 256 ^ j := by rw [Nat.pow_mul]

theorem byte_of (n size k : Nat) :
    Value.int .u8 ((n : Int) / 2 ^ (8 * (size - 1 - k)) % 256) = .int .u8 ((UInt8.ofNat (n / 256 ^ (size - (k + 1)) % 256)).toNat : Int) := by
  rw [show size - 1 - k = size - (k + 1) from by omega]
  have h : (UInt8.ofNat (n / 256 ^ (size - (k + 1)) % 256)).toNat = n / 256 ^ (size - (k + 1)) % 256 := by
    simp
  rw [h, ← pow_bytes]
  simp

theorem cells_step (f : UInt8) (n size k : Nat) (h : k < size) :
    cellsOf (f :: be (n / 256 ^ (size - k)) k) ++ [Value.int .u8 ((n : Int) / 2 ^ (8 * (size - 1 - k)) % 256)] = cellsOf (f :: be (n / 256 ^ (size - (k + 1))) (k + 1)) := by
  rw [be_step n size k h, byte_of]
  simp [cellsOf]

end Go.Proofs.YtmbmhblogjkflaaDoor.Plain
