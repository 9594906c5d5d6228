/-
  Contract of dromondref01.digits. Conditions: the number fits 64 bits.
-/
import Derived.Test.YtmbmhblogjkflaaDoorRows
import Derived.Test.YtmbmhblogjkflaaDoorMath
import Derived.WalkKit
import Derived.ProofKit
import Derived.OpenShut
import Derived.WalkSpells
import Derived.WalkLawsBesides
import Derived.Outline
import Derived.Lib.Hide
namespace Go.Proofs.YtmbmhblogjkflaaDoor
open Go.ChangeShapes Go.WideShapes Go.ChangeAt Go.RowKit
open Plain

theorem Tryd.infoByte : (Tryd.prog.info? 5).map (fun i => (i.zero, i.size, i.bytes)) = some (some (.int .u8 0), 1, 1) := by kernel_rfl

/-- The string of a byte. -/
theorem one_back (w : World) (x : UInt8) (y : Int) (h : y = x.toNat) : (convert 56 9 (.slice (some ⟨w.heap.size, 0, none⟩) 1 1)).run Tryd.prog (w.alloc (.cells #[.int .u8 y] 5)) = .ok (.string ⟨#[x]⟩) (w.alloc (.cells #[.int .u8 y] 5)) := by
  subst h
  exact run_convert_bytes_back _ 56 9 5 _ 1 [x] Tryd.underlying56 Tryd.underlying5 Tryd.underlying9 fun j hj => by
    obtain rfl : j = 0 := by simpa using hj
    simp [Addr.add]

theorem bytes_append (l k : List UInt8) : (⟨l.toArray⟩ : ByteArray) ++ ⟨k.toArray⟩ = ⟨(l ++ k).toArray⟩ := by
  apply ByteArray.ext
  simp

set_option maxHeartbeats 400000 in
/-- dromondref01.digits: a number in so many bytes. -/
theorem digits_any (n size : Nat) (w : World) (hn : n < 18446744073709551616) (hs : size ≤ 8) :
    Calls Tryd.prog 41 #[.int .u64 n, .int .i64 size] w fun e w' =>
      e = .returned (.string ⟨(be n size).toArray⟩) ∧ Below w.heap.size w w' := by
  go_enter Tryd.func41, Tryd.ntmps41
  go_wp2
  go_loopw [0, 5, 6] (fun x s i wr => ∃ k : Nat, k ≤ size ∧ i = .int .i64 k ∧ x = .int .u64 (n / 256 ^ k : Nat) ∧ s = .string ⟨(be n k).toArray⟩ ∧ Below w.heap.size w wr) (fun _ _ i _ => size - (intOf i).toNat)
  case atStart => exact ⟨0, Nat.zero_le _, rfl, by simp, rfl, Below.refl _ _⟩
  case round =>
    obtain ⟨k, hk, rfl, rfl, rfl, hb⟩ := hrel
    by_cases hlt : k < size
    · obtain ⟨q, hq⟩ : ∃ q, q = n / 256 ^ k := ⟨_, rfl⟩
      rw [← hq]
      have hqb : q < 18446744073709551616 := by rw [hq]; exact Nat.lt_of_le_of_lt (Nat.div_le_self _ _) hn
      have HQ := Lib.hid hq; clear hq
      have hlen := be_length n k
      have hc := one_back wr (UInt8.ofNat (q % 256)) ((q : Int) % 256) (by simp)
      go_wp2
      go_roundw
      case rel =>
        refine ⟨k + 1, by omega, by go_num, ?_, ?_, hb.alloc hb.size _⟩
        · rw [HQ.out, Nat.pow_succ, ← Nat.div_div_eq_div_mul]; rfl
        · rw [be_cons, ← HQ.out]
          exact congrArg Value.string (bytes_append [UInt8.ofNat (q % 256)] (be n k))
      case measure => simp [intOf]; omega
    · obtain rfl : k = size := by omega
      go_wp2
      go_ret
      exact ⟨rfl, hb⟩

end Go.Proofs.YtmbmhblogjkflaaDoor
