/-
  Contracts of dromondref01.digits and of cbor.Head: their bytes. Conditions: the number fits 64 bits.
-/
import Derived.Test.YtpmepnejjjlodaaWrite
namespace Go.Proofs.Ytpmepnejjjlodaa
open Go.ChangeShapes Go.WideShapes Go.ChangeAt Go.RowKit
open Plain

/-- The string of a byte. -/
theorem one_back (w : World) (x : UInt8) (y : Int) (h : y = x.toNat) : (convert 47 9 (.slice (some ⟨w.heap.size, 0, none⟩) 1 1)).run Try.prog (w.alloc (.cells #[.int .u8 y] 5)) = .ok (.string ⟨#[x]⟩) (w.alloc (.cells #[.int .u8 y] 5)) := by
  subst h
  exact run_convert_bytes_back _ 47 9 5 _ 1 [x] Try.underlying47 Try.underlying5 Try.underlying9 fun j hj => by
    obtain rfl : j = 0 := by simpa using hj
    simp [Addr.add]

theorem bytes_append (l k : List UInt8) : (⟨l.toArray⟩ : ByteArray) ++ ⟨k.toArray⟩ = ⟨(l ++ k).toArray⟩ := by
  apply ByteArray.ext
  simp

set_option maxHeartbeats 400000 in
/-- dromondref01.digits: a number in so many bytes. -/
theorem digits_any (n size : Nat) (w : World) (hn : n < 18446744073709551616) (hs : size ≤ 8) :
    Calls Try.prog 47 #[.int .u64 n, .int .i64 size] w fun e w' =>
      e = .returned (.string ⟨(be n size).toArray⟩) ∧ Below w.heap.size w w' := by
  go_enter Try.func47, Try.ntmps47
  go_wp2
  go_loopw [0, 5, 6] (fun x s i wr => ∃ k : Nat, k ≤ size ∧ i = .int .i64 k ∧ x = .int .u64 (n / 256 ^ k : Nat) ∧ s = .string ⟨(be n k).toArray⟩ ∧ Below w.heap.size w wr) (fun _ _ i _ => size - (intOf i).toNat)
  case atStart => exact ⟨0, Nat.zero_le _, rfl, by simp, rfl, Below.refl _ _⟩
  case round =>
    obtain ⟨k, hk, rfl, rfl, rfl, hb⟩ := hrel
    by_cases hlt : k < size
    · obtain ⟨q, hq⟩ : ∃ q, q = n / 256 ^ k := ⟨_, rfl⟩
      rw [← hq]
      have hqb : q < 18446744073709551616 := by rw [hq]; exact Nat.lt_of_le_of_lt (Nat.div_le_self _ _) hn
      have HQ := Lib.hid hq; clear hq
      have hlen := be_length n k
      have hc := one_back wr (UInt8.ofNat (q % 256)) ((q : Int) % 256) (by simp)
      go_wp2
      go_roundw
      case rel =>
        refine ⟨k + 1, by omega, by go_num, ?_, ?_, hb.alloc hb.size _⟩
        · rw [HQ.out, Nat.pow_succ, ← Nat.div_div_eq_div_mul]; rfl
        · rw [be_cons, ← HQ.out]
          exact congrArg Value.string (bytes_append [UInt8.ofNat (q % 256)] (be n k))
      case measure => simp [intOf]; omega
    · obtain rfl : k = size := by omega
      go_wp2
      go_ret
      exact ⟨rfl, hb⟩

set_option maxRecDepth 100000 in
/-- cbor.Head: the head's bytes. -/
theorem head_any (m : Int) (n : Nat) (w : World) (hn : n < 18446744073709551616) :
    Calls Try.prog 36 #[.int .i64 m, .int .u64 n] w fun e w' => e = .returned (.string ⟨(headOf (typeOf m) n).toArray⟩) ∧ Below w.heap.size w w' := by
  unfold headOf
  have HN := Lib.hid hn; clear hn
  by_cases h0 : n < 24
  · rw [if_pos h0]
    have g0 : decide ((n : Int) < 24) = true := by simp; omega
    have hl : (n : Int) ≤ 31 := by omega
    have H0 := Lib.hid h0; clear h0
    go_enter Try.func36, Try.ntmps36
    go_wp2_with fail
    refine (spell_any m n n 0 _ (by omega) (by omega) HN.out (by omega)).mono ?_
    rintro e w' ⟨rfl, hb⟩
    go_wp2
    go_ret
    exact ⟨rfl, hb⟩
  rw [if_neg h0]
  by_cases h1 : n < 256
  · rw [if_pos h1]
    have g0 : decide ((n : Int) < 24) = false := by simp; omega
    have g1 : decide ((n : Int) < 256) = true := by simp; omega
    have H0 := Lib.hid h0; clear h0
    have H1 := Lib.hid h1; clear h1
    go_enter Try.func36, Try.ntmps36
    go_wp2_with fail
    refine (spell_any m 24 n 1 _ (by omega) (by omega) HN.out (by omega)).mono ?_
    rintro e w' ⟨rfl, hb⟩
    go_wp2
    go_ret
    exact ⟨rfl, hb⟩
  rw [if_neg h1]
  by_cases h2 : n < 65536
  · rw [if_pos h2]
    have g0 : decide ((n : Int) < 24) = false := by simp; omega
    have g1 : decide ((n : Int) < 256) = false := by simp; omega
    have g2 : decide ((n : Int) < 65536) = true := by simp; omega
    have H0 := Lib.hid h0; clear h0
    have H1 := Lib.hid h1; clear h1
    have H2 := Lib.hid h2; clear h2
    go_enter Try.func36, Try.ntmps36
    go_wp2_with fail
    refine (spell_any m 25 n 2 _ (by omega) (by omega) HN.out (by omega)).mono ?_
    rintro e w' ⟨rfl, hb⟩
    go_wp2
    go_ret
    exact ⟨rfl, hb⟩
  rw [if_neg h2]
  by_cases h3 : n < 4294967296
  · rw [if_pos h3]
    have g0 : decide ((n : Int) < 24) = false := by simp; omega
    have g1 : decide ((n : Int) < 256) = false := by simp; omega
    have g2 : decide ((n : Int) < 65536) = false := by simp; omega
    have g3 : decide ((n : Int) < 4294967296) = true := by simp; omega
    have H0 := Lib.hid h0; clear h0
    have H1 := Lib.hid h1; clear h1
    have H2 := Lib.hid h2; clear h2
    have H3 := Lib.hid h3; clear h3
    go_enter Try.func36, Try.ntmps36
    go_wp2_with fail
    refine (spell_any m 26 n 4 _ (by omega) (by omega) HN.out (by omega)).mono ?_
    rintro e w' ⟨rfl, hb⟩
    go_wp2
    go_ret
    exact ⟨rfl, hb⟩
  rw [if_neg h3]
  have g0 : decide ((n : Int) < 24) = false := by simp; omega
  have g1 : decide ((n : Int) < 256) = false := by simp; omega
  have g2 : decide ((n : Int) < 65536) = false := by simp; omega
  have g3 : decide ((n : Int) < 4294967296) = false := by simp; omega
  have H0 := Lib.hid h0; clear h0
  have H1 := Lib.hid h1; clear h1
  have H2 := Lib.hid h2; clear h2
  have H3 := Lib.hid h3; clear h3
  go_enter Try.func36, Try.ntmps36
  go_wp2_with fail
  refine (spell_any m 27 n 8 _ (by omega) (by omega) HN.out (by omega)).mono ?_
  rintro e w' ⟨rfl, hb⟩
  go_wp2
  go_ret
  exact ⟨rfl, hb⟩

end Go.Proofs.Ytpmepnejjjlodaa
