/-
  The contract of dromondref01.Head: its bytes. Conditions: the type is 0 to 7, the number fits 64 bits.
-/
import Derived.Test.YtmbmhblogjkflaaDoorA
import Derived.Deep.RegionWith
namespace Go.Proofs.YtmbmhblogjkflaaDoor
open Go.ChangeShapes Go.WideShapes Go.ChangeAt Go.RowKit
open Plain
set_option linter.unusedVariables false

theorem one_string (x : UInt8) (y : Int) (h : y = x.toNat) (W : World) (b : Nat) (hc : W.cell? ⟨b, 0, none⟩ = some (.int .u8 y)) :
    (convert 56 9 (.slice (some ⟨b, 0, none⟩) 1 1)).run Tryd.prog W = .ok (.string ⟨#[x]⟩) W := by
  subst h
  exact run_convert_bytes_back _ 56 9 5 _ 1 [x] Tryd.underlying56 Tryd.underlying5 Tryd.underlying9 fun j hj => by
    obtain rfl : j = 0 := by simpa using hj
    simpa [Addr.add] using hc

theorem old_cells {W w1 : World} (hb : Below W.heap.size W w1) : ∀ b o, b < W.heap.size → w1.cell? ⟨b, o, none⟩ = W.cell? ⟨b, o, none⟩ :=
  fun b o h => hb.cell (p := ⟨b, o, none⟩) h

theorem first_int (m low : Nat) (h7 : m ≤ 7) (l31 : low ≤ 31) : 32 * (m : Int) + low = (first m low).toNat := by
  have : (first m low).toNat = 32 * m + low := by
    unfold first
    rw [UInt8.toNat_ofNat']
    exact Nat.mod_eq_of_lt (by omega)
  rw [this]; omega

theorem first_wrap (m low : Nat) (h7 : m ≤ 7) (l31 : low ≤ 31) : IntKind.u8.wrap (32 * (m : Int) + low) = (first m low).toNat := by
  have h := first_int m low h7 l31
  rw [← h]
  simp only [IntKind.wrap, IntKind.signed, IntKind.bits]
  simp
  omega

theorem below_after {w w' : World} {o : Obj} (hb : Below (w.alloc o).drew.heap.size (w.alloc o).drew w') : Below w.heap.size w w' :=
  (((Below.refl w.heap.size w).alloc (Nat.le_refl _) o).drew).trans (hb.mono (by simp))

theorem below_then {w w' : World} (o : Obj) (hb : Below w.drew.heap.size w.drew w') : Below w.heap.size w (w'.alloc o) :=
  ((Below.refl w.heap.size w).drew.trans hb).alloc hb.size o

set_option maxHeartbeats 1000000 in
set_option maxRecDepth 100000 in
theorem refHead_1 (m n : Nat) (w : World) (h7 : m ≤ 7) (h0 : ¬ n < 24) (h1 : n < 256) :
    Calls Tryd.prog 31 #[.int .i64 m, .int .u64 n] w fun e w' => e = .returned (.string ⟨(first m 24 :: be n 1).toArray⟩) ∧ Below w.heap.size w w' := by
  have g0 : decide ((n : Int) < 24) = false := by simp; omega
  have g1 : decide ((n : Int) < 256) = true := by simp; omega
  have HN : Hid (n < 18446744073709551616) := Lib.hid (by omega)
  clear h0 h1
  have hs := one_string (first m 24) _ rfl
  have hw : IntKind.u8.wrap (32 * (m : Int) + 24) = (first m 24).toNat := first_wrap m 24 h7 (by omega)
  have hlen := be_length n 1
  go_enter Tryd.func31, Tryd.ntmps31
  go_wp2
  go_region_with (go_at_call 41; refine (digits_any n 1 _ HN.out (by omega)).mono ?_; rintro e w' ⟨rfl, hb⟩; have hc := old_cells hb; have hz := hb.size)
  all_goals go_wp2
  all_goals go_ret
  all_goals refine ⟨congrArg (fun l => Ending.returned (.string l)) (bytes_append [first m 24] (be n 1)), ?_⟩
  all_goals first | exact below_after hb | exact below_then _ hb

set_option maxHeartbeats 1000000 in
set_option maxRecDepth 100000 in
theorem refHead_2 (m n : Nat) (w : World) (h7 : m ≤ 7) (h0 : ¬ n < 24) (h1 : ¬ n < 256) (h2 : n < 65536) :
    Calls Tryd.prog 31 #[.int .i64 m, .int .u64 n] w fun e w' => e = .returned (.string ⟨(first m 25 :: be n 2).toArray⟩) ∧ Below w.heap.size w w' := by
  have g0 : decide ((n : Int) < 24) = false := by simp; omega
  have g1 : decide ((n : Int) < 256) = false := by simp; omega
  have g2 : decide ((n : Int) < 65536) = true := by simp; omega
  have HN : Hid (n < 18446744073709551616) := Lib.hid (by omega)
  clear h0 h1 h2
  have hs := one_string (first m 25) _ rfl
  have hw : IntKind.u8.wrap (32 * (m : Int) + 25) = (first m 25).toNat := first_wrap m 25 h7 (by omega)
  have hlen := be_length n 2
  go_enter Tryd.func31, Tryd.ntmps31
  go_wp2
  go_region_with (go_at_call 41; refine (digits_any n 2 _ HN.out (by omega)).mono ?_; rintro e w' ⟨rfl, hb⟩; have hc := old_cells hb; have hz := hb.size)
  all_goals go_wp2
  all_goals go_ret
  all_goals refine ⟨congrArg (fun l => Ending.returned (.string l)) (bytes_append [first m 25] (be n 2)), ?_⟩
  all_goals first | exact below_after hb | exact below_then _ hb

set_option maxHeartbeats 1000000 in
set_option maxRecDepth 100000 in
theorem refHead_4 (m n : Nat) (w : World) (h7 : m ≤ 7) (h0 : ¬ n < 24) (h1 : ¬ n < 256) (h2 : ¬ n < 65536) (h3 : n < 4294967296) :
    Calls Tryd.prog 31 #[.int .i64 m, .int .u64 n] w fun e w' => e = .returned (.string ⟨(first m 26 :: be n 4).toArray⟩) ∧ Below w.heap.size w w' := by
  have g0 : decide ((n : Int) < 24) = false := by simp; omega
  have g1 : decide ((n : Int) < 256) = false := by simp; omega
  have g2 : decide ((n : Int) < 65536) = false := by simp; omega
  have g3 : decide ((n : Int) < 4294967296) = true := by simp; omega
  have HN : Hid (n < 18446744073709551616) := Lib.hid (by omega)
  clear h0 h1 h2 h3
  have hs := one_string (first m 26) _ rfl
  have hw : IntKind.u8.wrap (32 * (m : Int) + 26) = (first m 26).toNat := first_wrap m 26 h7 (by omega)
  have hlen := be_length n 4
  go_enter Tryd.func31, Tryd.ntmps31
  go_wp2
  go_region_with (go_at_call 41; refine (digits_any n 4 _ HN.out (by omega)).mono ?_; rintro e w' ⟨rfl, hb⟩; have hc := old_cells hb; have hz := hb.size)
  all_goals go_wp2
  all_goals go_ret
  all_goals refine ⟨congrArg (fun l => Ending.returned (.string l)) (bytes_append [first m 26] (be n 4)), ?_⟩
  all_goals first | exact below_after hb | exact below_then _ hb

set_option maxHeartbeats 1000000 in
set_option maxRecDepth 100000 in
theorem refHead_8 (m n : Nat) (w : World) (h7 : m ≤ 7) (h0 : ¬ n < 24) (h1 : ¬ n < 256) (h2 : ¬ n < 65536) (h3 : ¬ n < 4294967296) (h4 : n < 18446744073709551616) :
    Calls Tryd.prog 31 #[.int .i64 m, .int .u64 n] w fun e w' => e = .returned (.string ⟨(first m 27 :: be n 8).toArray⟩) ∧ Below w.heap.size w w' := by
  have g0 : decide ((n : Int) < 24) = false := by simp; omega
  have g1 : decide ((n : Int) < 256) = false := by simp; omega
  have g2 : decide ((n : Int) < 65536) = false := by simp; omega
  have g3 : decide ((n : Int) < 4294967296) = false := by simp; omega
  have HN : Hid (n < 18446744073709551616) := Lib.hid (by omega)
  clear h0 h1 h2 h3 h4
  have hs := one_string (first m 27) _ rfl
  have hw : IntKind.u8.wrap (32 * (m : Int) + 27) = (first m 27).toNat := first_wrap m 27 h7 (by omega)
  have hlen := be_length n 8
  go_enter Tryd.func31, Tryd.ntmps31
  go_wp2
  go_region_with (go_at_call 41; refine (digits_any n 8 _ HN.out (by omega)).mono ?_; rintro e w' ⟨rfl, hb⟩; have hc := old_cells hb; have hz := hb.size)
  all_goals go_wp2
  all_goals go_ret
  all_goals refine ⟨congrArg (fun l => Ending.returned (.string l)) (bytes_append [first m 27] (be n 8)), ?_⟩
  all_goals first | exact below_after hb | exact below_then _ hb

set_option maxHeartbeats 400000 in
theorem refHead_0 (m n : Nat) (w : World) (h7 : m ≤ 7) (h0 : n < 24) :
    Calls Tryd.prog 31 #[.int .i64 m, .int .u64 n] w fun e w' => e = .returned (.string ⟨[first m n].toArray⟩) ∧ Below w.heap.size w w' := by
  have g0 : decide ((n : Int) < 24) = true := by simp; omega
  have hs := one_string (first m n) _ (first_int m n h7 (by omega))
  go_enter Tryd.func31, Tryd.ntmps31
  go_wp2
  go_ret
  exact ⟨rfl, (Below.refl _ _).alloc (Nat.le_refl _) _⟩

/-- dromondref01.Head: the head's bytes. -/
theorem refHead_any (m n : Nat) (w : World) (h7 : m ≤ 7) (hn : n < 18446744073709551616) :
    Calls Tryd.prog 31 #[.int .i64 m, .int .u64 n] w fun e w' => e = .returned (.string ⟨(headOf m n).toArray⟩) ∧ Below w.heap.size w w' := by
  unfold headOf
  by_cases h0 : n < 24
  · rw [if_pos h0]; exact refHead_0 m n w h7 h0
  rw [if_neg h0]
  by_cases h1 : n < 256
  · rw [if_pos h1]; exact refHead_1 m n w h7 h0 h1
  rw [if_neg h1]
  by_cases h2 : n < 65536
  · rw [if_pos h2]; exact refHead_2 m n w h7 h0 h1 h2
  rw [if_neg h2]
  by_cases h3 : n < 4294967296
  · rw [if_pos h3]; exact refHead_4 m n w h7 h0 h1 h2 h3
  rw [if_neg h3]
  exact refHead_8 m n w h7 h0 h1 h2 h3 hn

end Go.Proofs.YtmbmhblogjkflaaDoor
