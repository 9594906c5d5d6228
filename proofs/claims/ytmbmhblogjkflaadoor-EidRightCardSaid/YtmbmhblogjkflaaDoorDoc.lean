/-
  Contracts of dromondref10.Digits, value and Text. Conditions: numbers fit 64 bits.
-/
import Derived.Test.YtmbmhblogjkflaaDoorDob
import Derived.Test.YtmbmhblogjkflaaDoorA
import Derived.LoopTactic
namespace Go.Proofs.YtmbmhblogjkflaaDoor
namespace Eid
open Go.ChangeShapes Go.WideShapes Go.ChangeAt Go.RowKit
set_option linter.unusedVariables false
set_option linter.unusedSimpArgs false
set_option maxRecDepth 100000

theorem dec_small {q : Nat} (h : q < 10) : Lib.decDigits q = [UInt8.ofNat (48 + q)] := by rw [Lib.decDigits, dif_pos h]
theorem dec_big {q : Nat} (h : ¬ q < 10) : Lib.decDigits q = Lib.decDigits (q / 10) ++ [UInt8.ofNat (48 + q % 10)] := by rw [Lib.decDigits, dif_neg h]

set_option maxHeartbeats 4000000 in
theorem rdigits (u : Nat) (hu : u < 18446744073709551616) (w : World) : Calls Tryd.prog 28 #[.int .u64 u] w fun e w' => e = .returned (.string (digB u)) ∧ Below w.heap.size w w' := by
  have HU := Lib.hid hu; clear hu
  go_enter Tryd.func28, Tryd.ntmps28
  go_wp2
  go_loopw [0, 3, 4] (fun x s i wr => ∃ (k q : Nat) (l : List UInt8), k < 20 ∧ q < 10 ^ (20 - k) ∧ q < 18446744073709551616 ∧ i = .int .i64 (k : Nat) ∧ x = .int .u64 (q : Nat) ∧ s = .string ⟨l.toArray⟩ ∧ l.length = k ∧ Lib.decDigits u = Lib.decDigits q ++ l ∧ Below w.heap.size w wr) (fun _ _ i _ => 20 - (intOf i).toNat)
  case atStart => exact ⟨0, u, [], by omega, by have := HU.out; omega, HU.out, rfl, rfl, rfl, rfl, by simp, Below.refl _ _⟩
  case round =>
    obtain ⟨k, q, l, hk, hq, hq64, rfl, rfl, rfl, hlk, hdec, hb⟩ := hrel
    have hkI : (k : Int) < 20 := by omega
    obtain ⟨m, hm⟩ : ∃ m, m = q % 10 := ⟨_, rfl⟩
    obtain ⟨d, hd⟩ : ∃ d, d = q / 10 := ⟨_, rfl⟩
    have e1 : (q : Int) % 10 = (m : Int) := by omega
    have e2 : (q : Int) / 10 = (d : Int) := by omega
    have w1 : IntKind.u64.wrap (48 + (m : Int)) = 48 + (m : Int) := by rw [IntKind.wrap_u64]; omega
    have w2 : IntKind.u8.wrap (48 + (m : Int)) = 48 + (m : Int) := by simp only [IntKind.wrap, IntKind.signed, IntKind.bits]; simp; omega
    have hj1 : IntKind.i64.wrap ((k : Int) + 1) = ((k + 1 : Nat) : Int) := by rw [IntKind.wrap_i64]; omega
    obtain ⟨z, hz⟩ : ∃ z, z = UInt8.ofNat (48 + m) := ⟨_, rfl⟩
    have hc := one_back wr z (48 + (m : Int)) (by rw [hz, UInt8.toNat_ofNat', Nat.mod_eq_of_lt (by omega)]; omega)
    have happ := bytes_append [z] l
    have hsz : (⟨l.toArray⟩ : ByteArray).size ≤ 20 := by show l.toArray.size ≤ 20; simp; omega
    have hbn := hb.alloc hb.size (.cells #[.int .u8 (48 + (m : Int))] 5)
    have HBN := Lib.hid hbn
    by_cases hd0 : d = 0
    · have hsm : q < 10 := by omega
      have hfin : Lib.decDigits u = [z] ++ l := by rw [hdec, dec_small hsm, hz, hm, Nat.mod_eq_of_lt hsm]
      have hfin2 : digB u = ⟨([z] ++ l).toArray⟩ := by unfold digB; rw [hfin]
      have HFIN := Lib.hid (hfin2.trans happ.symm)
      have q1 : ((d : Int) == 0) = true := by simp; omega
      have q2 : decide ((d : Int) = 0) = true := by simp; omega
      clear hz hm hd hdec hfin hfin2 happ hb hbn hsm hq hd0
      go_wp2
      go_ret
      exact ⟨by rw [HFIN.out]; rfl, HBN.out⟩
    · have hbg : ¬ q < 10 := by omega
      have hfin : Lib.decDigits u = Lib.decDigits d ++ ([z] ++ l) := by rw [hdec, dec_big hbg, hz, hm, hd, List.append_assoc]
      have hpw : d < 10 ^ (20 - (k + 1)) ∧ k + 1 < 20 := by
        rcases Nat.lt_or_ge (k + 1) 20 with h | h
        · refine ⟨?_, h⟩
          rw [show 20 - k = (20 - (k + 1)) + 1 by omega, Nat.pow_succ] at hq
          generalize 10 ^ (20 - (k + 1)) = p at hq ⊢
          omega
        · have hk19 : k = 19 := by omega
          subst hk19
          have : q < 10 := hq
          omega
      have hd64 : d < 18446744073709551616 := by omega
      have HN := Lib.hid (And.intro hfin (And.intro hpw (And.intro hd64 happ)))
      have q1 : ((d : Int) == 0) = false := by simp; omega
      have q2 : decide ((d : Int) = 0) = false := by simp; omega
      clear hz hm hd hdec hfin happ hb hbn hbg hpw hd64 hd0
      go_wp2
      go_roundw
      case rel =>
        refine ⟨k + 1, d, [z] ++ l, HN.out.2.1.2, HN.out.2.1.1, HN.out.2.2.1, rfl, rfl, ?_, by simp; omega, HN.out.1, HBN.out⟩
        exact congrArg Value.string HN.out.2.2.2
      case measure => simp [intOf]; omega

/-- A number out of digits. -/
theorem val_snoc' (l : List Nat) (c : Nat) : val (l ++ [c]) = val l * 10 + (c - 48) := val_snoc l c

set_option maxHeartbeats 4000000 in
/-- value: at digits, at most ten, their number. -/
theorem rvalue (b : ByteArray) (hs : b.size ≤ 1099511627776) (w : World) : Calls Tryd.prog 37 #[.string b] w fun e w' => ∃ n : Nat, e = .returned (.int .u64 (n : Nat)) ∧ n < 18446744073709551616 ∧ (b.size ≤ 10 → (∀ c ∈ nb b, isDig c) → n = val (nb b)) ∧ Below w.heap.size w w' := by
  have HS := Lib.hid hs; clear hs
  go_enter Tryd.func37, Tryd.ntmps37
  go_wp2
  go_loopw [3, 4] (fun x i wr => ∃ (k n : Nat), k ≤ b.size ∧ k ≤ 10 ∧ i = .int .i64 (k : Nat) ∧ x = .int .u64 (n : Nat) ∧ n < 10 ^ k ∧ ((∀ c ∈ nb b, isDig c) → n = val ((nb b).take k)) ∧ wr = w) (fun _ i _ => 10 - (intOf i).toNat)
  case atStart => exact ⟨0, 0, Nat.zero_le _, by omega, rfl, rfl, by decide, fun _ => rfl, rfl⟩
  case round =>
    obtain ⟨k, n, hk, hk10, rfl, rfl, hn, hv, rfl⟩ := hrel
    have hs := HS.out
    by_cases hlt : k < b.size
    · by_cases h10 : k < 10
      · obtain ⟨x, hx⟩ : ∃ x, x = b[k].toNat := ⟨_, rfl⟩
        have hxe : (nb b)[k]? = some x := by rw [nb_get b k hlt, hx]
        have xa : (b[k].toNat : Int) = (x : Int) := by rw [hx]
        have hxl : x < 256 := nb_lt b x (List.mem_of_getElem? hxe)
        have hkI : (k : Int) < (b.size : Int) := by omega
        have hk0 : (0 : Int) ≤ (k : Int) := by omega
        have hkT : (k : Int) < 10 := by omega
        have hj1 : IntKind.i64.wrap ((k : Int) + 1) = ((k + 1 : Nat) : Int) := by rw [IntKind.wrap_i64]; omega
        have hp : 10 ^ (k + 1) = 10 ^ k * 10 := Nat.pow_succ 10 k
        have hpk : 10 ^ k ≤ 1000000000 := Nat.le_trans (Nat.pow_le_pow_right (by decide) (show k ≤ 9 by omega)) (by decide)
        have htk : (nb b).take (k + 1) = (nb b).take k ++ [x] := by
          rw [List.take_add_one, hxe]; rfl
        by_cases h48 : 48 ≤ x
        · have q1 : decide ((48 : Int) ≤ (x : Int)) = true := by simp; omega
          by_cases h57 : x ≤ 57
          · have q2 : decide ((x : Int) ≤ 57) = true := by simp; omega
            have w1 : IntKind.u64.wrap ((n : Int) * 10) = ((n * 10 : Nat) : Int) := by rw [IntKind.wrap_u64]; omega
            have w2 : IntKind.u64.wrap (((n * 10 : Nat) : Int) + (x : Int)) = ((n * 10 + x : Nat) : Int) := by rw [IntKind.wrap_u64]; omega
            have w3 : IntKind.u64.wrap (((n * 10 + x : Nat) : Int) - 48) = ((n * 10 + (x - 48) : Nat) : Int) := by rw [IntKind.wrap_u64]; omega
            have w4 : IntKind.u64.wrap (x : Int) = (x : Int) := by rw [IntKind.wrap_u64]; omega
            have hnn : n * 10 + (x - 48) < 10 ^ (k + 1) := by rw [hp]; omega
            have hvv : (∀ c ∈ nb b, isDig c) → n * 10 + (x - 48) = val ((nb b).take (k + 1)) := fun h => by rw [htk, val_snoc, ← hv h]
            have HN := Lib.hid (And.intro hnn hvv)
            generalize hA : n * 10 = a at *
            generalize hB : a + x = c at *
            generalize hC : a + (x - 48) = d at *
            clear hA hB hC hnn hvv hv hx hxe hp hpk htk hn
            go_wp2
            go_roundw
            case rel => exact ⟨k + 1, d, by omega, by omega, rfl, rfl, HN.out.1, HN.out.2, trivial⟩
            case measure => simp [intOf]; omega
          · have q2 : decide ((x : Int) ≤ 57) = false := by simp; omega
            have hbad : (∀ c ∈ nb b, isDig c) → n = val ((nb b).take (k + 1)) := fun h => absurd (h x (List.mem_of_getElem? hxe)).2 h57
            have hnn : n < 10 ^ (k + 1) := by rw [hp]; omega
            have HN := Lib.hid (And.intro hnn hbad)
            clear hnn hbad hv hx hxe hp hpk htk hn
            go_wp2
            go_roundw
            case rel => exact ⟨k + 1, n, by omega, by omega, rfl, rfl, HN.out.1, HN.out.2, trivial⟩
            case measure => simp [intOf]; omega
        · have q1 : decide ((48 : Int) ≤ (x : Int)) = false := by simp; omega
          have hbad : (∀ c ∈ nb b, isDig c) → n = val ((nb b).take (k + 1)) := fun h => absurd (h x (List.mem_of_getElem? hxe)).1 h48
          have hnn : n < 10 ^ (k + 1) := by rw [hp]; omega
          have HN := Lib.hid (And.intro hnn hbad)
          clear hnn hbad hv hx hxe hp hpk htk hn
          go_wp2
          go_roundw
          case rel => exact ⟨k + 1, n, by omega, by omega, rfl, rfl, HN.out.1, HN.out.2, trivial⟩
          case measure => simp [intOf]; omega
      · have hkI : (k : Int) < (b.size : Int) := by omega
        have q1 : decide ((k : Int) < 10) = false := by simp; omega
        have hk' : k = 10 := by omega
        have hn64 : n < 18446744073709551616 := by rw [hk'] at hn; omega
        have hfin : b.size ≤ 10 → (∀ c ∈ nb b, isDig c) → n = val (nb b) := fun h => absurd h (by omega)
        have HN := Lib.hid (And.intro hn64 hfin)
        clear hn hv hfin hn64 hk'
        go_wp2
        go_ret
        exact ⟨n, rfl, HN.out.1, HN.out.2, Below.refl _ _⟩
    · have hke : k = b.size := by omega
      have q1 : decide ((k : Int) < (b.size : Int)) = false := by simp; omega
      have hn64 : n < 18446744073709551616 := by
        have : 10 ^ k ≤ 10 ^ 10 := Nat.pow_le_pow_right (by decide) hk10
        omega
      have hfin : b.size ≤ 10 → (∀ c ∈ nb b, isDig c) → n = val (nb b) := fun _ h => by
        rw [hv h, List.take_of_length_le (by rw [nb_length]; omega)]
      have HN := Lib.hid (And.intro hn64 hfin)
      clear hn hv hfin hn64 hke
      go_wp2
      go_ret
      exact ⟨n, rfl, HN.out.1, HN.out.2, Below.refl _ _⟩
end Eid
end Go.Proofs.YtmbmhblogjkflaaDoor
