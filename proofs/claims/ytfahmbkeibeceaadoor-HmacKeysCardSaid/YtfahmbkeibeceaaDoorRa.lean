/-
  Contracts of bits.Mul64, bits.Add64 and sha.product. Conditions: none.
-/
import Derived.Test.YtfahmbkeibeceaaDoorRows
import Derived.Test.YtfahmbkeibeceaaDoorShaMath
import Derived.WalkKit
import Derived.ProofKit
import Derived.OpenShut
import Derived.WalkSpells
import Derived.WalkLawsBesides
import Derived.Outline
import Derived.Lib.Hide
import Derived.Laws.BitsAllLaws
import Derived.Laws.Externs
import Derived.RegionTactic
import Derived.ChangeAlike
namespace Go.Proofs.YtfahmbkeibeceaaDoor
open Go.ChangeShapes Go.WideShapes Go.ChangeAt Go.RowKit

/-- Two words' product in 128 bits. -/
theorem mul_parts (x y : Nat) :
    let t := x / 4294967296 * (y % 4294967296) + x % 4294967296 * (y % 4294967296) / 4294967296
    let w1 := t % 4294967296 + x % 4294967296 * (y / 4294967296)
    x / 4294967296 * (y / 4294967296) + t / 4294967296 + w1 / 4294967296 = x * y / 18446744073709551616 := by
  intro t w1
  obtain ⟨a, ha⟩ : ∃ a, a = x / 4294967296 := ⟨_, rfl⟩
  obtain ⟨b, hb⟩ : ∃ b, b = x % 4294967296 := ⟨_, rfl⟩
  obtain ⟨c, hc⟩ : ∃ c, c = y / 4294967296 := ⟨_, rfl⟩
  obtain ⟨d, hd⟩ : ∃ d, d = y % 4294967296 := ⟨_, rfl⟩
  have e1 : x = a * 4294967296 + b := by omega
  have e2 : y = c * 4294967296 + d := by omega
  have e3 : x * y = a * c * 18446744073709551616 + (a * d + b * c) * 4294967296 + b * d := by
    rw [e1, e2]
    simp only [Nat.add_mul, Nat.mul_add]
    have h1 : a * 4294967296 * (c * 4294967296) = a * c * 18446744073709551616 := by
      rw [Nat.mul_mul_mul_comm]
    have h2 : b * (c * 4294967296) = b * c * 4294967296 := (Nat.mul_assoc ..).symm
    have h3 : a * 4294967296 * d = a * d * 4294967296 := by rw [Nat.mul_right_comm]
    rw [h1, h2, h3]; omega
  rw [e3]
  show _ = _
  simp only [t, w1, ← ha, ← hb, ← hc, ← hd]
  generalize a * c = p
  generalize a * d = q
  generalize b * c = r
  generalize b * d = s
  omega

theorem u64_low (a : Nat) (ha : a < 18446744073709551616) : bits .and .u64 (a : Int) 4294967295 = ((a % 4294967296 : Nat) : Int) := by
  have h := u64_and_nat a 4294967295 ha (by decide)
  have e : a &&& 4294967295 = a % 4294967296 := Nat.and_two_pow_sub_one_eq_mod a 32
  rw [e] at h
  exact h

theorem half_lt {a b : Nat} (ha : a < 4294967296) (hb : b < 4294967296) : a * b ≤ 18446744065119617025 := by
  have := Nat.mul_le_mul (Nat.le_of_lt_succ ha : a ≤ 4294967295) (Nat.le_of_lt_succ hb : b ≤ 4294967295)
  omega

theorem mul64_any (x y : Nat) (hx : x < 18446744073709551616) (hy : y < 18446744073709551616) (w : World) :
    Calls Tryd.prog 52 #[.int .u64 x, .int .u64 y] w fun e w' => e = .returned (.tuple #[.int .u64 ((x * y / 18446744073709551616 : Nat) : Int), .int .u64 ((x * y % 18446744073709551616 : Nat) : Int)]) ∧ w' = w := by
  have h1 := u64_low x hx
  have h2 := u64_low y hy
  have hm := mul_parts x y
  have hxl : x % 4294967296 < 4294967296 := Nat.mod_lt _ (by decide)
  have hyl : y % 4294967296 < 4294967296 := Nat.mod_lt _ (by decide)
  have hxh : x / 4294967296 < 4294967296 := by omega
  have hyh : y / 4294967296 < 4294967296 := by omega
  have q1 := half_lt hxl hyl
  have q2 := half_lt hxh hyl
  have q3 := half_lt hxl hyh
  have q4 := half_lt hxh hyh
  have e1 : (x : Int) % 4294967296 * ((y : Int) % 4294967296) = ((x % 4294967296 * (y % 4294967296) : Nat) : Int) := by simp
  have e2 : (x : Int) / 4294967296 * ((y : Int) % 4294967296) = ((x / 4294967296 * (y % 4294967296) : Nat) : Int) := by simp
  have e3 : (x : Int) % 4294967296 * ((y : Int) / 4294967296) = ((x % 4294967296 * (y / 4294967296) : Nat) : Int) := by simp
  have e4 : (x : Int) / 4294967296 * ((y : Int) / 4294967296) = ((x / 4294967296 * (y / 4294967296) : Nat) : Int) := by simp
  have w1 : IntKind.u64.wrap ((x : Int) % 4294967296 * ((y : Int) % 4294967296)) = ((x % 4294967296 * (y % 4294967296) : Nat) : Int) := by
    rw [IntKind.wrap_u64, e1]
    omega
  have w2 : IntKind.u64.wrap ((x : Int) / 4294967296 * ((y : Int) % 4294967296)) = ((x / 4294967296 * (y % 4294967296) : Nat) : Int) := by
    rw [IntKind.wrap_u64, e2]
    omega
  have w3 : IntKind.u64.wrap ((x : Int) % 4294967296 * ((y : Int) / 4294967296)) = ((x % 4294967296 * (y / 4294967296) : Nat) : Int) := by
    rw [IntKind.wrap_u64, e3]
    omega
  have w4 : IntKind.u64.wrap ((x : Int) / 4294967296 * ((y : Int) / 4294967296)) = ((x / 4294967296 * (y / 4294967296) : Nat) : Int) := by
    rw [IntKind.wrap_u64, e4]
    omega
  have w5 : IntKind.u64.wrap ((x : Int) * (y : Int)) = ((x * y % 18446744073709551616 : Nat) : Int) := by
    rw [IntKind.wrap_u64]
    have : (x : Int) * (y : Int) = ((x * y : Nat) : Int) := by simp
    rw [this]; omega
  have HX := Lib.hid hx; clear hx
  have HY := Lib.hid hy; clear hy
  obtain ⟨t, ht⟩ : ∃ t, t = x / 4294967296 * (y % 4294967296) + x % 4294967296 * (y % 4294967296) / 4294967296 := ⟨_, rfl⟩
  simp only [← ht] at hm
  have tl : t < 18446744073709551616 := by omega
  have h3 := u64_low t tl
  have w6 : IntKind.u64.wrap ((x : Int) / 4294967296 * ((y : Int) % 4294967296) + (x : Int) % 4294967296 * ((y : Int) % 4294967296) / 4294967296) = (t : Int) := by
    rw [IntKind.wrap_u64, e1, e2]; omega
  obtain ⟨v, hv⟩ : ∃ v, v = t % 4294967296 + x % 4294967296 * (y / 4294967296) := ⟨_, rfl⟩
  simp only [← hv] at hm
  have w7 : IntKind.u64.wrap ((t : Int) % 4294967296 + (x : Int) % 4294967296 * ((y : Int) / 4294967296)) = (v : Int) := by
    rw [IntKind.wrap_u64, e3]; omega
  have w8 : IntKind.u64.wrap (IntKind.u64.wrap ((x : Int) / 4294967296 * ((y : Int) / 4294967296) + (t : Int) / 4294967296) + (v : Int) / 4294967296) = ((x * y / 18446744073709551616 : Nat) : Int) := by
    rw [IntKind.wrap_u64, IntKind.wrap_u64, ← hm, e4]; omega
  go_enter Tryd.func52, Tryd.ntmps52
  have HM := Lib.hid hm; clear hm
  have HT := Lib.hid ht; clear ht
  have HV := Lib.hid hv; clear hv
  clear hxl hyl hxh hyh q1 q2 q3 q4 e1 e2 e3 e4
  go_wp2
  go_ret2
  exact ⟨rfl, rfl⟩

end Go.Proofs.YtfahmbkeibeceaaDoor
