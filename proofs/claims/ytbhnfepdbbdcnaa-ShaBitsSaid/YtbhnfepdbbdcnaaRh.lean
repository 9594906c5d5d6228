/-
  Contract of dromondref05.product. Conditions: at most a hundred digits each.
-/
import Derived.Test.YtbhnfepdbbdcnaaRf
import Derived.ChangeMaps5
import Derived.Deep.QuietTactic
namespace Go.Proofs.Ytbhnfepdbbdcnaa
open Go.ChangeShapes Go.WideShapes Go.ChangeAt Go.RowKit Go.ChangeMaps
open Sha

theorem infoWord : (Try.prog.info? 22).map (fun i => (i.zero, i.size, i.bytes)) = some (some (.int .u64 0), 1, 8) := by kernel_rfl

theorem vals_size (l : List Nat) : (vals l).size = l.length := by simp [vals]
theorem vals_set (l : List Nat) (k v : Nat) : (vals l).setIfInBounds k (.int .u64 (v : Nat)) = vals (l.set k v) := by
  unfold vals
  rw [List.setIfInBounds_toArray, List.map_set, List.map_set]
  rfl
theorem vals_zero (n : Nat) : vals (List.replicate n 0) = (List.replicate n (Value.int .u64 0)).toArray := by
  unfold vals
  rw [List.map_replicate, List.map_replicate]
  rfl

/-- A row of numbers in memory. -/
abbrev Nums (g : Nat) (l : List Nat) (w : World) : Prop := w.heap[g]? = some (.cells (vals l) 22 (0, 0))

theorem Nums.cell {g : Nat} {l : List Nat} {w : World} (h : Nums g l w) {k x : Nat} (hx : l[k]? = some x) : w.cell? ⟨g, k, none⟩ = some (.int .u64 (x : Nat)) := by
  rw [cell_of_row _ _ _ _ _ _ h]; exact vals_get l k x hx

/-- The memory of product: its factors and the row in the making. -/
structure Pm (w : World) (ga gb : Nat) (a b ys : List Nat) (wr : World) : Prop where
  ha : Nums ga a wr
  hb : Nums gb b wr
  hs : Nums w.heap.size ys wr
  below : Below w.heap.size w wr

theorem Pm.start {w w' : World} {ga gb : Nat} {a b : List Nat} (ha : Nums ga a w) (hb : Nums gb b w) (n : Nat) (hown : w'.ownsRow w.heap.size 22 1 (.slice (some ⟨w.heap.size, 0, none⟩) n n) n (madeCells (Value.int .u64 0).cells (n * 1)).toList) (hgrow : w.grownBy w' none) :
    Pm w ga gb a b (List.replicate n 0) w' := by
  have hbel : Below w.heap.size w w' := (Below.refl _ _).grown hgrow (Nat.le_refl _) (fun k hk => by cases hk)
  have keep : ∀ {g l}, Nums g l w → Nums g l w' := fun {g l} h => by
    have := hbel.block g (Array.getElem?_eq_some_iff.1 h).1
    exact this.trans h
  refine ⟨keep ha, keep hb, ?_, hbel⟩
  obtain ⟨hl, h⟩ := hown
  have e : (Value.int .u64 0).cells = #[.int .u64 0] := rfl
  rw [e, toList_madeCells_one, Nat.mul_one] at h
  rcases h with ⟨h, -⟩ | ⟨g, cap, cur, h, -, hc, -, -, hs, ht⟩
  · cases h
  · cases h
    rw [Nat.mul_one] at hs
    rw [List.take_of_length_le (by simp [hs])] at ht
    show w'.heap[w.heap.size]? = _
    rw [hc, vals_zero, ← ht]

theorem Pm.step {w wr : World} {ga gb : Nat} {a b ys : List Nat} (h : Pm w ga gb a b ys wr) (hga : ga < w.heap.size) (hgb : gb < w.heap.size) (k v : Nat) :
    Pm w ga gb a b (ys.set k v) (wr.setCell ⟨w.heap.size, k, none⟩ (.int .u64 (v : Nat))) where
  ha := by unfold Nums; rw [heap_setCell_other _ _ _ _ (by simp only []; omega)]; exact h.ha
  hb := by unfold Nums; rw [heap_setCell_other _ _ _ _ (by simp only []; omega)]; exact h.hb
  hs := by unfold Nums; rw [heap_setCell_same _ _ _ _ _ _ h.hs, vals_set]
  below := h.below.setCell (by simp only []; omega) _

theorem Pm.drew {w wr : World} {ga gb : Nat} {a b ys : List Nat} (h : Pm w ga gb a b ys wr) : Pm w ga gb a b ys wr.drew where
  ha := h.ha
  hb := h.hb
  hs := h.hs
  below := h.below.drew

theorem Pm.drewN {w wr : World} {ga gb : Nat} {a b ys : List Nat} (h : Pm w ga gb a b ys wr) (n : Nat) : Pm w ga gb a b ys (wr.drewN n) where
  ha := h.ha
  hb := h.hb
  hs := h.hs
  below := h.below.trans ⟨rfl, rfl, rfl, Nat.le_refl _, fun _ _ => rfl⟩

theorem Pm.frozen {w wr : World} {ga gb : Nat} {a b ys : List Nat} (h : Pm w ga gb a b ys wr) (k : Nat) : wr.frozen? ⟨w.heap.size, k, none⟩ = false :=
  frozen_of_row _ _ _ _ _ h.hs

theorem digit_parts {x y z c : Nat} (hx : x < B) (hy : y < B) (hz : z < B) (hc : c < B) :
    ∃ p q r u v : Nat, p = x * y ∧ q = p + z ∧ r = q + c ∧ u = r % B ∧ v = r / B ∧ r < 18446744073709551616 ∧
      IntKind.u64.wrap ((x : Int) * (y : Int)) = (p : Int) ∧ IntKind.u64.wrap ((p : Int) + (z : Int)) = (q : Int) ∧ IntKind.u64.wrap ((q : Int) + (c : Int)) = (r : Int) ∧ (r : Int) % 4294967296 = (u : Int) ∧ (r : Int) / 4294967296 = (v : Int) := by
  have h := step_lt hx hy hz hc
  have e : B * B = 18446744073709551616 := by decide
  rw [e] at h
  refine ⟨_, _, _, _, _, rfl, rfl, rfl, rfl, rfl, h, ?_, ?_, ?_, ?_, ?_⟩
  · rw [IntKind.wrap_u64, ← Int.natCast_mul]
    generalize x * y = t at *
    omega
  · rw [IntKind.wrap_u64]
    generalize x * y = t at *
    omega
  · rw [IntKind.wrap_u64]
    generalize x * y = t at *
    omega
  · generalize x * y + z + c = t
    unfold B; omega
  · generalize x * y + z + c = t
    unfold B; omega

set_option maxHeartbeats 2000000 in
theorem refProduct (a b : List Nat) (ga gb : Nat) (w : World) (ha : Nums ga a w) (hb : Nums gb b w) (la : a.length ≤ 100) (lb : b.length ≤ 100) (l0 : 0 < a.length) (sa : ∀ d ∈ a, d < B) (sb : ∀ d ∈ b, d < B) :
    Calls Try.prog 14 #[.slice (some ⟨ga, 0, none⟩) a.length a.length, .slice (some ⟨gb, 0, none⟩) b.length b.length] w fun e w' =>
      ∃ ys, e = .returned (.slice (some ⟨w.heap.size, 0, none⟩) (a.length + b.length : Nat) (a.length + b.length : Nat)) ∧ Nums w.heap.size ys w' ∧ ys.length = a.length + b.length ∧ (∀ d ∈ ys, d < B) ∧ valB ys = valB a * valB b ∧ Below w.heap.size w w' := by
  obtain ⟨i0, hi, hz0, hz1, hz2⟩ := info_parts infoWord
  obtain ⟨A, hA⟩ : ∃ A, A = a.length := ⟨_, rfl⟩
  obtain ⟨Z, hZ⟩ : ∃ Z, Z = b.length := ⟨_, rfl⟩
  obtain ⟨N, hN⟩ : ∃ N, N = A + Z := ⟨_, rfl⟩
  have hga : ga < w.heap.size := (Array.getElem?_eq_some_iff.1 ha).1
  have hgb : gb < w.heap.size := (Array.getElem?_eq_some_iff.1 hb).1
  rw [← hA] at la l0 ⊢
  rw [← hZ] at lb ⊢
  rw [← hN]
  have i1 : IntKind.i64.wrap ((A : Int) + (Z : Int)) = (N : Int) := by rw [IntKind.wrap_i64]; omega
  have hNb : N ≤ 200 := by omega
  have HPS := Lib.hid (fun w' h1 h2 => Pm.start (w' := w') ha hb N h1 h2)
  have HA := Lib.hid hA; clear hA
  have HZ := Lib.hid hZ; clear hZ
  have HN := Lib.hid hN; clear hN
  have HGA := Lib.hid hga; clear hga ha
  have HGB := Lib.hid hgb; clear hgb hb
  have SA := Lib.hid sa; clear sa
  have SB := Lib.hid sb; clear sb
  go_enter Try.func14, Try.ntmps14
  go_wp2_with (at_make; refine wpList_make_full _ rfl _ _ 35 rfl w.heap.size 22 i0 (.int .u64 0) 1 Try.underlying35 hi hz0 hz1 _ _ _ _ N rfl rfl rfl rfl (by rw [hz2]; omega) (by unfold maxLen; omega) (Nat.le_refl _) ?_; intro w2 hown hgrow; have hrow := HPS.out _ hown hgrow; have HR := Lib.hid hrow; clear hrow hown hgrow)
  go_loopw [6] (fun i wr => ∃ n : Nat, n ≤ A ∧ i = .int .i64 n ∧ ∃ ys, Outer a b n ys ∧ Pm w ga gb a b ys wr) (fun i _ => A - (intOf i).toNat)
  case atStart => exact ⟨0, Nat.zero_le _, rfl, _, by rw [HN.out, HA.out, HZ.out]; exact Outer.start a b, HR.out⟩
  case round =>
    obtain ⟨n, hn, rfl, ys, hO, hP⟩ := hrel
    by_cases hlt : n < A
    · have HI := Lib.hid (hO.inner (by have := HA.out; omega)); clear hO
      have HP := Lib.hid hP; clear hP
      go_wp2
      go_loopw [7, 8] (fun c j wr' => ∃ m carry : Nat, m ≤ Z ∧ j = .int .i64 m ∧ c = .int .u64 (carry : Nat) ∧ ∃ zs, Inner a b n m zs carry ∧ Pm w ga gb a b zs wr') (fun _ j _ => Z - (intOf j).toNat)
      case atStart => exact ⟨0, 0, Nat.zero_le _, rfl, rfl, ys, HI.out, HP.out⟩
      case round =>
        obtain ⟨m, carry, hm, rfl, rfl, zs, hI, hQ⟩ := hrel
        have eA := HA.out
        have eZ := HZ.out
        have eN := HN.out
        have eL := hI.length
        by_cases hlm : m < Z
        · obtain ⟨x, hx⟩ : ∃ x, a[n]? = some x := ⟨_, List.getElem?_eq_getElem (by omega)⟩
          obtain ⟨y, hy⟩ : ∃ y, b[m]? = some y := ⟨_, List.getElem?_eq_getElem (by omega)⟩
          obtain ⟨z, hz⟩ : ∃ z, zs[n + m]? = some z := ⟨_, List.getElem?_eq_getElem (by omega)⟩
          have hx' := hQ.ha.cell hx
          have hy' := hQ.hb.cell hy
          have hz' := hQ.hs.cell hz
          have hf := hQ.frozen (n + m)
          have hst := hI.step SA.out SB.out hx hy hz
          obtain ⟨p, q, r, u, v, e1, e2, e3, e4, e5, hr, u1, u2, u3, u4, u5⟩ := digit_parts (SA.out _ (List.mem_of_getElem? hx)) (SB.out _ (List.mem_of_getElem? hy)) (hI.small _ (List.mem_of_getElem? hz)) hI.low
          rw [← e1, ← e2, ← e3, ← e4, ← e5] at hst
          have HST := Lib.hid hst
          have HQ := Lib.hid hQ
          have HV := Lib.hid (show v < 18446744073709551616 by rw [e5]; exact Nat.lt_of_le_of_lt (Nat.div_le_self _ _) hr)
          have i2 : IntKind.i64.wrap ((n : Int) + (m : Int)) = ((n + m : Nat) : Int) := by rw [IntKind.wrap_i64]; omega
          have b1 : ((n : Nat) : Int) < (A : Int) := by omega
          have b2 : ((m : Nat) : Int) < (Z : Int) := by omega
          have b3 : ((n + m : Nat) : Int) < (N : Int) := by omega
          clear hst hI hQ e1 e2 e3 e4 e5 hr hx hy hz eA eZ eN eL
          go_wp2
          go_quiet (fail)
          go_wp2
          go_roundw
          case rel => exact ⟨m + 1, v, by omega, by go_num, by rw [IntKind.wrap_u64]; have := HV.out; congr 1; omega, _, HST.out, (HQ.out.drewN nq).step HGA.out HGB.out (n + m) u⟩
          case measure => simp [intOf]; omega
        · obtain rfl : m = Z := by omega
          have hf := hQ.frozen (n + m)
          obtain ⟨z, hz⟩ : ∃ z, zs[n + m]? = some z := ⟨_, List.getElem?_eq_getElem (by omega)⟩
          have hz' := hQ.hs.cell hz
          have i2 : IntKind.i64.wrap ((n : Int) + (m : Int)) = ((n + m : Nat) : Int) := by rw [IntKind.wrap_i64]; omega
          have b3 : ((n + m : Nat) : Int) < (N : Int) := by omega
          have HST := Lib.hid (show Outer a b (n + 1) (zs.set (n + m) carry) by rw [eZ] at hI ⊢; exact hI.finish (by omega))
          have HQ := Lib.hid hQ
          clear hI hQ hz eA eZ eN eL
          go_wp2
          go_roundw
          case rel => exact ⟨n + 1, by omega, by go_num, _, HST.out, HQ.out.step HGA.out HGB.out (n + m) carry⟩
          case measure => simp [intOf]; omega
    · obtain rfl : n = A := by omega
      have HO := Lib.hid hO; clear hO
      have HP := Lib.hid hP; clear hP
      go_wp2
      go_ret
      exact ⟨ys, rfl, HP.out.hs, by rw [HN.out, HA.out, HZ.out]; exact HO.out.length, HO.out.small, by have := HO.out; rw [HA.out] at this; exact this.all, HP.out.below⟩

end Go.Proofs.Ytbhnfepdbbdcnaa
