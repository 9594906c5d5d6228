/-
  Contracts of dromondref05.power, atMost and IsRoot. Conditions: none beyond the ranges in which the statements call them.
-/
import Derived.Test.YtbhnfepdbbdcnaaRh
namespace Go.Proofs.Ytbhnfepdbbdcnaa
open Go.ChangeShapes Go.WideShapes Go.ChangeAt Go.RowKit Go.ChangeMaps
open Sha
set_option linter.unusedVariables false

theorem three_small {r W : Nat} (hr : r < 18446744073709551616) (hW : W < B) : ∀ d ∈ [r % B, r / B, W], d < B := by
  intro d hd
  simp only [List.mem_cons, List.not_mem_nil, or_false] at hd
  rcases hd with rfl | rfl | rfl
  · exact Nat.mod_lt _ B_pos
  · rw [Nat.div_lt_iff_lt_mul B_pos]; exact hr
  · exact hW

theorem alloc_size (w : World) (o : Obj) : (w.alloc o).heap.size = w.heap.size + 1 := by
  show (w.heap.push o).size = _
  simp

theorem refPower2 (W r : Nat) (w : World) (hr : r < 18446744073709551616) (hW : W < B) :
    Calls Try.prog 12 #[.int .u64 W, .int .u64 r, .bool false] w fun e w' =>
      ∃ g ys, e = .returned (.slice (some ⟨g, 0, none⟩) (6 : Nat) (6 : Nat)) ∧ Nums g ys w' ∧ ys.length = 6 ∧ (∀ d ∈ ys, d < B) ∧ valB ys = (W * 18446744073709551616 + r) ^ 2 ∧ Below w.heap.size w w' := by
  obtain ⟨u, hu⟩ : ∃ u, u = r % B := ⟨_, rfl⟩
  obtain ⟨v, hv⟩ : ∃ v, v = r / B := ⟨_, rfl⟩
  have e1 : (r : Int) % 4294967296 = (u : Int) := by rw [hu]; unfold B; omega
  have e2 : (r : Int) / 4294967296 = (v : Int) := by rw [hv]; unfold B; omega
  have e3 : IntKind.u64.wrap (v : Int) = (v : Int) := by rw [IntKind.wrap_u64]; have : v ≤ r := by rw [hv]; exact Nat.div_le_self _ _
                                                         omega
  have sm := three_small hr hW
  have vl := valB_three r W
  rw [← hu, ← hv] at sm vl
  have SM := Lib.hid sm; clear sm
  have VL := Lib.hid vl; clear vl hu hv hr hW
  go_enter Try.func12, Try.ntmps12
  go_wp2_with fail
  refine (refProduct [u, v, W] [u, v, W] w.heap.size w.heap.size _ (heap_alloc_new w _) (heap_alloc_new w _) (by simp) (by simp) (by simp) SM.out SM.out).mono ?_
  rintro e w2 ⟨ys, rfl, h1, h2, h3, h4, h5⟩
  rw [alloc_size] at h1
  rw [VL.out, ← Nat.pow_two] at h4
  have H := Lib.hid (And.intro h1 (And.intro h2 (And.intro h3 (And.intro h4 (below_link ((Below.refl _ _).alloc (Nat.le_refl _) _) h5))))); clear h1 h2 h3 h4 h5
  go_wp2
  go_ret
  exact ⟨_, ys, rfl, H.out.1, H.out.2.1, H.out.2.2.1, H.out.2.2.2.1, H.out.2.2.2.2⟩

theorem refPower3 (W r : Nat) (w : World) (hr : r < 18446744073709551616) (hW : W < B) :
    Calls Try.prog 12 #[.int .u64 W, .int .u64 r, .bool true] w fun e w' =>
      ∃ g ys, e = .returned (.slice (some ⟨g, 0, none⟩) (9 : Nat) (9 : Nat)) ∧ Nums g ys w' ∧ ys.length = 9 ∧ (∀ d ∈ ys, d < B) ∧ valB ys = (W * 18446744073709551616 + r) ^ 3 ∧ Below w.heap.size w w' := by
  obtain ⟨u, hu⟩ : ∃ u, u = r % B := ⟨_, rfl⟩
  obtain ⟨v, hv⟩ : ∃ v, v = r / B := ⟨_, rfl⟩
  have e1 : (r : Int) % 4294967296 = (u : Int) := by rw [hu]; unfold B; omega
  have e2 : (r : Int) / 4294967296 = (v : Int) := by rw [hv]; unfold B; omega
  have e3 : IntKind.u64.wrap (v : Int) = (v : Int) := by rw [IntKind.wrap_u64]; have : v ≤ r := by rw [hv]; exact Nat.div_le_self _ _
                                                         omega
  have sm := three_small hr hW
  have vl := valB_three r W
  rw [← hu, ← hv] at sm vl
  have SM := Lib.hid sm; clear sm
  have VL := Lib.hid vl; clear vl hu hv hr hW
  go_enter Try.func12, Try.ntmps12
  go_wp2_with fail
  refine (refProduct [u, v, W] [u, v, W] w.heap.size w.heap.size _ (heap_alloc_new w _) (heap_alloc_new w _) (by simp) (by simp) (by simp) SM.out SM.out).mono ?_
  rintro e w2 ⟨ys, rfl, h1, h2, h3, h4, h5⟩
  rw [alloc_size] at h1
  have hx : Nums w.heap.size [u, v, W] w2 := (h5.block _ (by simp)).trans (heap_alloc_new w _)
  rw [VL.out, ← Nat.pow_two] at h4
  have hb := below_link ((Below.refl _ _).alloc (Nat.le_refl _) _) h5
  have HX := Lib.hid hx; clear hx
  have H := Lib.hid (And.intro h1 (And.intro h2 (And.intro h3 (And.intro h4 hb)))); clear h1 h2 h3 h4 h5 hb
  go_wp2_with fail
  have hl := H.out.2.1
  have hp := refProduct ys [u, v, W] (w.heap.size + 1) w.heap.size w2 H.out.1 HX.out (by rw [hl]; simp) (by simp) (by rw [hl]; simp) H.out.2.2.1 SM.out
  rw [hl] at hp
  refine hp.mono ?_
  rintro e w3 ⟨zs, rfl, k1, k2, k3, k4, k5⟩
  rw [VL.out, H.out.2.2.2.1, ← Nat.pow_succ] at k4
  have K := Lib.hid (And.intro k1 (And.intro k2 (And.intro k3 (And.intro k4 (below_link H.out.2.2.2.2 k5))))); clear k1 k2 k3 k4 k5
  go_wp2
  go_ret
  exact ⟨_, zs, rfl, K.out.1, K.out.2.1, K.out.2.2.1, K.out.2.2.2.1, K.out.2.2.2.2⟩

set_option maxHeartbeats 1000000 in
theorem atMost_any (l : List Nat) (g p n L : Nat) (w : World) (hg : Nums g l w) (hL : L = l.length) (h0 : L ≤ 100) (hp : p < B) (hn : n < L) (hs : ∀ d ∈ l, d < B) :
    Calls Try.prog 11 #[.slice (some ⟨g, 0, none⟩) L L, .int .u64 p, .int .i64 n] w fun e w' => e = .returned (.bool (decide (valB l ≤ p * B ^ n))) ∧ w' = w := by
  have i0 : IntKind.i64.wrap ((L : Int) - 1) = (L : Int) - 1 := by rw [IntKind.wrap_i64]; omega
  have HG := Lib.hid hg; clear hg
  have HL := Lib.hid hL; clear hL
  have HP := Lib.hid hp; clear hp
  have HS := Lib.hid hs; clear hs
  have HN := Lib.hid hn; clear hn
  go_enter Try.func11, Try.ntmps11
  go_wp2
  go_loopw [7] (fun x wr => ∃ (k : Nat) (i : Int), k ≤ L ∧ x = .int .i64 i ∧ i = (k : Int) - 1 ∧ (∀ j, k ≤ j → j < L → l[j]? = some (if j = n then p else 0)) ∧ wr = w) (fun x _ => (intOf x + 1).toNat)
  case atStart => exact ⟨L, _, Nat.le_refl _, rfl, rfl, fun j h1 h2 => by omega, rfl⟩
  case round =>
    obtain ⟨k, i, hk, rfl, hi, hall, rfl⟩ := hrel
    match k with
    | 0 =>
      obtain rfl : i = -1 := by omega
      have HR := Lib.hid (show valB l ≤ p * B ^ n from most_eq (by have := HL.out; have := HN.out; omega) (fun j hj => hall j (Nat.zero_le _) (by have := HL.out; omega)))
      clear hall hi
      go_wp2
      go_ret
      exact ⟨by rw [decide_eq_true HR.out]; rfl, rfl⟩
    | m + 1 =>
      obtain rfl : i = (m : Int) := by omega
      obtain ⟨d, hd⟩ : ∃ d, l[m]? = some d := ⟨_, List.getElem?_eq_getElem (by have := HL.out; omega)⟩
      obtain ⟨z, hz⟩ : ∃ z, z = if m = n then p else 0 := ⟨_, rfl⟩
      have hc := HG.out.cell hd
      have b1 : ((m : Nat) : Int) < (L : Int) := by omega
      have e1 : (m : Int) - 1 + 1 = m := by omega
      have LT := Lib.hid (fun (h : d < z) => most_lt (p := p) HS.out (by have := HL.out; have := HN.out; omega) (fun j h1 h2 => hall j h1 (by have := HL.out; omega)) hd (by rw [← hz]; exact h))
      have GT := Lib.hid (fun (h : z < d) => most_gt (p := p) HP.out (by have := HL.out; have := HN.out; omega) (fun j h1 h2 => hall j h1 (by have := HL.out; omega)) hd (by rw [← hz]; exact h))
      have EQ := Lib.hid (fun (h : d = z) => show ∀ j, m ≤ j → j < L → l[j]? = some (if j = n then p else 0) from fun j h1 h2 => by
        by_cases hj : j = m
        · subst hj; rw [hd, h, hz]
        · exact hall j (by omega) h2)
      clear hall hi
      by_cases hmn : m = n
      · rw [if_pos hmn] at hz
        subst hz
        have g1 : ((m : Int) == (n : Int)) = true := by simp <;> omega
        have HMN := Lib.hid hmn; clear hmn
        rcases Nat.lt_trichotomy d z with h | h | h
        · have g2 : ((d : Int) != (z : Int)) = true := by simp <;> omega
          have G := Lib.hid (decide_eq_true h)
          have R := Lib.hid (LT.out h); clear h
          go_wp2
          go_ret
          exact ⟨congrArg (fun b => Ending.returned (.bool b)) (G.out.trans (decide_eq_true R.out).symm), rfl⟩
        · have g2 : ((d : Int) != (z : Int)) = false := by simp <;> omega
          have R := Lib.hid (EQ.out h); clear h
          go_wp2
          go_roundw
          case rel => exact ⟨m, _, by omega, rfl, by go_num, R.out, trivial⟩
          case measure => simp [intOf] <;> omega
        · have g2 : ((d : Int) != (z : Int)) = true := by simp <;> omega
          have G := Lib.hid (decide_eq_false (Nat.not_lt.2 (Nat.le_of_lt h)))
          have R := Lib.hid (GT.out h); clear h
          go_wp2
          go_ret
          exact ⟨congrArg (fun b => Ending.returned (.bool b)) (G.out.trans (decide_eq_false R.out).symm), rfl⟩
      · rw [if_neg hmn] at hz
        subst hz
        have g1 : ((m : Int) == (n : Int)) = false := by simp <;> omega
        have HMN := Lib.hid hmn; clear hmn
        rcases Nat.eq_zero_or_pos d with h | h
        · have R := Lib.hid (EQ.out h)
          subst h
          go_wp2
          go_roundw
          case rel => exact ⟨m, _, by omega, rfl, by go_num, R.out, trivial⟩
          case measure => simp [intOf] <;> omega
        · have g2 : ((d : Int) != 0) = true := by simp <;> omega
          have g3 : decide ((d : Int) < 0) = false := by simp <;> omega
          have R := Lib.hid (GT.out h); clear h
          go_wp2
          go_ret
          exact ⟨by rw [decide_eq_false R.out]; rfl, rfl⟩

end Go.Proofs.Ytbhnfepdbbdcnaa
