/-
  The reference's product of polynomials of 128 bits: contract of dromondref08.Times. Conditions: the coefficients are bits of two numbers.
-/
import Derived.Test.YtpjobjpdfhpobaaGa
import Derived.Test.YtpjobjpdfhpobaaBa
namespace Go.Proofs.Ytpjobjpdfhpobaa
namespace Gcm
open Go.ChangeShapes Go.WideShapes Go.ChangeAt Go.RowKit Go.Great
open Gf Aes
set_option linter.unusedVariables false

theorem polyL_length (v : Nat) : (polyL v).length = 128 := allF_length _ _
theorem polyL_get (v j : Nat) (h : j < 128) : (polyL v)[j]? = some (coef v j) := allF_get _ _ _ h
theorem polyL_zero : polyL 0 = zerosN 128 := by
  rw [← allF_zero]
  exact allF_congr fun i _ => coef_zero i

/-- One moved up. -/
def upOne (v j : Nat) : Nat := if j = 0 then 0 else coef v (j - 1)
theorem upOne_start (v : Nat) : stepF (upOne v) (fun _ => 0) 128 1 = zerosN 128 := by
  rw [← allF_zero]
  apply List.ext_getElem?
  intro j
  by_cases h : j < 128
  · rw [stepF_get _ _ _ _ _ h, allF_get _ _ _ h]
    by_cases e : j < 1
    · obtain rfl : j = 0 := by omega
      rfl
    · rw [if_neg e]
  · rw [List.getElem?_eq_none (by rw [stepF_length]; omega), List.getElem?_eq_none (by rw [allF_length]; omega)]

theorem upOne_none (v : Nat) (h : coef v 127 = 0) : allF (upOne v) 128 = polyL (xt 128 135 v) := by
  refine allF_congr fun j hj => ?_
  rw [xt_coef v j hj, h, upOne]
  simp

theorem upOne_four (v : Nat) (h : coef v 127 = 1) : ((((allF (upOne v) 128).set 0 1).set 1 (coef v 0 ^^^ 1)).set 2 (coef v 1 ^^^ 1)).set 7 (coef v 6 ^^^ 1) = polyL (xt 128 135 v) := by
  apply List.ext_getElem?
  intro j
  by_cases hj : j < 128
  · rw [polyL_get _ _ hj, xt_coef v j hj, h]
    simp only [List.getElem?_set, List.length_set, allF_length, allF_get _ _ _ hj]
    by_cases h0 : j = 0
    · subst h0; simp
    by_cases h1 : j = 1
    · subst h1; simp
    by_cases h2 : j = 2
    · subst h2; simp
    by_cases h7 : j = 7
    · subst h7; simp
    have e0 : ¬ 0 = j := by omega
    have e1 : ¬ 1 = j := by omega
    have e2 : ¬ 2 = j := by omega
    have e7 : ¬ 7 = j := by omega
    simp [h0, h1, h2, h7, e0, e1, e2, e7, upOne]
  · rw [List.getElem?_eq_none (by simp [allF_length]; omega), List.getElem?_eq_none (by rw [polyL_length]; omega)]

/-- The rows in memory: both factors, the result's, the sum. -/
structure Tm (w : World) (va : Nat) (lb lo : List Nat) (X : World) : Prop where
  hA : Wd .u8 26 w.heap.size (polyL va) X
  hB : Wd .u8 26 (w.heap.size + 1) lb X
  hR : Wd .u8 26 (w.heap.size + 1 + 1) (zerosN 128) X
  hO : Wd .u8 26 (w.heap.size + 1 + 1 + 1) lo X
  below : Below w.heap.size w X
theorem Tm.start (w : World) (va : Nat) (lb : List Nat) : Tm w va lb (zerosN 128) ((((w.alloc (.cells (valsK .u8 (polyL va)) 26)).alloc (.cells (valsK .u8 lb) 26)).alloc (.cells (valsK .u8 (zerosN 128)) 26)).alloc (.cells (valsK .u8 (zerosN 128)) 26)) where
  hA := keepAlloc (keepAlloc (keepAlloc (heap_alloc_new w _) _) _) _
  hB := by
    have := heap_alloc_new (w.alloc (.cells (valsK .u8 (polyL va)) 26)) (.cells (valsK .u8 lb) 26)
    rw [alloc_size] at this
    exact keepAlloc (keepAlloc this _) _
  hR := by
    have := heap_alloc_new ((w.alloc (.cells (valsK .u8 (polyL va)) 26)).alloc (.cells (valsK .u8 lb) 26)) (.cells (valsK .u8 (zerosN 128)) 26)
    rw [alloc_size, alloc_size] at this
    exact keepAlloc this _
  hO := by
    have := heap_alloc_new (((w.alloc (.cells (valsK .u8 (polyL va)) 26)).alloc (.cells (valsK .u8 lb) 26)).alloc (.cells (valsK .u8 (zerosN 128)) 26)) (.cells (valsK .u8 (zerosN 128)) 26)
    rwa [alloc_size, alloc_size, alloc_size] at this
  below := below_alloc (below_alloc (below_alloc ((Below.refl _ _).alloc (Nat.le_refl _) _) _) _) _
theorem Tm.stepO {w X : World} {va : Nat} {lb lo : List Nat} (h : Tm w va lb lo X) (j v : Nat) : Tm w va lb (lo.set j v) (X.setCell ⟨w.heap.size + 1 + 1 + 1, j, none⟩ (.int .u8 (v : Nat))) where
  hA := h.hA.far _ _ _ (by omega)
  hB := h.hB.far _ _ _ (by omega)
  hR := h.hR.far _ _ _ (by omega)
  hO := h.hO.set j v
  below := h.below.setCell (by simp only []; omega) _
theorem Tm.drew {w X : World} {va : Nat} {lb lo : List Nat} (h : Tm w va lb lo X) : Tm w va lb lo X.drew := ⟨h.hA, h.hB, h.hR, h.hO, h.below.drew⟩
theorem Tm.lt {w X : World} {va : Nat} {lb lo : List Nat} (h : Tm w va lb lo X) : w.heap.size + 1 + 1 + 1 < X.heap.size := (Array.getElem?_eq_some_iff.1 h.hO).1
/-- With a further row in block c. -/
structure Tx (w : World) (va : Nat) (lb lo : List Nat) (c : Nat) (lx : List Nat) (X : World) : Prop where
  tm : Tm w va lb lo X
  hX : Wd .u8 26 c lx X
  far : w.heap.size + 1 + 1 + 1 < c
theorem Tm.more {w X : World} {va : Nat} {lb lo : List Nat} (h : Tm w va lb lo X) : Tx w va lb lo X.heap.size (zerosN 128) (X.alloc (.cells (valsK .u8 (zerosN 128)) 26)) :=
  ⟨⟨keepAlloc h.hA _, keepAlloc h.hB _, keepAlloc h.hR _, keepAlloc h.hO _, below_alloc h.below _⟩, heap_alloc_new X _, h.lt⟩
theorem Tx.step {w X : World} {va c : Nat} {lb lo lx : List Nat} (h : Tx w va lb lo c lx X) (j v : Nat) : Tx w va lb lo c (lx.set j v) (X.setCell ⟨c, j, none⟩ (.int .u8 (v : Nat))) where
  tm := ⟨h.tm.hA.far _ _ _ (by have := h.far; omega), h.tm.hB.far _ _ _ (by have := h.far; omega), h.tm.hR.far _ _ _ (by have := h.far; omega), h.tm.hO.far _ _ _ (by have := h.far; omega), h.tm.below.setCell (by have := h.far; simp only []; omega) _⟩
  hX := h.hX.set j v
  far := h.far
/-- The second factor anew. -/
theorem Tm.put {w X : World} {va : Nat} {lb lo : List Nat} (h : Tm w va lb lo X) (l : List Nat) : Tm w va l lo (X.setRow (w.heap.size + 1) (valsK .u8 l)) where
  hA := by unfold Wd; rw [setRow_other _ _ _ _ (by omega)]; exact h.hA
  hB := setRow_heap _ _ _ _ _ _ h.hB
  hR := by unfold Wd; rw [setRow_other _ _ _ _ (by omega)]; exact h.hR
  hO := by unfold Wd; rw [setRow_other _ _ _ _ (by omega)]; exact h.hO
  below := below_setRow h.below (by omega) _

set_option maxRecDepth 10000 in
set_option maxHeartbeats 8000000 in
theorem ptimes_any (a b : Nat) (w : World) (ha : a < 2 ^ 128) (hb : b < 2 ^ 128) :
    Calls Try.prog 11 #[.agg (valsK .u8 (polyL a)), .agg (valsK .u8 (polyL b))] w fun e w' => e = .returned (.agg (valsK .u8 (polyL (accT a b 128)))) ∧ Below w.heap.size w w' := by
  have hz := zero128u.1
  have hne := zeros128_ne .u8
  have HS := Lib.hid (Tm.start w a (polyL b))
  have HLt := Lib.hid (And.intro ha hb); clear ha hb
  go_enter Try.func11, Try.ntmps11
  go_wp2
  go_loopw [6] (fun x wr => ∃ i : Nat, i ≤ 128 ∧ x = .int .i64 (i : Nat) ∧ Tm w a (polyL (xtn b i)) (polyL (accT a b i)) wr) (fun x _ => 128 - (intOf x).toNat)
  case atStart => exact ⟨0, Nat.zero_le _, rfl, by rw [show accT a b 0 = 0 from rfl, polyL_zero]; exact HS.out⟩
  case round =>
    obtain ⟨i, hi, rfl, hS⟩ := hrel
    by_cases hlt : i < 128
    · have hcA := hS.hA.cell (polyL_get a i hlt)
      have q0 : (i : Int) < 128 := by omega
      obtain ⟨V, hV⟩ : ∃ V, V = xtn b i := ⟨_, rfl⟩
      obtain ⟨U, hU⟩ : ∃ U, U = accT a b i := ⟨_, rfl⟩
      obtain ⟨O, hO⟩ : ∃ O, O = accT a b (i + 1) := ⟨_, rfl⟩
      have hVO : xtn b (i + 1) = xt 128 135 V ∧ accT a b (i + 1) = O := ⟨by rw [hV]; rfl, hO.symm⟩
      have hOU : O = U ^^^ sel (a.testBit i) V := by rw [hO, hU, hV]; rfl
      rw [← hV, ← hU] at hS
      have HVO := Lib.hid hVO
      clear hVO hV hU hO
      rcases Nat.lt_or_ge (coef a i) 1 with hc | hc
      · have e0 : coef a i = 0 := by omega
        have hn : a.testBit i = false := by
          cases h : a.testBit i with
          | false => rfl
          | true => exact absurd ((coef_one a i).2 h) (by omega)
        have hO2 : O = U := by rw [hOU, hn]; exact Nat.xor_zero _
        rw [← hO2] at hS
        rw [e0] at hcA
        have hN := hS
        clear hS hc e0 hn hO2 hOU
        have h3 := Tm.more hN
        obtain ⟨g, hg⟩ : ∃ g, g = wr.heap.size := ⟨_, rfl⟩
        rw [← hg] at h3
        have hg' : wr.heap.size = g := hg.symm
        have H3 := Lib.hid h3
        clear hN h3 hg
        go_wp2
        go_loopw [9] (fun x wr => ∃ k : Nat, 1 ≤ k ∧ k ≤ 128 ∧ x = .int .i64 (k : Nat) ∧ Tx w a (polyL V) (polyL O) g (stepF (upOne V) (fun _ => 0) 128 k) wr) (fun x _ => 128 - (intOf x).toNat)
        case atStart => exact ⟨1, Nat.le_refl _, by decide, rfl, by rw [upOne_start]; exact H3.out⟩
        case round =>
          obtain ⟨k, hk1, hk, rfl, hT⟩ := hrel
          by_cases hkl : k < 128
          · obtain ⟨m, hm⟩ : ∃ m, m = k - 1 := ⟨_, rfl⟩
            have hst := hT.step k (upOne V k)
            rw [stepF_next] at hst
            have hcB := hT.tm.hB.cell (polyL_get V m (by omega))
            have hcX := hT.hX.cell (stepF_get (upOne V) (fun _ => 0) 128 k k hkl)
            have hfX := hT.hX.frozen k
            have hu : upOne V k = coef V m := by rw [upOne, if_neg (by omega), hm]
            rw [hu] at hst
            obtain ⟨d, hd⟩ : ∃ d, d = coef V m := ⟨_, rfl⟩
            rw [← hd] at hst hcB
            have q1 : (k : Int) - 1 = (m : Int) := by omega
            have q2 : (m : Int) < 128 := by omega
            have q3 : (k : Int) < 128 := by omega
            have HST := Lib.hid hst; clear hst
            have HT := Lib.hid hT; clear hT hu hd hm
            go_wp2
            go_roundw
            case rel => exact ⟨k + 1, by omega, by omega, by go_num, HST.out⟩
            case measure => simp [intOf]; omega
          · obtain rfl : k = 128 := by omega
            rw [stepF_all] at hT
            have hcB := hT.tm.hB.cell (polyL_get V 127 (by decide))
            rcases Nat.lt_or_ge (coef V 127) 1 with hc | hc
            · have e0 : coef V 127 = 0 := by omega
              rw [upOne_none V e0] at hT
              rw [e0] at hcB
              have st := storeOld wr (w.heap.size + 1) 26 (valsK .u8 (polyL V)) (valsK .u8 (polyL (xt 128 135 V))) hT.tm.hB (by rw [valsK_size, valsK_size, polyL_length, polyL_length]) (valsK_one _ _)
              have hN2 := hT.tm.put (polyL (xt 128 135 V))
              have HN2 := Lib.hid hN2; clear hN2
              have HT := Lib.hid hT; clear hT hc e0
              go_wp2
              refine wp_load_row 26 _ rfl g rfl 26 _ (0, 0) _ HT.out.hX under128u rfl (by rw [valsK_size, polyL_length]; exact zero128u.2) ?_
              simp only [Act.put, List.setIfInBounds_toArray, List.set_cons_zero, List.set_cons_succ]
              go_wp2
              go_roundw
              case rel => exact ⟨i + 1, by omega, by go_num, by rw [HVO.out.1, HVO.out.2]; exact HN2.out⟩
              case measure => simp [intOf]; omega
            · have e1 : coef V 127 = 1 := by have := coef_lt V 127; omega
              rw [e1] at hcB
              have hfour := upOne_four V e1
              have u1 := allF_get (upOne V) 128 1 (by decide)
              have u2 := allF_get (upOne V) 128 2 (by decide)
              have u7 := allF_get (upOne V) 128 7 (by decide)
              rw [show upOne V 1 = coef V 0 from rfl] at u1
              rw [show upOne V 2 = coef V 1 from rfl] at u2
              rw [show upOne V 7 = coef V 6 from rfl] at u7
              have l0 := coef_lt V 0
              have l1 := coef_lt V 1
              have l6 := coef_lt V 6
              obtain ⟨d0, hd0⟩ : ∃ d, d = coef V 0 := ⟨_, rfl⟩
              obtain ⟨d1, hd1⟩ : ∃ d, d = coef V 1 := ⟨_, rfl⟩
              obtain ⟨d6, hd6⟩ : ∃ d, d = coef V 6 := ⟨_, rfl⟩
              rw [← hd0] at l0 u1 hfour
              rw [← hd1] at l1 u2 hfour
              rw [← hd6] at l6 u7 hfour
              obtain ⟨L, hL⟩ : ∃ L, L = allF (upOne V) 128 := ⟨_, rfl⟩
              have u0 : L[0]? = some (upOne V 0) := by rw [hL]; exact allF_get (upOne V) 128 0 (by decide)
              rw [← hL] at hT hfour u1 u2 u7
              have x0 := u8_xor_nat d0 1 (by omega) (by decide)
              have x1 := u8_xor_nat d1 1 (by omega) (by decide)
              have x6 := u8_xor_nat d6 1 (by omega) (by decide)
              obtain ⟨n0, hn0⟩ : ∃ n, n = d0 ^^^ 1 := ⟨_, rfl⟩
              obtain ⟨n1, hn1⟩ : ∃ n, n = d1 ^^^ 1 := ⟨_, rfl⟩
              obtain ⟨n6, hn6⟩ : ∃ n, n = d6 ^^^ 1 := ⟨_, rfl⟩
              rw [← hn0] at x0 hfour
              rw [← hn1] at x1 hfour
              rw [← hn6] at x6 hfour
              have y0 : bits .xor .u8 (d0 : Int) 1 = (n0 : Int) := x0
              have y1 : bits .xor .u8 (d1 : Int) 1 = (n1 : Int) := x1
              have y6 : bits .xor .u8 (d6 : Int) 1 = (n6 : Int) := x6
              clear x0 x1 x6 hn0 hn1 hn6 hd0 hd1 hd6
              have a0 := hT.hX.cell u0
              have f0 := hT.hX.frozen 0
              have T0 : Tx w a (polyL V) (polyL O) g (L.set 0 1) (wr.setCell ⟨g, 0, none⟩ (.int .u8 1)) := hT.step 0 1
              obtain ⟨W0, hW0⟩ : ∃ W0, wr.setCell ⟨g, 0, none⟩ (.int .u8 1) = W0 := ⟨_, rfl⟩
              rw [hW0] at T0
              have a1 := T0.hX.cell (j := 1) (x := d0) (by rw [List.getElem?_set_ne (by decide)]; exact u1)
              have f1 := T0.hX.frozen 1
              have T1 := T0.step 1 n0
              obtain ⟨W1, hW1⟩ : ∃ W1, W0.setCell ⟨g, 1, none⟩ (.int .u8 (n0 : Nat)) = W1 := ⟨_, rfl⟩
              rw [hW1] at T1
              have a2 := T1.hX.cell (j := 2) (x := d1) (by rw [List.getElem?_set_ne (by decide), List.getElem?_set_ne (by decide)]; exact u2)
              have f2 := T1.hX.frozen 2
              have T2 := T1.step 2 n1
              obtain ⟨W2, hW2⟩ : ∃ W2, W1.setCell ⟨g, 2, none⟩ (.int .u8 (n1 : Nat)) = W2 := ⟨_, rfl⟩
              rw [hW2] at T2
              have a7 := T2.hX.cell (j := 7) (x := d6) (by rw [List.getElem?_set_ne (by decide), List.getElem?_set_ne (by decide), List.getElem?_set_ne (by decide)]; exact u7)
              have f7 := T2.hX.frozen 7
              have T7 := T2.step 7 n6
              obtain ⟨W7, hW7⟩ : ∃ W7, W2.setCell ⟨g, 7, none⟩ (.int .u8 (n6 : Nat)) = W7 := ⟨_, rfl⟩
              rw [hW7, hfour] at T7
              have st := storeOld W7 (w.heap.size + 1) 26 (valsK .u8 (polyL V)) (valsK .u8 (polyL (xt 128 135 V))) T7.tm.hB (by rw [valsK_size, valsK_size, polyL_length, polyL_length]) (valsK_one _ _)
              have hN2 := T7.tm.put (polyL (xt 128 135 V))
              have HN2 := Lib.hid hN2; clear hN2
              have HT := Lib.hid T7
              clear hT T0 T1 T2 T7 hfour u0 u1 u2 u7 hL hc e1 l0 l1 l6
              go_wp2
              refine wp_load_row 26 _ rfl g rfl 26 _ (0, 0) _ HT.out.hX under128u rfl (by rw [valsK_size, polyL_length]; exact zero128u.2) ?_
              simp only [Act.put, List.setIfInBounds_toArray, List.set_cons_zero, List.set_cons_succ]
              go_wp2
              go_roundw
              case rel => exact ⟨i + 1, by omega, by go_num, by rw [HVO.out.1, HVO.out.2]; exact HN2.out⟩
              case measure => simp [intOf]; omega
      · have e1 : coef a i = 1 := by have := coef_lt a i; omega
        have hOV : ∀ j, coef O j = coef U j ^^^ coef V j := fun j => by rw [hOU, (coef_one a i).1 e1, ← coef_xor]; rfl
        rw [e1] at hcA
        have HOV := Lib.hid hOV
        have hS0 : Tm w a (polyL V) (stepF (coef O) (coef U) 128 0) wr := by rw [stepF_zero]; exact hS
        have HS0 := Lib.hid hS0
        clear hOV hS0 hS hc e1 hOU
        go_wp2
        go_loopw [7] (fun x wr => ∃ k : Nat, k ≤ 128 ∧ x = .int .i64 (k : Nat) ∧ Tm w a (polyL V) (stepF (coef O) (coef U) 128 k) wr) (fun x _ => 128 - (intOf x).toNat)
        case atStart => exact ⟨0, Nat.zero_le _, rfl, HS0.out⟩
        case round =>
          obtain ⟨k, hk, rfl, hT⟩ := hrel
          by_cases hkl : k < 128
          · have hst := hT.stepO k (coef O k)
            rw [stepF_next] at hst
            have hcB := hT.hB.cell (polyL_get V k hkl)
            have hcO := hT.hO.cell (stepF_get (coef O) (coef U) 128 k k hkl)
            rw [if_neg (Nat.lt_irrefl _)] at hcO
            have hfO := hT.hO.frozen k
            have hx := u8_xor_nat (coef U k) (coef V k) (by have := coef_lt U k; omega) (by have := coef_lt V k; omega)
            rw [← HOV.out k] at hx
            obtain ⟨u, hu⟩ : ∃ u, u = coef U k := ⟨_, rfl⟩
            obtain ⟨v, hv⟩ : ∃ v, v = coef V k := ⟨_, rfl⟩
            obtain ⟨o, ho⟩ : ∃ o, o = coef O k := ⟨_, rfl⟩
            rw [← hu] at hcO hx
            rw [← hv] at hcB hx
            rw [← ho] at hst hx
            have q3 : (k : Int) < 128 := by omega
            have HST := Lib.hid hst; clear hst
            clear hT hu hv ho hz hne
            go_wp2
            go_region
            all_goals (go_wp2; go_roundw)
            all_goals first
              | exact ⟨k + 1, by omega, by go_num, HST.out.drew⟩
              | (simp [intOf]; omega)
          · obtain rfl : k = 128 := by omega
            rw [stepF_all] at hT
            have hN : Tm w a (polyL V) (polyL O) wr := hT
            clear hT
            have h3 := Tm.more hN
            obtain ⟨g, hg⟩ : ∃ g, g = wr.heap.size := ⟨_, rfl⟩
            rw [← hg] at h3
            have hg' : wr.heap.size = g := hg.symm
            have H3 := Lib.hid h3
            clear hN h3 hg
            go_wp2
            go_loopw [9] (fun x wr => ∃ k : Nat, 1 ≤ k ∧ k ≤ 128 ∧ x = .int .i64 (k : Nat) ∧ Tx w a (polyL V) (polyL O) g (stepF (upOne V) (fun _ => 0) 128 k) wr) (fun x _ => 128 - (intOf x).toNat)
            case atStart => exact ⟨1, Nat.le_refl _, by decide, rfl, by rw [upOne_start]; exact H3.out⟩
            case round =>
              obtain ⟨k, hk1, hk, rfl, hT⟩ := hrel
              by_cases hkl : k < 128
              · obtain ⟨m, hm⟩ : ∃ m, m = k - 1 := ⟨_, rfl⟩
                have hst := hT.step k (upOne V k)
                rw [stepF_next] at hst
                have hcB := hT.tm.hB.cell (polyL_get V m (by omega))
                have hcX := hT.hX.cell (stepF_get (upOne V) (fun _ => 0) 128 k k hkl)
                have hfX := hT.hX.frozen k
                have hu : upOne V k = coef V m := by rw [upOne, if_neg (by omega), hm]
                rw [hu] at hst
                obtain ⟨d, hd⟩ : ∃ d, d = coef V m := ⟨_, rfl⟩
                rw [← hd] at hst hcB
                have q1 : (k : Int) - 1 = (m : Int) := by omega
                have q2 : (m : Int) < 128 := by omega
                have q3 : (k : Int) < 128 := by omega
                have HST := Lib.hid hst; clear hst
                have HT := Lib.hid hT; clear hT hu hd hm
                go_wp2
                go_roundw
                case rel => exact ⟨k + 1, by omega, by omega, by go_num, HST.out⟩
                case measure => simp [intOf]; omega
              · obtain rfl : k = 128 := by omega
                rw [stepF_all] at hT
                have hcB := hT.tm.hB.cell (polyL_get V 127 (by decide))
                rcases Nat.lt_or_ge (coef V 127) 1 with hc | hc
                · have e0 : coef V 127 = 0 := by omega
                  rw [upOne_none V e0] at hT
                  rw [e0] at hcB
                  have st := storeOld wr (w.heap.size + 1) 26 (valsK .u8 (polyL V)) (valsK .u8 (polyL (xt 128 135 V))) hT.tm.hB (by rw [valsK_size, valsK_size, polyL_length, polyL_length]) (valsK_one _ _)
                  have hN2 := hT.tm.put (polyL (xt 128 135 V))
                  have HN2 := Lib.hid hN2; clear hN2
                  have HT := Lib.hid hT; clear hT hc e0
                  go_wp2
                  refine wp_load_row 26 _ rfl g rfl 26 _ (0, 0) _ HT.out.hX under128u rfl (by rw [valsK_size, polyL_length]; exact zero128u.2) ?_
                  simp only [Act.put, List.setIfInBounds_toArray, List.set_cons_zero, List.set_cons_succ]
                  go_wp2
                  go_roundw
                  case rel => exact ⟨i + 1, by omega, by go_num, by rw [HVO.out.1, HVO.out.2]; exact HN2.out⟩
                  case measure => simp [intOf]; omega
                · have e1 : coef V 127 = 1 := by have := coef_lt V 127; omega
                  rw [e1] at hcB
                  have hfour := upOne_four V e1
                  have u1 := allF_get (upOne V) 128 1 (by decide)
                  have u2 := allF_get (upOne V) 128 2 (by decide)
                  have u7 := allF_get (upOne V) 128 7 (by decide)
                  rw [show upOne V 1 = coef V 0 from rfl] at u1
                  rw [show upOne V 2 = coef V 1 from rfl] at u2
                  rw [show upOne V 7 = coef V 6 from rfl] at u7
                  have l0 := coef_lt V 0
                  have l1 := coef_lt V 1
                  have l6 := coef_lt V 6
                  obtain ⟨d0, hd0⟩ : ∃ d, d = coef V 0 := ⟨_, rfl⟩
                  obtain ⟨d1, hd1⟩ : ∃ d, d = coef V 1 := ⟨_, rfl⟩
                  obtain ⟨d6, hd6⟩ : ∃ d, d = coef V 6 := ⟨_, rfl⟩
                  rw [← hd0] at l0 u1 hfour
                  rw [← hd1] at l1 u2 hfour
                  rw [← hd6] at l6 u7 hfour
                  obtain ⟨L, hL⟩ : ∃ L, L = allF (upOne V) 128 := ⟨_, rfl⟩
                  have u0 : L[0]? = some (upOne V 0) := by rw [hL]; exact allF_get (upOne V) 128 0 (by decide)
                  rw [← hL] at hT hfour u1 u2 u7
                  have x0 := u8_xor_nat d0 1 (by omega) (by decide)
                  have x1 := u8_xor_nat d1 1 (by omega) (by decide)
                  have x6 := u8_xor_nat d6 1 (by omega) (by decide)
                  obtain ⟨n0, hn0⟩ : ∃ n, n = d0 ^^^ 1 := ⟨_, rfl⟩
                  obtain ⟨n1, hn1⟩ : ∃ n, n = d1 ^^^ 1 := ⟨_, rfl⟩
                  obtain ⟨n6, hn6⟩ : ∃ n, n = d6 ^^^ 1 := ⟨_, rfl⟩
                  rw [← hn0] at x0 hfour
                  rw [← hn1] at x1 hfour
                  rw [← hn6] at x6 hfour
                  have y0 : bits .xor .u8 (d0 : Int) 1 = (n0 : Int) := x0
                  have y1 : bits .xor .u8 (d1 : Int) 1 = (n1 : Int) := x1
                  have y6 : bits .xor .u8 (d6 : Int) 1 = (n6 : Int) := x6
                  clear x0 x1 x6 hn0 hn1 hn6 hd0 hd1 hd6
                  have a0 := hT.hX.cell u0
                  have f0 := hT.hX.frozen 0
                  have T0 : Tx w a (polyL V) (polyL O) g (L.set 0 1) (wr.setCell ⟨g, 0, none⟩ (.int .u8 1)) := hT.step 0 1
                  obtain ⟨W0, hW0⟩ : ∃ W0, wr.setCell ⟨g, 0, none⟩ (.int .u8 1) = W0 := ⟨_, rfl⟩
                  rw [hW0] at T0
                  have a1 := T0.hX.cell (j := 1) (x := d0) (by rw [List.getElem?_set_ne (by decide)]; exact u1)
                  have f1 := T0.hX.frozen 1
                  have T1 := T0.step 1 n0
                  obtain ⟨W1, hW1⟩ : ∃ W1, W0.setCell ⟨g, 1, none⟩ (.int .u8 (n0 : Nat)) = W1 := ⟨_, rfl⟩
                  rw [hW1] at T1
                  have a2 := T1.hX.cell (j := 2) (x := d1) (by rw [List.getElem?_set_ne (by decide), List.getElem?_set_ne (by decide)]; exact u2)
                  have f2 := T1.hX.frozen 2
                  have T2 := T1.step 2 n1
                  obtain ⟨W2, hW2⟩ : ∃ W2, W1.setCell ⟨g, 2, none⟩ (.int .u8 (n1 : Nat)) = W2 := ⟨_, rfl⟩
                  rw [hW2] at T2
                  have a7 := T2.hX.cell (j := 7) (x := d6) (by rw [List.getElem?_set_ne (by decide), List.getElem?_set_ne (by decide), List.getElem?_set_ne (by decide)]; exact u7)
                  have f7 := T2.hX.frozen 7
                  have T7 := T2.step 7 n6
                  obtain ⟨W7, hW7⟩ : ∃ W7, W2.setCell ⟨g, 7, none⟩ (.int .u8 (n6 : Nat)) = W7 := ⟨_, rfl⟩
                  rw [hW7, hfour] at T7
                  have st := storeOld W7 (w.heap.size + 1) 26 (valsK .u8 (polyL V)) (valsK .u8 (polyL (xt 128 135 V))) T7.tm.hB (by rw [valsK_size, valsK_size, polyL_length, polyL_length]) (valsK_one _ _)
                  have hN2 := T7.tm.put (polyL (xt 128 135 V))
                  have HN2 := Lib.hid hN2; clear hN2
                  have HT := Lib.hid T7
                  clear hT T0 T1 T2 T7 hfour u0 u1 u2 u7 hL hc e1 l0 l1 l6
                  go_wp2
                  refine wp_load_row 26 _ rfl g rfl 26 _ (0, 0) _ HT.out.hX under128u rfl (by rw [valsK_size, polyL_length]; exact zero128u.2) ?_
                  simp only [Act.put, List.setIfInBounds_toArray, List.set_cons_zero, List.set_cons_succ]
                  go_wp2
                  go_roundw
                  case rel => exact ⟨i + 1, by omega, by go_num, by rw [HVO.out.1, HVO.out.2]; exact HN2.out⟩
                  case measure => simp [intOf]; omega
    · obtain rfl : i = 128 := by omega
      have st := storeOld wr (w.heap.size + 1 + 1) 26 (valsK .u8 (zerosN 128)) (valsK .u8 (polyL (accT a b 128))) hS.hR (by rw [valsK_size, valsK_size, polyL_length]; rfl) (valsK_one _ _)
      have HQ := Lib.hid hS; clear hS
      go_wp2
      refine wp_load_row 26 _ rfl (w.heap.size + 1 + 1 + 1) rfl 26 _ (0, 0) _ HQ.out.hO under128u rfl (by rw [valsK_size, polyL_length]; exact zero128u.2) ?_
      simp only [Act.put, List.setIfInBounds_toArray, List.set_cons_zero, List.set_cons_succ]
      go_wp2
      refine bodyPost_ret (results_cell_row rfl _ _ (w.heap.size + 1 + 1) 26 (valsK .u8 (polyL (accT a b 128))) (0, 0) _ rfl (setRow_heap _ _ _ _ _ _ HQ.out.hR) under128u rfl (by rw [valsK_size, polyL_length]; exact zero128u.2)) rfl ⟨rfl, below_setRow HQ.out.below (by omega) _⟩

end Gcm
end Go.Proofs.Ytpjobjpdfhpobaa
