/-
  For every text and every kind CrcSums returns true: both sums are the reference's, as numbers and as bytes, and Size is the number of bytes. Conditions: none.
-/
import Derived.Test.YtgknkkhjlocokaaSpell
namespace Go.Proofs.Ytgknkkhjlocokaa
open Go.ChangeShapes Go.WideShapes Go.ChangeAt Go.RowKit Go.ChangeMaps
open Crc
set_option linter.unusedVariables false

theorem sumB_size_1 (b : ByteArray) : (sumB 1 b).size = 2 := by
  rw [sumB_1]
  show (digits (x25 b) 2).toArray.size = 2
  rw [List.size_toArray, digits_length]
theorem sumB_size_2 (b : ByteArray) : (sumB 2 b).size = 4 := by
  rw [sumB_2]
  show (digits (cast b) 4).toArray.size = 4
  rw [List.size_toArray, digits_length]
theorem sumB_size_no (k : Int) (b : ByteArray) (h1 : k ≠ 1) (h2 : k ≠ 2) : (sumB k b).size = 0 := by rw [sumB_no k b h1 h2]; rfl

set_option maxHeartbeats 2000000 in
theorem sums_0 (b : ByteArray) (w : World) (h : b.size ≤ 1000) :
    Calls Try.prog 3 #[.string b, .int .i64 0] w fun e w' => e = .returned (.bool true) ∧ Below w.heap.size w w' := by
  have hm : b.size ≤ maxLen := by unfold maxLen; omega
  have g0 : decide (1000 < (b.size : Int)) = false := by simp; omega
  have hwx : IntKind.u64.wrap (x25 b : Int) = (x25 b : Int) := by have := x25_lt b; rw [IntKind.wrap_u64]; omega
  have hwy : IntKind.u64.wrap (cast b : Int) = (cast b : Int) := by have := cast_lt b; rw [IntKind.wrap_u64]; omega
  have HM := Lib.hid hm; clear hm
  have hsz : ((sumB 0 b).size : Int) = 0 := by rw [sumB_size_no 0 b (by decide) (by decide)]; rfl
  have hso : sizeOf' 0 = 0 := by rfl
  have HSO := Lib.hid hso; clear hso
  generalize hS : sumB 0 b = S at hsz
  have HS := Lib.hid hS; clear hS
  go_enter Try.func3, Try.ntmps3
  go_wp2_with fail
  refine (awake_any _).mono ?_
  rintro e w1 ⟨rfl, rfl⟩
  go_wp2_with fail
  refine (sum_any 0 b _ HM.out).mono ?_
  rw [HS.out]
  rintro e w2 ⟨rfl, hb2⟩
  go_wp2_with fail
  refine (x25_any b _ HM.out).mono ?_
  rintro e w3 ⟨rfl, rfl⟩
  go_wp2_with fail
  refine (ref16_any b _ HM.out).mono ?_
  rintro e w4 ⟨rfl, hb4⟩
  go_wp2_with fail
  refine (cast_any b _ HM.out).mono ?_
  rintro e w5 ⟨rfl, rfl⟩
  go_wp2_with fail
  refine (ref32_any b _ HM.out).mono ?_
  rintro e w6 ⟨rfl, hb6⟩
  go_wp2_with fail
  refine (bytes_any 0 b _ HM.out).mono ?_
  rw [HS.out]
  rintro e w7 ⟨rfl, hb7⟩
  go_wp2_with fail
  refine (size_any 0 _).mono ?_
  rw [HSO.out]
  rintro e w8 ⟨rfl, rfl⟩
  go_wp2
  go_ret
  exact ⟨rfl, below_chain (below_chain (below_chain hb2 hb4) hb6) hb7⟩

set_option maxHeartbeats 2000000 in
theorem sums_1 (b : ByteArray) (w : World) (h : b.size ≤ 1000) :
    Calls Try.prog 3 #[.string b, .int .i64 1] w fun e w' => e = .returned (.bool true) ∧ Below w.heap.size w w' := by
  have hm : b.size ≤ maxLen := by unfold maxLen; omega
  have g0 : decide (1000 < (b.size : Int)) = false := by simp; omega
  have hwx : IntKind.u64.wrap (x25 b : Int) = (x25 b : Int) := by have := x25_lt b; rw [IntKind.wrap_u64]; omega
  have hwy : IntKind.u64.wrap (cast b : Int) = (cast b : Int) := by have := cast_lt b; rw [IntKind.wrap_u64]; omega
  have HM := Lib.hid hm; clear hm
  have hsz : ((sumB 1 b).size : Int) = 2 := by rw [sumB_size_1 b]; rfl
  have hso : sizeOf' 1 = 2 := by rfl
  have HSO := Lib.hid hso; clear hso
  generalize hS : sumB 1 b = S at hsz
  have HS := Lib.hid hS; clear hS
  go_enter Try.func3, Try.ntmps3
  go_wp2_with fail
  refine (awake_any _).mono ?_
  rintro e w1 ⟨rfl, rfl⟩
  go_wp2_with fail
  refine (sum_any 1 b _ HM.out).mono ?_
  rw [HS.out]
  rintro e w2 ⟨rfl, hb2⟩
  go_wp2_with fail
  refine (x25_any b _ HM.out).mono ?_
  rintro e w3 ⟨rfl, rfl⟩
  go_wp2_with fail
  refine (ref16_any b _ HM.out).mono ?_
  rintro e w4 ⟨rfl, hb4⟩
  go_wp2_with fail
  refine (cast_any b _ HM.out).mono ?_
  rintro e w5 ⟨rfl, rfl⟩
  go_wp2_with fail
  refine (ref32_any b _ HM.out).mono ?_
  rintro e w6 ⟨rfl, hb6⟩
  go_wp2_with fail
  refine (bytes_any 1 b _ HM.out).mono ?_
  rw [HS.out]
  rintro e w7 ⟨rfl, hb7⟩
  go_wp2_with fail
  refine (size_any 1 _).mono ?_
  rw [HSO.out]
  rintro e w8 ⟨rfl, rfl⟩
  go_wp2
  go_ret
  exact ⟨rfl, below_chain (below_chain (below_chain hb2 hb4) hb6) hb7⟩

set_option maxHeartbeats 2000000 in
theorem sums_2 (b : ByteArray) (w : World) (h : b.size ≤ 1000) :
    Calls Try.prog 3 #[.string b, .int .i64 2] w fun e w' => e = .returned (.bool true) ∧ Below w.heap.size w w' := by
  have hm : b.size ≤ maxLen := by unfold maxLen; omega
  have g0 : decide (1000 < (b.size : Int)) = false := by simp; omega
  have hwx : IntKind.u64.wrap (x25 b : Int) = (x25 b : Int) := by have := x25_lt b; rw [IntKind.wrap_u64]; omega
  have hwy : IntKind.u64.wrap (cast b : Int) = (cast b : Int) := by have := cast_lt b; rw [IntKind.wrap_u64]; omega
  have HM := Lib.hid hm; clear hm
  have hsz : ((sumB 2 b).size : Int) = 4 := by rw [sumB_size_2 b]; rfl
  have hso : sizeOf' 2 = 4 := by rfl
  have HSO := Lib.hid hso; clear hso
  generalize hS : sumB 2 b = S at hsz
  have HS := Lib.hid hS; clear hS
  go_enter Try.func3, Try.ntmps3
  go_wp2_with fail
  refine (awake_any _).mono ?_
  rintro e w1 ⟨rfl, rfl⟩
  go_wp2_with fail
  refine (sum_any 2 b _ HM.out).mono ?_
  rw [HS.out]
  rintro e w2 ⟨rfl, hb2⟩
  go_wp2_with fail
  refine (x25_any b _ HM.out).mono ?_
  rintro e w3 ⟨rfl, rfl⟩
  go_wp2_with fail
  refine (ref16_any b _ HM.out).mono ?_
  rintro e w4 ⟨rfl, hb4⟩
  go_wp2_with fail
  refine (cast_any b _ HM.out).mono ?_
  rintro e w5 ⟨rfl, rfl⟩
  go_wp2_with fail
  refine (ref32_any b _ HM.out).mono ?_
  rintro e w6 ⟨rfl, hb6⟩
  go_wp2_with fail
  refine (bytes_any 2 b _ HM.out).mono ?_
  rw [HS.out]
  rintro e w7 ⟨rfl, hb7⟩
  go_wp2_with fail
  refine (size_any 2 _).mono ?_
  rw [HSO.out]
  rintro e w8 ⟨rfl, rfl⟩
  go_wp2
  go_ret
  exact ⟨rfl, below_chain (below_chain (below_chain hb2 hb4) hb6) hb7⟩

set_option maxHeartbeats 2000000 in
theorem sums_low (k : Int) (b : ByteArray) (w : World) (h : b.size ≤ 1000) (hk : k < 0) :
    Calls Try.prog 3 #[.string b, .int .i64 k] w fun e w' => e = .returned (.bool true) ∧ Below w.heap.size w w' := by
  have hm : b.size ≤ maxLen := by unfold maxLen; omega
  have g0 : decide (1000 < (b.size : Int)) = false := by simp; omega
  have hwx : IntKind.u64.wrap (x25 b : Int) = (x25 b : Int) := by have := x25_lt b; rw [IntKind.wrap_u64]; omega
  have hwy : IntKind.u64.wrap (cast b : Int) = (cast b : Int) := by have := cast_lt b; rw [IntKind.wrap_u64]; omega
  have HM := Lib.hid hm; clear hm
  have hsz : ((sumB k b).size : Int) = 0 := by rw [sumB_size_no k b (by omega) (by omega)]; rfl
  have hso : sizeOf' k = -1 := by unfold sizeOf'; rw [if_neg (by omega), if_neg (by omega), if_neg (by omega)]
  have HSO := Lib.hid hso; clear hso
  have g1 : decide (0 ≤ k) = false := by simp; omega
  generalize hS : sumB k b = S at hsz
  have HS := Lib.hid hS; clear hS
  go_enter Try.func3, Try.ntmps3
  go_wp2_with fail
  refine (awake_any _).mono ?_
  rintro e w1 ⟨rfl, rfl⟩
  go_wp2_with fail
  refine (sum_any k b _ HM.out).mono ?_
  rw [HS.out]
  rintro e w2 ⟨rfl, hb2⟩
  go_wp2_with fail
  refine (x25_any b _ HM.out).mono ?_
  rintro e w3 ⟨rfl, rfl⟩
  go_wp2_with fail
  refine (ref16_any b _ HM.out).mono ?_
  rintro e w4 ⟨rfl, hb4⟩
  go_wp2_with fail
  refine (cast_any b _ HM.out).mono ?_
  rintro e w5 ⟨rfl, rfl⟩
  go_wp2_with fail
  refine (ref32_any b _ HM.out).mono ?_
  rintro e w6 ⟨rfl, hb6⟩
  go_wp2_with fail
  refine (bytes_any k b _ HM.out).mono ?_
  rw [HS.out]
  rintro e w7 ⟨rfl, hb7⟩
  go_wp2_with fail
  refine (size_any k _).mono ?_
  rw [HSO.out]
  rintro e w8 ⟨rfl, rfl⟩
  go_wp2
  go_ret
  exact ⟨rfl, below_chain (below_chain (below_chain hb2 hb4) hb6) hb7⟩

set_option maxHeartbeats 2000000 in
theorem sums_high (k : Int) (b : ByteArray) (w : World) (h : b.size ≤ 1000) (hk : 2 < k) :
    Calls Try.prog 3 #[.string b, .int .i64 k] w fun e w' => e = .returned (.bool true) ∧ Below w.heap.size w w' := by
  have hm : b.size ≤ maxLen := by unfold maxLen; omega
  have g0 : decide (1000 < (b.size : Int)) = false := by simp; omega
  have hwx : IntKind.u64.wrap (x25 b : Int) = (x25 b : Int) := by have := x25_lt b; rw [IntKind.wrap_u64]; omega
  have hwy : IntKind.u64.wrap (cast b : Int) = (cast b : Int) := by have := cast_lt b; rw [IntKind.wrap_u64]; omega
  have HM := Lib.hid hm; clear hm
  have hsz : ((sumB k b).size : Int) = 0 := by rw [sumB_size_no k b (by omega) (by omega)]; rfl
  have hso : sizeOf' k = -1 := by unfold sizeOf'; rw [if_neg (by omega), if_neg (by omega), if_neg (by omega)]
  have HSO := Lib.hid hso; clear hso
  have g1 : decide (0 ≤ k) = true := by simp; omega
  have g2 : decide (k ≤ 2) = false := by simp; omega
  generalize hS : sumB k b = S at hsz
  have HS := Lib.hid hS; clear hS
  go_enter Try.func3, Try.ntmps3
  go_wp2_with fail
  refine (awake_any _).mono ?_
  rintro e w1 ⟨rfl, rfl⟩
  go_wp2_with fail
  refine (sum_any k b _ HM.out).mono ?_
  rw [HS.out]
  rintro e w2 ⟨rfl, hb2⟩
  go_wp2_with fail
  refine (x25_any b _ HM.out).mono ?_
  rintro e w3 ⟨rfl, rfl⟩
  go_wp2_with fail
  refine (ref16_any b _ HM.out).mono ?_
  rintro e w4 ⟨rfl, hb4⟩
  go_wp2_with fail
  refine (cast_any b _ HM.out).mono ?_
  rintro e w5 ⟨rfl, rfl⟩
  go_wp2_with fail
  refine (ref32_any b _ HM.out).mono ?_
  rintro e w6 ⟨rfl, hb6⟩
  go_wp2_with fail
  refine (bytes_any k b _ HM.out).mono ?_
  rw [HS.out]
  rintro e w7 ⟨rfl, hb7⟩
  go_wp2_with fail
  refine (size_any k _).mono ?_
  rw [HSO.out]
  rintro e w8 ⟨rfl, rfl⟩
  go_wp2
  go_ret
  exact ⟨rfl, below_chain (below_chain (below_chain hb2 hb4) hb6) hb7⟩

set_option maxHeartbeats 1000000 in
theorem sums_all (b : ByteArray) (k : Int) (w : World) :
    Calls Try.prog 3 #[.string b, .int .i64 k] w fun e w' => e = .returned (.bool true) ∧ Below w.heap.size w w' := by
  by_cases h1 : 1000 < b.size
  · have g1 : decide (1000 < (b.size : Int)) = true := by simp; omega
    go_enter Try.func3, Try.ntmps3
    go_wp2_with fail
    refine (awake_any _).mono ?_
    rintro e w1 ⟨rfl, rfl⟩
    go_wp2_with fail
    refine (awake_any _).mono ?_
    rintro e w2 ⟨rfl, rfl⟩
    go_wp2
    go_ret
    exact ⟨rfl, Below.refl _ _⟩
  have h : b.size ≤ 1000 := by omega
  rcases (show k < 0 ∨ k = 0 ∨ k = 1 ∨ k = 2 ∨ 2 < k by omega) with hk | rfl | rfl | rfl | hk
  · exact sums_low k b w h hk
  · exact sums_0 b w h
  · exact sums_1 b w h
  · exact sums_2 b w h
  · exact sums_high k b w h hk

set_option maxRecDepth 100000 in
theorem sums_lifted (os : Os) (started : os.Started) (H : Type) (enc : TypeId × Value → H) :
    ReturnsInHanded {} Try.checked os 3 .any (Rows.crcSumsSpec.pre6 enc Try.prog Try.f3 Rows.crcSumsRow.domain false) (Rows.crcSumsSpec.post enc Try.prog Try.f3 false true false false) := by
  refine returnsInHanded_of_change (C := Try.checked) own started (by kernel_rfl) Try.func3
    (ChangeSpec.witness6 (enc := enc) (C := Try.checked) false ⟨#[], #[.string ⟨#[]⟩, .int .i64 0], []⟩ 8 (by kernel_rfl) (by kernel_rfl) (by kernel_rfl) (by kernel_rfl)) ?_
  intro W base args ds gs before hval0 hW hcnd _
  have hval : ∀ (j : Nat) t v, Try.f3.params[j]? = some t → args[j]? = some v → Value.okWide Try.prog W .any base t v := hval0
  have hW' := hW
  obtain ⟨p, q, hA0, hV, rfl, hfz, hnd⟩ := hW
  have hA : DataW.TrodAll enc Try.prog W 0 (fun _ => true) true Try.f3.params.toList args.toList ds p := hA0
  rw [Try.params3] at hA hval
  obtain ⟨v0, vs0, d0, ds0, p0, q0, hargs, rfl, rfl, h0, r0⟩ := trodAll_cons hA
  obtain ⟨v1, vs1, d1, ds1, p1, q1, rfl, rfl, rfl, h1, r1⟩ := trodAll_cons r0
  obtain ⟨rfl, rfl, rfl⟩ := trodAll_nil r1
  obtain rfl : args = #[v0, v1] := by cases args; simp_all
  obtain ⟨rfl, rfl⟩ := trodVars_none hV
  obtain ⟨s0, rfl, rfl, rfl, hs0⟩ := open_string Try.underlying9 (hval 0 9 v0 rfl rfl) h0
  obtain ⟨a1, rfl, rfl, rfl, w1⟩ := open_int Try.underlying3 (hval 1 3 v1 rfl rfl) h1
  clear hA0 hval0
  simp only [List.append_nil] at hW'
  refine (sums_all s0 a1 W).mono fun e W' ⟨he, hb⟩ => ?_
  subst he
  exact ⟨_, rfl, post_law (pa := []) (pv := []) hW' hb (trodAll_cons_mk (shut_bool Try.underlying4 _) trodAll_mk0) (trodAll_cons_mk (shut_string Try.underlying9 hs0) (trodAll_cons_mk (shut_int Try.underlying3 w1) trodAll_mk0)) rfl⟩

/-- For every text and every kind the law returns true. -/
theorem crcSums_holds : Rows.CrcSumsSaid :=
  OpenClaim.holds_of_wide 3 Try.f3 rfl rfl rfl rfl rfl rfl rfl ⟨rfl, rfl, rfl, rfl, rfl⟩ rfl rfl rfl rfl rfl (by kernel_rfl) Try.func3 (by kernel_rfl)
    (of_decide_eq_true (by kernel_rfl)) (by unfold Func.isWrapper; first | (rw [if_pos (by decide +kernel)]; kernel_rfl) | (rw [if_neg (by decide +kernel)]; exact ⟨rfl, rfl⟩))
    (fun os started H enc _ => sums_lifted os started H enc)

#print axioms crcSums_holds
end Go.Proofs.Ytgknkkhjlocokaa
