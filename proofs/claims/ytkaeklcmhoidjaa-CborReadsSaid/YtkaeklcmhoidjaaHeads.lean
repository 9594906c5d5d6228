/-
  For every type and every number CborHeads returns true: a head's bytes are the standard's, and so is the open head. Conditions: none.
-/
import Derived.Test.YtkaeklcmhoidjaaC
namespace Go.Proofs.Ytkaeklcmhoidjaa
open Go.ChangeShapes Go.WideShapes Go.ChangeAt Go.RowKit
open Plain
set_option linter.unusedVariables false

theorem own : ownKnob Try.prog.godebug = none := by kernel_rfl

/-- The end of a law: nothing that was there has changed. -/
theorem post_law {H : Type} {enc : TypeId × Value → H} {P : Program} {f : Func} {s : ChangeSpec} {W W' : World} {args : Array Value} {v : Value} {ds gs : List (DataW H)} {before pa pv : List MemPlace}
    (hW : DataW.Whole enc P f.params.toList s.vars false W args.toList ds gs before) (hb : Below W.heap.size W W')
    (hr : DataW.TrodAll enc P W' W.heap.size (fun _ => false) false f.resultTypes.toList (v.resultList f.resultTypes.size) (s.fn H (ds ++ gs)).results [])
    (ha : DataW.TrodAll enc P W' 0 (fun b => decide (b < W.heap.size)) true f.params.toList args.toList (s.fn H (ds ++ gs)).args pa)
    (hv : DataW.TrodVars enc P W' (fun b => decide (b < W.heap.size)) s.vars (s.fn H (ds ++ gs)).vars pv) :
    s.post enc P f false true false false W args v W' :=
  ⟨ds, gs, before, [], pa, pv, hW, hr, ha, hv, hb.frame _, fun h => nomatch h⟩

theorem own_open (m : Nat) (h7 : m ≤ 7) : 32 * (m : Int) + 31 = (first m 31).toNat := first_int m 31 h7 (by omega)

theorem beq_same (l : List UInt8) : ((⟨l.toArray⟩ : ByteArray).toList == (⟨l.toArray⟩ : ByteArray).toList) = true := by simp

theorem below_chain {a b c : World} (h : Below a.heap.size a b) (k : Below b.heap.size b c) : Below a.heap.size a c := h.trans (k.mono h.size)

theorem below_new (a : World) (o : Obj) : Below a.heap.size a (a.alloc o) := (Below.refl _ _).alloc (Nat.le_refl _) _

set_option maxHeartbeats 1000000 in
theorem heads_walk (a0 : Int) (n : Nat) (hn : n < 18446744073709551616) (w : World) :
    Calls Try.prog 3 #[.int .i64 a0, .int .u64 n] w fun e w' => e = .returned (.bool true) ∧ Below w.heap.size w w' := by
  have HN := Lib.hid hn; clear hn
  rcases (show a0 < 0 ∨ (0 ≤ a0 ∧ a0 < 2) ∨ (2 ≤ a0 ∧ a0 ≤ 5) ∨ a0 = 6 ∨ a0 = 7 ∨ 7 < a0 from by omega) with h | ⟨h, h'⟩ | ⟨h, h'⟩ | rfl | rfl | h
  · have ht : typeOf a0 = 0 := by unfold typeOf; rw [if_pos (by omega)]
    have ho : openOf a0 = [] := by unfold openOf; rw [opens_no (by omega)]; rfl
    have HT := Lib.hid ht; clear ht
    have HO := Lib.hid ho; clear ho
    have g1 : decide (a0 < 0) = true := by simp; omega
    have g2 : decide (1 < a0) = false := by simp; omega
    have g3 : (a0 == 7) = false := by simp; omega
    go_enter Try.func3, Try.ntmps3
    go_wp2_with fail
    refine (awake_any _).mono ?_
    rintro e w1 ⟨rfl, hb1⟩
    go_wp2_with fail
    refine (head_any a0 n _ HN.out).mono ?_
    rw [HT.out]
    rintro e w2 ⟨rfl, hb2⟩
    go_wp2_with fail
    refine (refHead_any 0 n _ (by omega) HN.out).mono ?_
    rintro e w3 ⟨rfl, hb3⟩
    go_wp2_with fail
    refine (open_any a0 _).mono ?_
    rw [HO.out]
    rintro e w4 ⟨rfl, hb4⟩
    go_wp2
    go_ret
    exact ⟨rfl, below_chain (below_chain (below_chain hb1 hb2) hb3) hb4⟩
  · obtain ⟨k, rfl⟩ := Int.eq_ofNat_of_zero_le h
    have ht : typeOf (k : Int) = k := by unfold typeOf; rw [if_neg (by omega)]; omega
    have ho : openOf (k : Int) = [] := by unfold openOf; rw [opens_no (by omega)]; rfl
    have HT := Lib.hid ht; clear ht
    have HO := Lib.hid ho; clear ho
    have g1 : decide ((k : Int) < 0) = false := by simp
    have g4 : decide (7 < (k : Int)) = false := by simp; omega
    have g2 : decide (1 < (k : Int)) = false := by simp; omega
    have g3 : ((k : Int) == 7) = false := by simp; omega
    go_enter Try.func3, Try.ntmps3
    go_wp2_with fail
    refine (awake_any _).mono ?_
    rintro e w1 ⟨rfl, hb1⟩
    go_wp2_with fail
    refine (head_any (k : Int) n _ HN.out).mono ?_
    rw [HT.out]
    rintro e w2 ⟨rfl, hb2⟩
    go_wp2_with fail
    refine (refHead_any k n _ (by omega) HN.out).mono ?_
    rintro e w3 ⟨rfl, hb3⟩
    go_wp2_with fail
    refine (open_any (k : Int) _).mono ?_
    rw [HO.out]
    rintro e w4 ⟨rfl, hb4⟩
    go_wp2
    go_ret
    exact ⟨rfl, below_chain (below_chain (below_chain hb1 hb2) hb3) hb4⟩
  · obtain ⟨k, rfl⟩ := Int.eq_ofNat_of_zero_le (show 0 ≤ a0 by omega)
    have ht : typeOf (k : Int) = k := by unfold typeOf; rw [if_neg (by omega)]; omega
    have ho : openOf (k : Int) = [first k 31] := by unfold openOf; rw [opens_yes (by omega), ht]; rfl
    have HT := Lib.hid ht; clear ht
    have HO := Lib.hid ho; clear ho
    have g1 : decide ((k : Int) < 0) = false := by simp
    have g4 : decide (7 < (k : Int)) = false := by simp; omega
    have g2 : decide (1 < (k : Int)) = true := by simp; omega
    have g3 : decide ((k : Int) < 6) = true := by simp; omega
    have hs := one_string (first k 31) _ (first_int k 31 (by omega) (by omega))
    go_enter Try.func3, Try.ntmps3
    go_wp2_with fail
    refine (awake_any _).mono ?_
    rintro e w1 ⟨rfl, hb1⟩
    go_wp2_with fail
    refine (head_any (k : Int) n _ HN.out).mono ?_
    rw [HT.out]
    rintro e w2 ⟨rfl, hb2⟩
    go_wp2_with fail
    refine (refHead_any k n _ (by omega) HN.out).mono ?_
    rintro e w3 ⟨rfl, hb3⟩
    go_wp2_with fail
    refine (open_any (k : Int) _).mono ?_
    rw [HO.out]
    rintro e w4 ⟨rfl, hb4⟩
    go_wp2
    go_ret
    exact ⟨rfl, below_chain (below_chain (below_chain (below_chain (below_new w _) hb1) hb2) hb3) hb4⟩
  · have ht : typeOf 6 = 6 := by rfl
    have ho : openOf 6 = [] := by unfold openOf; rw [opens_no (by omega)]; rfl
    have HT := Lib.hid ht; clear ht
    have HO := Lib.hid ho; clear ho
    go_enter Try.func3, Try.ntmps3
    go_wp2_with fail
    refine (awake_any _).mono ?_
    rintro e w1 ⟨rfl, hb1⟩
    go_wp2_with fail
    refine (head_any 6 n _ HN.out).mono ?_
    rw [HT.out]
    rintro e w2 ⟨rfl, hb2⟩
    go_wp2_with fail
    refine (refHead_any 6 n _ (by omega) HN.out).mono ?_
    rintro e w3 ⟨rfl, hb3⟩
    go_wp2_with fail
    refine (open_any 6 _).mono ?_
    rw [HO.out]
    rintro e w4 ⟨rfl, hb4⟩
    go_wp2
    go_ret
    exact ⟨rfl, below_chain (below_chain (below_chain hb1 hb2) hb3) hb4⟩
  · have ht : typeOf 7 = 7 := by rfl
    have ho : openOf 7 = [first 7 31] := by unfold openOf; rw [opens_yes (by omega), ht]; rfl
    have HT := Lib.hid ht; clear ht
    have HO := Lib.hid ho; clear ho
    have hs := one_string (first 7 31) _ (first_int 7 31 (by omega) (by omega))
    go_enter Try.func3, Try.ntmps3
    go_wp2_with fail
    refine (awake_any _).mono ?_
    rintro e w1 ⟨rfl, hb1⟩
    go_wp2_with fail
    refine (head_any 7 n _ HN.out).mono ?_
    rw [HT.out]
    rintro e w2 ⟨rfl, hb2⟩
    go_wp2_with fail
    refine (refHead_any 7 n _ (by omega) HN.out).mono ?_
    rintro e w3 ⟨rfl, hb3⟩
    go_wp2_with fail
    refine (open_any 7 _).mono ?_
    rw [HO.out]
    rintro e w4 ⟨rfl, hb4⟩
    go_wp2
    go_ret
    exact ⟨rfl, below_chain (below_chain (below_chain (below_chain (below_new w _) hb1) hb2) hb3) hb4⟩
  · have ht : typeOf a0 = 0 := by unfold typeOf; rw [if_pos (by omega)]
    have ho : openOf a0 = [] := by unfold openOf; rw [opens_no (by omega)]; rfl
    have HT := Lib.hid ht; clear ht
    have HO := Lib.hid ho; clear ho
    have g1 : decide (a0 < 0) = false := by simp; omega
    have g4 : decide (7 < a0) = true := by simp; omega
    have g2 : decide (1 < a0) = true := by simp; omega
    have g5 : decide (a0 < 6) = false := by simp; omega
    have g3 : (a0 == 7) = false := by simp; omega
    go_enter Try.func3, Try.ntmps3
    go_wp2_with fail
    refine (awake_any _).mono ?_
    rintro e w1 ⟨rfl, hb1⟩
    go_wp2_with fail
    refine (head_any a0 n _ HN.out).mono ?_
    rw [HT.out]
    rintro e w2 ⟨rfl, hb2⟩
    go_wp2_with fail
    refine (refHead_any 0 n _ (by omega) HN.out).mono ?_
    rintro e w3 ⟨rfl, hb3⟩
    go_wp2_with fail
    refine (open_any a0 _).mono ?_
    rw [HO.out]
    rintro e w4 ⟨rfl, hb4⟩
    go_wp2
    go_ret
    exact ⟨rfl, below_chain (below_chain (below_chain hb1 hb2) hb3) hb4⟩

theorem u64_nat {a : Int} (h : (Lit.int .u64 a).wf = true) : ∃ n : Nat, a = n ∧ n < 18446744073709551616 := by
  have hx : 0 ≤ a ∧ a ≤ 18446744073709551615 := by simpa [Lit.wf, IntKind.min, IntKind.max, IntKind.signed, IntKind.bits] using h
  exact ⟨a.toNat, by omega, by omega⟩

set_option maxRecDepth 100000 in
theorem heads_lifted (os : Os) (started : os.Started) (H : Type) (enc : TypeId × Value → H) :
    ReturnsInHanded {} Try.checked os 3 .any (Rows.cborHeadsSpec.pre6 enc Try.prog Try.f3 Rows.cborHeadsRow.domain false) (Rows.cborHeadsSpec.post enc Try.prog Try.f3 false true false false) := by
  refine returnsInHanded_of_change (C := Try.checked) own started (by kernel_rfl) Try.func3
    (ChangeSpec.witness6 (enc := enc) (C := Try.checked) false ⟨#[], #[.int .i64 0, .int .u64 0], []⟩ 8 (by kernel_rfl) (by kernel_rfl) (by kernel_rfl) (by kernel_rfl)) ?_
  intro W base args ds gs before hval0 hW hcnd _
  have hval : ∀ (j : Nat) t v, Try.f3.params[j]? = some t → args[j]? = some v → Value.okWide Try.prog W .any base t v := hval0
  have hW' := hW
  obtain ⟨p, q, hA0, hV, rfl, hfz, hnd⟩ := hW
  have hA : DataW.TrodAll enc Try.prog W 0 (fun _ => true) true Try.f3.params.toList args.toList ds p := hA0
  rw [Try.params3] at hA hval
  obtain ⟨v0, vs0, d0, ds0, p0, q0, hargs, rfl, rfl, h0, r0⟩ := trodAll_cons hA
  obtain ⟨v1, vs1, d1, ds1, p1, q1, rfl, rfl, rfl, h1, r1⟩ := trodAll_cons r0
  obtain ⟨rfl, rfl, rfl⟩ := trodAll_nil r1
  obtain rfl : args = #[v0, v1] := by cases args; simp_all
  obtain ⟨rfl, rfl⟩ := trodVars_none hV
  obtain ⟨a0, rfl, rfl, rfl, w0⟩ := open_int Try.underlying3 (hval 0 3 v0 rfl rfl) h0
  obtain ⟨a1, rfl, rfl, rfl, w1⟩ := open_int Try.underlying22 (hval 1 22 v1 rfl rfl) h1
  clear hA0 hval0
  simp only [List.append_nil] at hW'
  obtain ⟨n, rfl, hn⟩ := u64_nat w1
  refine (heads_walk a0 n hn W).mono fun e W' ⟨he, hb⟩ => ?_
  subst he
  exact ⟨_, rfl, post_law (pa := []) (pv := []) hW' hb (trodAll_cons_mk (shut_bool Try.underlying4 _) trodAll_mk0) (trodAll_cons_mk (shut_int Try.underlying3 w0) (trodAll_cons_mk (shut_int Try.underlying22 w1) trodAll_mk0)) rfl⟩

/-- For every type and every number the law returns true. -/
theorem cborHeads_holds : Rows.CborHeadsSaid :=
  OpenClaim.holds_of_wide 3 Try.f3 rfl rfl rfl rfl rfl rfl rfl ⟨rfl, rfl, rfl, rfl, rfl⟩ rfl rfl rfl rfl rfl (by kernel_rfl) Try.func3 (by kernel_rfl)
    (of_decide_eq_true (by kernel_rfl)) (by unfold Func.isWrapper; first | (rw [if_pos (by decide +kernel)]; kernel_rfl) | (rw [if_neg (by decide +kernel)]; exact ⟨rfl, rfl⟩))
    (fun os started H enc _ => heads_lifted os started H enc)

#print axioms cborHeads_holds
end Go.Proofs.Ytkaeklcmhoidjaa
