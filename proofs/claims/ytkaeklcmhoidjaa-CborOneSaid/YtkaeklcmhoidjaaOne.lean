/-
  For every string and every number CborOne returns true: bytes that are read to their end as one number are its head, and a number's head is read back. Conditions: none.
-/
import Derived.Test.YtkaeklcmhoidjaaJ
import Derived.Test.YtkaeklcmhoidjaaHeads
import Derived.ChangeMaps5
namespace Go.Proofs.Ytkaeklcmhoidjaa
open Go.ChangeShapes Go.WideShapes Go.ChangeAt Go.RowKit Go.ChangeMaps
open Plain
set_option linter.unusedVariables false

theorem headOf_length (m n : Nat) : (headOf m n).length ≤ 9 := by
  unfold headOf
  repeat' split
  all_goals simp [be_length]

theorem typeOf_zero : typeOf 0 = 0 := rfl

theorem uintOf_lt (s : ByteArray) (p : Nat) (c : Int) (hp : p ≤ s.size) : (uintOf s p c).1 < 18446744073709551616 := by
  have := (peekOf_size s p c hp).2.2.2.1
  unfold uintOf
  simp only []
  split
  · exact this
  · simp

theorem uintOf_within (s : ByteArray) (p : Nat) (c : Int) (hp : p ≤ s.size) : (uintOf s p c).2.1 ≤ s.size := by
  have := (peekOf_size s p c hp).2.1
  unfold uintOf
  simp only []
  split
  · exact this
  · exact hp

set_option maxHeartbeats 1000000 in
theorem one_walk (s : ByteArray) (n : Nat) (hs : s.size ≤ maxLen) (hn : n < 18446744073709551616) (w : World) :
    Calls Try.prog 6 #[.string s, .int .u64 n] w fun e w' => e = .returned (.bool true) ∧ Below w.heap.size w w' := by
  have HN := Lib.hid hn; clear hn
  have HS := Lib.hid hs
  unfold maxLen at hs
  by_cases hl : 12 < s.size
  · have g : decide ((12 : Int) < (s.size : Int)) = true := by simp; omega
    go_enter Try.func6, Try.ntmps6
    go_wp2_with fail
    refine (awake_any _).mono ?_
    rintro e w1 ⟨rfl, hb1⟩
    go_wp2_with fail
    refine (awake_any _).mono ?_
    rintro e w2 ⟨rfl, hb2⟩
    go_wp2
    go_ret
    exact ⟨rfl, below_chain hb1 hb2⟩
  · have g : decide ((12 : Int) < (s.size : Int)) = false := by simp; omega
    have hul := uintOf_lt s 0 0 (by omega)
    have HUL := Lib.hid hul; clear hul
    have hpp := uintOf_within s 0 0 (by omega)
    have HP := Lib.hid hpp; clear hpp
    have hu := uint_again n HN.out ⟨(headOf 0 n).toArray⟩ rfl
    have HU := Lib.hid hu; clear hu
    have ht : (⟨(headOf 0 n).toArray⟩ : ByteArray).size ≤ maxLen := by
      show (headOf 0 n).toArray.size ≤ maxLen
      have := headOf_length 0 n
      simp only [List.size_toArray, maxLen]
      omega
    have HT := Lib.hid ht; clear ht
    have htp := uintOf_within ⟨(headOf 0 n).toArray⟩ 0 0 (Nat.zero_le _)
    have HTP := Lib.hid htp; clear htp
    cases hd : doneOf s (uintOf s 0 0).2.1 (uintOf s 0 0).2.2
    · have HD := Lib.hid hd; clear hd
      go_enter Try.func6, Try.ntmps6
      go_wp2_with fail
      refine (awake_any _).mono ?_
      rintro e w1 ⟨rfl, hb1⟩
      go_wp2_with fail
      refine (newReader_any _ _).mono ?_
      rintro e w2 ⟨rfl, rfl⟩
      go_wp2_with fail
      refine (uint_any (s := s) (p := 0) (c := 0) ⟨Rd.new w1 s, HS.out, Nat.zero_le _⟩).mono ?_
      rintro e w3 ⟨rfl, hrd3, ho3⟩
      have hok3 : Ok w3 w1.heap.size s (uintOf s 0 0).2.1 (uintOf s 0 0).2.2 := ⟨hrd3, HS.out, HP.out⟩
      have hb3 : Below w.heap.size w w3 := below_chain hb1 ((below_new w1 _).trans (ho3.below (by simp) (Nat.le_refl _)))
      have HB3 := Lib.hid hb3; clear hb3
      have HK3 := Lib.hid hok3; clear hok3 hrd3 ho3
      have HB1 := Lib.hid hb1; clear hb1
      generalize hux : (uintOf s 0 0).1 = x at *
      have HX := Lib.hid hux; clear hux
      go_wp2_with fail
      refine (done_any HK3.out).mono ?_
      rw [HD.out]
      rintro e w4 ⟨rfl, hb4⟩
      have HB4 := Lib.hid hb4; clear hb4
      go_wp2_with fail
      refine (head_any 0 n _ HN.out).mono ?_
      rw [typeOf_zero]
      rintro e w6 ⟨rfl, hb6⟩
      go_wp2_with fail
      refine (newReader_any _ _).mono ?_
      rintro e w7 ⟨rfl, rfl⟩
      go_wp2_with fail
      refine (uint_any (s := ⟨(headOf 0 n).toArray⟩) (p := 0) (c := 0) ⟨Rd.new w6 _, HT.out, Nat.zero_le _⟩).mono ?_
      rw [HU.out.1]
      rintro e w8 ⟨rfl, hrd8, ho8⟩
      have hok8 : Ok w8 w6.heap.size ⟨(headOf 0 n).toArray⟩ (uintOf ⟨(headOf 0 n).toArray⟩ 0 0).2.1 (uintOf ⟨(headOf 0 n).toArray⟩ 0 0).2.2 := ⟨hrd8, HT.out, HTP.out⟩
      have hb8 : Below w6.heap.size w6 w8 := (below_new w6 _).trans (ho8.below (by simp) (Nat.le_refl _))
      have HB8 := Lib.hid hb8; clear hb8
      have HB6 := Lib.hid hb6; clear hb6
      have HK8 := Lib.hid hok8; clear hok8 hrd8 ho8
      go_wp2_with fail
      refine (done_any HK8.out).mono ?_
      rw [HU.out.2]
      rintro e w9 ⟨rfl, hb9⟩
      have HB9 := Lib.hid hb9; clear hb9
      go_wp2
      go_ret
      exact ⟨rfl, below_chain (below_chain (below_chain (below_chain HB3.out HB4.out) HB6.out) HB8.out) HB9.out⟩
    · have hbk := uint_back s hd
      have HD := Lib.hid hd; clear hd
      have hstr : (⟨(headOf 0 (uintOf s 0 0).1).toArray⟩ : ByteArray) = s := by rw [hbk]
      have HST := Lib.hid hstr; clear hstr hbk
      go_enter Try.func6, Try.ntmps6
      go_wp2_with fail
      refine (awake_any _).mono ?_
      rintro e w1 ⟨rfl, hb1⟩
      go_wp2_with fail
      refine (newReader_any _ _).mono ?_
      rintro e w2 ⟨rfl, rfl⟩
      go_wp2_with fail
      refine (uint_any (s := s) (p := 0) (c := 0) ⟨Rd.new w1 s, HS.out, Nat.zero_le _⟩).mono ?_
      rintro e w3 ⟨rfl, hrd3, ho3⟩
      have hok3 : Ok w3 w1.heap.size s (uintOf s 0 0).2.1 (uintOf s 0 0).2.2 := ⟨hrd3, HS.out, HP.out⟩
      have hb3 : Below w.heap.size w w3 := below_chain hb1 ((below_new w1 _).trans (ho3.below (by simp) (Nat.le_refl _)))
      have HB3 := Lib.hid hb3; clear hb3
      have HK3 := Lib.hid hok3; clear hok3 hrd3 ho3
      have HB1 := Lib.hid hb1; clear hb1
      generalize hux : (uintOf s 0 0).1 = x at *
      have HX := Lib.hid hux; clear hux
      go_wp2_with fail
      refine (done_any HK3.out).mono ?_
      rw [HD.out]
      rintro e w4 ⟨rfl, hb4⟩
      have HB4 := Lib.hid hb4; clear hb4
      go_wp2_with fail
      refine (head_any 0 x _ HUL.out).mono ?_
      rw [typeOf_zero, HST.out]
      rintro e w5 ⟨rfl, hb5⟩
      have HB5 := Lib.hid hb5; clear hb5
      go_wp2_with fail
      refine (head_any 0 n _ HN.out).mono ?_
      rw [typeOf_zero]
      rintro e w6 ⟨rfl, hb6⟩
      go_wp2_with fail
      refine (newReader_any _ _).mono ?_
      rintro e w7 ⟨rfl, rfl⟩
      go_wp2_with fail
      refine (uint_any (s := ⟨(headOf 0 n).toArray⟩) (p := 0) (c := 0) ⟨Rd.new w6 _, HT.out, Nat.zero_le _⟩).mono ?_
      rw [HU.out.1]
      rintro e w8 ⟨rfl, hrd8, ho8⟩
      have hok8 : Ok w8 w6.heap.size ⟨(headOf 0 n).toArray⟩ (uintOf ⟨(headOf 0 n).toArray⟩ 0 0).2.1 (uintOf ⟨(headOf 0 n).toArray⟩ 0 0).2.2 := ⟨hrd8, HT.out, HTP.out⟩
      have hb8 : Below w6.heap.size w6 w8 := (below_new w6 _).trans (ho8.below (by simp) (Nat.le_refl _))
      have HB8 := Lib.hid hb8; clear hb8
      have HB6 := Lib.hid hb6; clear hb6
      have HK8 := Lib.hid hok8; clear hok8 hrd8 ho8
      go_wp2_with fail
      refine (done_any HK8.out).mono ?_
      rw [HU.out.2]
      rintro e w9 ⟨rfl, hb9⟩
      have HB9 := Lib.hid hb9; clear hb9
      go_wp2
      go_ret
      exact ⟨rfl, below_chain (below_chain (below_chain (below_chain (below_chain HB3.out HB4.out) HB5.out) HB6.out) HB8.out) HB9.out⟩

set_option maxRecDepth 100000 in
theorem one_lifted (os : Os) (started : os.Started) (H : Type) (enc : TypeId × Value → H) :
    ReturnsInHanded {} Try.checked os 6 .any (Rows.cborOneSpec.pre6 enc Try.prog Try.f6 Rows.cborOneRow.domain false) (Rows.cborOneSpec.post enc Try.prog Try.f6 false true false false) := by
  refine returnsInHanded_of_change (C := Try.checked) own started (by kernel_rfl) Try.func6
    (ChangeSpec.witness6 (enc := enc) (C := Try.checked) false ⟨#[], #[.string ⟨#[]⟩, .int .u64 0], []⟩ 8 (by kernel_rfl) (by kernel_rfl) (by kernel_rfl) (by kernel_rfl)) ?_
  intro W base args ds gs before hval0 hW hcnd _
  have hval : ∀ (j : Nat) t v, Try.f6.params[j]? = some t → args[j]? = some v → Value.okWide Try.prog W .any base t v := hval0
  have hW' := hW
  obtain ⟨p, q, hA0, hV, rfl, hfz, hnd⟩ := hW
  have hA : DataW.TrodAll enc Try.prog W 0 (fun _ => true) true Try.f6.params.toList args.toList ds p := hA0
  rw [Try.params6] at hA hval
  obtain ⟨v0, vs0, d0, ds0, p0, q0, hargs, rfl, rfl, h0, r0⟩ := trodAll_cons hA
  obtain ⟨v1, vs1, d1, ds1, p1, q1, rfl, rfl, rfl, h1, r1⟩ := trodAll_cons r0
  obtain ⟨rfl, rfl, rfl⟩ := trodAll_nil r1
  obtain rfl : args = #[v0, v1] := by cases args; simp_all
  obtain ⟨rfl, rfl⟩ := trodVars_none hV
  obtain ⟨s, rfl, rfl, rfl, hs⟩ := open_string Try.underlying9 (hval 0 9 v0 rfl rfl) h0
  obtain ⟨a1, rfl, rfl, rfl, w1⟩ := open_int Try.underlying22 (hval 1 22 v1 rfl rfl) h1
  clear hA0 hval0
  simp only [List.append_nil] at hW'
  obtain ⟨n, rfl, hn⟩ := u64_nat w1
  refine (one_walk s n hs hn W).mono fun e W' ⟨he, hb⟩ => ?_
  subst he
  exact ⟨_, rfl, post_law (pa := []) (pv := []) hW' hb (trodAll_cons_mk (shut_bool Try.underlying4 _) trodAll_mk0) (trodAll_cons_mk (shut_string Try.underlying9 hs) (trodAll_cons_mk (shut_int Try.underlying22 w1) trodAll_mk0)) rfl⟩

/-- For every string and every number the law returns true. -/
theorem cborOne_holds : Rows.CborOneSaid :=
  OpenClaim.holds_of_wide 6 Try.f6 rfl rfl rfl rfl rfl rfl rfl ⟨rfl, rfl, rfl, rfl, rfl⟩ rfl rfl rfl rfl rfl (by kernel_rfl) Try.func6 (by kernel_rfl)
    (of_decide_eq_true (by kernel_rfl)) (by unfold Func.isWrapper; first | (rw [if_pos (by decide +kernel)]; kernel_rfl) | (rw [if_neg (by decide +kernel)]; exact ⟨rfl, rfl⟩))
    (fun os started H enc _ => one_lifted os started H enc)

#print axioms cborOne_holds
end Go.Proofs.Ytkaeklcmhoidjaa
