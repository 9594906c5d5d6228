/-
  For every capacity, every list of calls and all names TableTexts returns true: a table of bools by texts has, under the same calls, the same keys, by their places, as one of numbers by numbers. Conditions: none.
-/
import Derived.Test.YtelgglnamojegaaTexts
import Derived.Test.YtelgglnamojegaaRows
namespace Go.Proofs.Ytelgglnamojegaa
open Go.ChangeShapes Go.WideShapes Go.ChangeAt Go.RowKit Go.ChangeMaps
set_option linter.unusedVariables false

set_option maxHeartbeats 1000000 in
set_option maxRecDepth 100000 in
theorem texts_big (m : Nat) (A : Option Addr) (len cap : Nat) (B : Option Addr) (n ncap : Nat) (w : World) (hlen : len ≤ maxLen) (hn : n ≤ maxLen) (h : 60 < len ∨ (len ≤ 60 ∧ n = 0) ∨ (len ≤ 60 ∧ 0 < n ∧ 20 < n)) :
    Calls Try.prog 4 #[.int .u8 m, .slice A len cap, .slice B n ncap] w fun e w' => e = .returned (.bool true) ∧ Below w.heap.size w w' := by
  unfold maxLen at hlen hn
  rcases h with h | ⟨h, rfl⟩ | ⟨h, h0, h2⟩
  · have g1 : decide ((60 : Int) < (len : Int)) = true := by simp; omega
    go_enter Try.func4, Try.ntmps4
    go_wp2_with fail
    refine (awake_any _).mono ?_
    rintro e w1 ⟨rfl, hb1⟩
    have HB1 := Lib.hid hb1; clear hb1
    go_wp2_with fail
    refine (awake_any _).mono ?_
    rintro e w2 ⟨rfl, hb2⟩
    have HB2 := Lib.hid hb2; clear hb2
    go_wp2
    go_ret
    exact ⟨rfl, below_chain HB1.out HB2.out⟩
  · have g1 : decide ((60 : Int) < (len : Int)) = false := by simp; omega
    go_enter Try.func4, Try.ntmps4
    go_wp2_with fail
    refine (awake_any _).mono ?_
    rintro e w1 ⟨rfl, hb1⟩
    have HB1 := Lib.hid hb1; clear hb1
    go_wp2_with fail
    refine (awake_any _).mono ?_
    rintro e w2 ⟨rfl, hb2⟩
    have HB2 := Lib.hid hb2; clear hb2
    go_wp2
    go_ret
    exact ⟨rfl, below_chain HB1.out HB2.out⟩
  · have g1 : decide ((60 : Int) < (len : Int)) = false := by simp; omega
    have g2 : ((n : Int) == 0) = false := by simp; omega
    have g3 : decide ((20 : Int) < (n : Int)) = true := by simp; omega
    go_enter Try.func4, Try.ntmps4
    go_wp2_with fail
    refine (awake_any _).mono ?_
    rintro e w1 ⟨rfl, hb1⟩
    have HB1 := Lib.hid hb1; clear hb1
    go_wp2_with fail
    refine (awake_any _).mono ?_
    rintro e w2 ⟨rfl, hb2⟩
    have HB2 := Lib.hid hb2; clear hb2
    go_wp2
    go_ret
    exact ⟨rfl, below_chain HB1.out HB2.out⟩

theorem texts_all (m : Nat) (hm : m < 256) (A : Option Addr) (len cap : Nat) (K : Nat → Nat) (N : Nat → Int) (S : Nat → ByteArray) (B : Option Addr) (n ncap : Nat) (nm : Nat → ByteArray) (w : World)
    (hlen : len ≤ maxLen) (hnl : n ≤ maxLen) (hops : Calls3 w A len K N S) (hN : ∀ i, i < len → -9223372036854775808 ≤ N i ∧ N i ≤ 9223372036854775807) (hnames : Names w B n nm) :
    Calls Try.prog 4 #[.int .u8 m, .slice A len cap, .slice B n ncap] w fun e w' => e = .returned (.bool true) ∧ Below w.heap.size w w' := by
  by_cases h1 : 60 < len
  · exact texts_big m A len cap B n ncap w hlen hnl (.inl h1)
  · by_cases h2 : n = 0
    · exact texts_big m A len cap B n ncap w hlen hnl (.inr (.inl ⟨by omega, h2⟩))
    · by_cases h3 : 20 < n
      · exact texts_big m A len cap B n ncap w hlen hnl (.inr (.inr ⟨by omega, by omega, h3⟩))
      · exact texts_walk m hm A len cap K N S B n ncap nm w hops hN hnames (by omega) (by omega) (by omega)

set_option maxRecDepth 100000 in
theorem texts_lifted (os : Os) (started : os.Started) (H : Type) (enc : TypeId × Value → H) :
    ReturnsInHanded {} Try.checked os 4 .any (Rows.tableTextsSpec.pre6 enc Try.prog Try.f4 Rows.tableTextsRow.domain false) (Rows.tableTextsSpec.post enc Try.prog Try.f4 false true false false) := by
  refine returnsInHanded_of_change (C := Try.checked) own started (by kernel_rfl) Try.func4
    (ChangeSpec.witness6 (enc := enc) (C := Try.checked) false ⟨#[], #[.int .u8 0, .slice none 0 0, .slice none 0 0], []⟩ 8 (by kernel_rfl) (by kernel_rfl) (by kernel_rfl) (by kernel_rfl)) ?_
  intro W base args ds gs before hval0 hW hcnd _
  have hval : ∀ (j : Nat) t v, Try.f4.params[j]? = some t → args[j]? = some v → Value.okWide Try.prog W .any base t v := hval0
  have hW' := hW
  obtain ⟨p, q, hA0, hV, rfl, hfz, hnd⟩ := hW
  have hA : DataW.TrodAll enc Try.prog W 0 (fun _ => true) true Try.f4.params.toList args.toList ds p := hA0
  rw [Try.params4] at hA hval
  obtain ⟨v0, vs0, d0, ds0, p0, q0, hargs, rfl, rfl, h0, r0⟩ := trodAll_cons hA
  obtain ⟨v1, vs1, d1, ds1, p1, q1, rfl, rfl, rfl, h1, r1⟩ := trodAll_cons r0
  obtain ⟨v2, vs2, d2, ds2, p2, q2, rfl, rfl, rfl, h2, r2⟩ := trodAll_cons r1
  obtain ⟨rfl, rfl, rfl⟩ := trodAll_nil r2
  obtain rfl : args = #[v0, v1, v2] := by cases args; simp_all
  obtain ⟨rfl, rfl⟩ := trodVars_none hV
  obtain ⟨m, rfl, hm⟩ : ∃ m : Nat, v0 = .int .u8 m ∧ m < 256 := by
    obtain ⟨fuel, hf⟩ := h0
    obtain ⟨m, hm, _, wm⟩ := DataW.trod_int Try.underlying5 hf
    have hm' : 0 ≤ m ∧ m ≤ 255 := by simpa [Lit.wf, IntKind.min, IntKind.max, IntKind.signed, IntKind.bits] using wm
    obtain ⟨m', rfl⟩ := okWide_int Try.underlying5 (hval 0 5 v0 rfl rfl)
    have : m' = m := by simpa [Value.cells] using hm
    subst this
    exact ⟨m'.toNat, by rw [Int.toNat_of_nonneg hm'.1], by omega⟩
  obtain ⟨A, len, cap, K, N, S, rfl, hlen, hops, hN⟩ := open_ops (hval 1 22 v1 rfl rfl) h1
  obtain ⟨B, n, ncap, nm, rfl, hnl, hnames⟩ := open_names (hval 2 28 v2 rfl rfl) h2
  clear hA0 hval0
  have hlt0 : ∀ x ∈ p0, x.block < W.heap.size := fun x hx => hW'.lt x (by simp [hx])
  have hlt1 : ∀ x ∈ p1, x.block < W.heap.size := fun x hx => hW'.lt x (by simp [hx])
  have hlt2 : ∀ x ∈ p2, x.block < W.heap.size := fun x hx => hW'.lt x (by simp [hx])
  simp only [List.append_nil] at hW'
  refine (texts_all m hm A len cap K N S B n ncap nm W hlen hnl hops hN hnames).mono ?_
  rintro e W' ⟨rfl, hb⟩
  exact ⟨_, rfl, post_law (pa := p0 ++ (p1 ++ (p2 ++ []))) (pv := []) hW' hb (trodAll_cons_mk (shut_bool Try.underlying4 _) trodAll_mk0)
    (trodAll_cons_mk (Below.trod Try.laidOut (by kernel_rfl) (of_decide_eq_true (by kernel_rfl)) h0 hb hlt0) (trodAll_cons_mk (Below.trod Try.laidOut (by kernel_rfl) (of_decide_eq_true (by kernel_rfl)) h1 hb hlt1) (trodAll_cons_mk (Below.trod Try.laidOut (by kernel_rfl) (of_decide_eq_true (by kernel_rfl)) h2 hb hlt2) trodAll_mk0))) rfl⟩

/-- For every capacity, every list of calls and all names the law returns true. -/
theorem tableTexts_holds : Rows.TableTextsSaid :=
  OpenClaim.holds_of_wide 4 Try.f4 rfl rfl rfl rfl rfl rfl rfl ⟨rfl, rfl, rfl, rfl, rfl⟩ rfl rfl rfl rfl rfl (by kernel_rfl) Try.func4 (by kernel_rfl)
    (of_decide_eq_true (by kernel_rfl)) (by unfold Func.isWrapper; first | (rw [if_pos (by decide +kernel)]; kernel_rfl) | (rw [if_neg (by decide +kernel)]; exact ⟨rfl, rfl⟩))
    (fun os started H enc _ => texts_lifted os started H enc)

#print axioms tableTexts_holds

end Go.Proofs.Ytelgglnamojegaa
