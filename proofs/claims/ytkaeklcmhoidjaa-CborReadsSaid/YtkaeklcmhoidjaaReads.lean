/-
  For every string and every list of calls CborReads returns true: what each call on a reader tells, its offset and its failure are the standard's. Conditions: none.
-/
import Derived.Test.YtkaeklcmhoidjaaX
import Derived.Test.YtkaeklcmhoidjaaHeads
import Derived.ChangeMaps5
import Derived.Deep.SlicePairs
import Derived.Carry
namespace Go.Proofs.Ytkaeklcmhoidjaa
open Go.ChangeShapes Go.WideShapes Go.ChangeAt Go.RowKit Go.ChangeMaps
open Plain
set_option linter.unusedVariables false

set_option maxHeartbeats 1000000 in
theorem reads_big (s : ByteArray) (A : Option Addr) (len cap : Nat) (w : World) (hs : s.size ≤ maxLen) (hlen : len ≤ maxLen) (h : 500 < s.size ∨ (s.size ≤ 500 ∧ 40 < len)) :
    Calls Try.prog 5 #[.string s, .slice A len cap] w fun e w' => e = .returned (.bool true) ∧ Below w.heap.size w w' := by
  unfold maxLen at hs hlen
  rcases h with h | ⟨h, h'⟩
  · have g1 : decide ((500 : Int) < (s.size : Int)) = true := by simp; omega
    go_enter Try.func5, Try.ntmps5
    go_wp2_with fail
    refine (awake_any _).mono ?_
    rintro e w1 ⟨rfl, hb1⟩
    go_wp2_with fail
    refine (awake_any _).mono ?_
    rintro e w2 ⟨rfl, hb2⟩
    go_wp2
    go_ret
    exact ⟨rfl, below_chain hb1 hb2⟩
  · have g1 : decide ((500 : Int) < (s.size : Int)) = false := by simp; omega
    have g2 : decide ((40 : Int) < (len : Int)) = true := by simp; omega
    go_enter Try.func5, Try.ntmps5
    go_wp2_with fail
    refine (awake_any _).mono ?_
    rintro e w1 ⟨rfl, hb1⟩
    go_wp2_with fail
    refine (awake_any _).mono ?_
    rintro e w2 ⟨rfl, hb2⟩
    go_wp2
    go_ret
    exact ⟨rfl, below_chain hb1 hb2⟩

theorem reads_all (s : ByteArray) (A : Option Addr) (len cap : Nat) (K : Nat → Nat) (N : Nat → Int) (w : World) (hs : s.size ≤ maxLen) (hlen : len ≤ maxLen) (hops : Ops w A len K N) :
    Calls Try.prog 5 #[.string s, .slice A len cap] w fun e w' => e = .returned (.bool true) ∧ Below w.heap.size w w' := by
  by_cases h1 : 500 < s.size
  · exact reads_big s A len cap w hs hlen (Or.inl h1)
  · by_cases h2 : 40 < len
    · exact reads_big s A len cap w hs hlen (Or.inr ⟨by omega, h2⟩)
    · exact reads_walk s A len cap K N w hs hlen hops (by omega) (by omega)

theorem block_lt {w : World} {a : Addr} {v : Value} (h : w.cell? a = some v) : a.block < w.heap.size := by
  rcases Nat.lt_or_ge a.block w.heap.size with h1 | h1
  · exact h1
  · simp [World.cell?, Array.getElem?_eq_none h1] at h

theorem add_none {a : Addr} (h : a.spot = none) (n : Nat) : a.add n = ⟨a.block, a.off + n, none⟩ := by
  obtain ⟨b, o, sp⟩ := a
  simp only [] at h
  subst h
  unfold Addr.add
  split
  · rename_i h0; subst h0; rfl
  · rfl

theorem Try.laidOut : laidOutB Try.prog = true := by kernel_rfl

set_option maxRecDepth 100000 in
theorem reads_lifted (os : Os) (started : os.Started) (H : Type) (enc : TypeId × Value → H) :
    ReturnsInHanded {} Try.checked os 5 .any (Rows.cborReadsSpec.pre6 enc Try.prog Try.f5 Rows.cborReadsRow.domain false) (Rows.cborReadsSpec.post enc Try.prog Try.f5 false true false false) := by
  refine returnsInHanded_of_change (C := Try.checked) own started (by kernel_rfl) Try.func5
    (ChangeSpec.witness6 (enc := enc) (C := Try.checked) false ⟨#[], #[.string ⟨#[]⟩, .slice none 0 0], []⟩ 8 (by kernel_rfl) (by kernel_rfl) (by kernel_rfl) (by kernel_rfl)) ?_
  intro W base args ds gs before hval0 hW hcnd _
  have hval : ∀ (j : Nat) t v, Try.f5.params[j]? = some t → args[j]? = some v → Value.okWide Try.prog W .any base t v := hval0
  have hW' := hW
  obtain ⟨p, q, hA0, hV, rfl, hfz, hnd⟩ := hW
  have hA : DataW.TrodAll enc Try.prog W 0 (fun _ => true) true Try.f5.params.toList args.toList ds p := hA0
  rw [Try.params5] at hA hval
  obtain ⟨v0, vs0, d0, ds0, p0, q0, hargs, rfl, rfl, h0, r0⟩ := trodAll_cons hA
  obtain ⟨v1, vs1, d1, ds1, p1, q1, rfl, rfl, rfl, h1, r1⟩ := trodAll_cons r0
  obtain ⟨rfl, rfl, rfl⟩ := trodAll_nil r1
  obtain rfl : args = #[v0, v1] := by cases args; simp_all
  obtain ⟨rfl, rfl⟩ := trodVars_none hV
  obtain ⟨s, rfl, rfl, rfl, hs⟩ := open_string Try.underlying9 (hval 0 9 v0 rfl rfl) h0
  clear hA0 hval0
  have h1k := h1
  obtain ⟨fuel, hf⟩ := h1
  obtain ⟨A, len, cap, rfl⟩ := okWide_slice Try.underlying33 (hval 1 33 v1 rfl rfl)
  have hlt : ∀ x ∈ p1, x.block < W.heap.size := fun x hx => hW'.lt x (by simp [hx])
  simp only [List.append_nil, List.nil_append] at hW'
  have fin : ∀ (e : Ending) (W' : World), (e = .returned (.bool true) ∧ Below W.heap.size W W') →
      ∃ v, e = .returned v ∧ Rows.cborReadsSpec.post enc Try.prog Try.f5 false true false false W #[.string s, .slice A len cap] v W' := by
    rintro e W' ⟨rfl, hb⟩
    exact ⟨_, rfl, post_law (pa := [] ++ (p1 ++ [])) (pv := []) hW' hb (trodAll_cons_mk (shut_bool Try.underlying4 _) trodAll_mk0) (trodAll_cons_mk (shut_string Try.underlying9 hs) (trodAll_cons_mk (Below.trod Try.laidOut (by kernel_rfl) (of_decide_eq_true (by kernel_rfl)) h1k hb hlt) trodAll_mk0)) rfl⟩
  rcases Go.Deep.open_slice_pairs Try.underlying33 Try.underlying42 (by kernel_rfl) rfl rfl (by kernel_rfl) (by kernel_rfl) hf with ⟨hc, _⟩ | ⟨a, len', cap', m, n, V0, V1, D0, D1, P0, P1, hc, _, hlc, hcap, hm, _, hx⟩
  · obtain ⟨rfl, rfl, rfl⟩ : A = none ∧ len = 0 ∧ cap = 0 := by simpa [Value.cells] using hc
    exact (reads_all s none 0 0 (fun _ => 0) (fun _ => 0) W hs (Nat.zero_le _) ⟨fun i hi => absurd hi (by omega)⟩).mono fun e W' h => fin e W' h
  · obtain ⟨rfl, rfl, rfl⟩ : A = some a ∧ len = len' ∧ cap = cap' := by simpa [Value.cells] using hc
    have hml : len ≤ m := by rw [hm]; split <;> omega
    have hval2 : ∀ i, i < len → ∃ (k : Nat) (z : Int), V0 i = .int .u8 k ∧ V1 i = .int .i64 z ∧ k < 256 ∧ -9223372036854775808 ≤ z ∧ z ≤ 9223372036854775807 := by
      intro i hi
      obtain ⟨_, _, t0, t1⟩ := hx i (by omega)
      obtain ⟨k, hk, _, wk⟩ := DataW.trod_int Try.underlying5 t0
      obtain ⟨z, hz, _, wz⟩ := DataW.trod_int Try.underlying3 t1
      have hk' : 0 ≤ k ∧ k ≤ 255 := by simpa [Lit.wf, IntKind.min, IntKind.max, IntKind.signed, IntKind.bits] using wk
      have hz' : -9223372036854775808 ≤ z ∧ z ≤ 9223372036854775807 := by simpa [Lit.wf, IntKind.min, IntKind.max, IntKind.signed, IntKind.bits] using wz
      refine ⟨k.toNat, z, ?_, ?_, by omega, hz'.1, hz'.2⟩
      · have : V0 i = .int .u8 k := by simpa using hk
        rw [this]
        congr 1
        omega
      · simpa using hz
    have hops : ∃ K N, Ops W (some a) len K N := by
      refine ⟨fun i => if h : i < len then (hval2 i h).choose else 0, fun i => if h : i < len then (hval2 i h).choose_spec.choose else 0, ⟨fun i hi => ?_⟩⟩
      obtain ⟨e0, e1, e2, e3, e4⟩ := (hval2 i hi).choose_spec.choose_spec
      obtain ⟨c0, c1, _, _⟩ := hx i (by omega)
      have hsp : a.spot = none := by
        have h00 := World.cell?_spot (hx 0 (by omega)).1
        simpa [Addr.add] using h00
      rw [add_none hsp] at c0 c1
      refine ⟨a.block, a.off, ?_, block_lt (a := ⟨a.block, a.off + i * 2, none⟩) c0, ?_, ?_, ?_, ?_, ?_⟩
      · obtain ⟨b, o, sp⟩ := a
        simp only [] at hsp
        subst hsp
        rfl
      · rw [dif_pos hi]
        exact c0.trans (congrArg some e0)
      · rw [dif_pos hi, Nat.add_assoc]
        exact c1.trans (congrArg some e1)
      · rw [dif_pos hi]; exact e2
      · rw [dif_pos hi]; exact e3
      · rw [dif_pos hi]; exact e4
    obtain ⟨K, N, hops⟩ := hops
    exact (reads_all s (some a) len cap K N W hs (Nat.le_trans hlc hcap) hops).mono fun e W' h => fin e W' h

/-- For every string and every list of calls the law returns true. -/
theorem cborReads_holds : Rows.CborReadsSaid :=
  OpenClaim.holds_of_wide 5 Try.f5 rfl rfl rfl rfl rfl rfl rfl ⟨rfl, rfl, rfl, rfl, rfl⟩ rfl rfl rfl rfl rfl (by kernel_rfl) Try.func5 (by kernel_rfl)
    (of_decide_eq_true (by kernel_rfl)) (by unfold Func.isWrapper; first | (rw [if_pos (by decide +kernel)]; kernel_rfl) | (rw [if_neg (by decide +kernel)]; exact ⟨rfl, rfl⟩))
    (fun os started H enc _ => reads_lifted os started H enc)

#print axioms cborReads_holds

end Go.Proofs.Ytkaeklcmhoidjaa
