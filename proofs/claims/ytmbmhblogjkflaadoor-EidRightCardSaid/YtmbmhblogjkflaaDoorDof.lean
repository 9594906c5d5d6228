/-
  Contracts of dromondref10.Text and Parse. Conditions: none.
-/
import Derived.Test.YtmbmhblogjkflaaDoorDoc
import Derived.Test.YtmbmhblogjkflaaDoorDoe
namespace Go.Proofs.YtmbmhblogjkflaaDoor
namespace Eid
open Go.ChangeShapes Go.WideShapes Go.ChangeAt Go.RowKit
set_option linter.unusedVariables false
set_option linter.unusedSimpArgs false
set_option maxRecDepth 100000

theorem rtext_dtn (nm : ByteArray) (hs : nm.size ≤ 60) (w : World) : Calls Tryd.prog 13 #[eV ⟨1, nm, 0, 0⟩] w fun r w' => r = .returned (.string (dtnB ++ nm)) ∧ Below w.heap.size w w' := by
  simp only [eV, Int.cast_ofNat_Int]
  go_enter Tryd.func13, Tryd.ntmps13
  go_wp2
  go_ret
  exact ⟨rfl, (Below.refl _ _).alloc (Nat.le_refl _) _⟩

set_option maxHeartbeats 32000000 in
theorem rtext_ipn (nm : ByteArray) (nd sv : Nat) (hnd : nd ≤ 4294967295) (hsv : sv ≤ 4294967295) (w : World) : Calls Tryd.prog 13 #[eV ⟨2, nm, nd, sv⟩] w fun r w' => r = .returned (.string (ipnB ++ digB nd ++ dotB ++ digB sv)) ∧ Below w.heap.size w w' := by
  have s1 := digB_size (show nd < 18446744073709551616 by omega)
  have s2 := digB_size (show sv < 18446744073709551616 by omega)
  have HD1 := Lib.hid (fun w => rdigits nd (by omega) w)
  have HD2 := Lib.hid (fun w => rdigits sv (by omega) w)
  generalize digB nd = d1 at *
  generalize digB sv = d2 at *
  have t1 : ¬ 9223372036854775807 < 4 + d1.size := by omega
  have t2 : ¬ 9223372036854775807 < 4 + d1.size + 1 := by omega
  have t3 : ¬ 9223372036854775807 < 4 + d1.size + 1 + d2.size := by omega
  have hz := EB.box1 w ⟨2, nm, nd, sv⟩ (Below.refl _ _)
  generalize hW : w.alloc (.cells (eCells ⟨2, nm, nd, sv⟩) 24 (0, 0)) = w1 at hz
  have HB := Lib.hid hz
  have hlt := hz.1.lt
  obtain ⟨c0, c1, c2, c3⟩ := hz.1.cells
  clear hz hnd hsv
  simp only [eV, eCells, Int.cast_ofNat_Int, ipnB, dotB] at c0 c1 c2 c3 hW ⊢
  have hkp : ∀ X, Below w1.heap.size w1 X → X.cell? ⟨w.heap.size, 2, none⟩ = some (.int .u64 (nd : Nat)) ∧ X.cell? ⟨w.heap.size, 3, none⟩ = some (.int .u64 (sv : Nat)) := fun X hX => ⟨(HB.out.1.below hX hlt).cells.2.2.1, (HB.out.1.below hX hlt).cells.2.2.2⟩
  have HKP := Lib.hid hkp; clear hkp
  have hd0 : Below w1.heap.size w1 w1.drew := (Below.refl _ _).drew
  have hd1 : Below w1.heap.size w1 w1 := Below.refl _ _
  go_enter Tryd.func13, Tryd.ntmps13
  go_upto_region 1 with fail
  clear hW
  go_upto_region 3 with fail
  go_region_held3 (fun X => X.cell? ⟨w.heap.size, 2, none⟩ = some (.int .u64 (nd : Nat)) ∧ X.cell? ⟨w.heap.size, 3, none⟩ = some (.int .u64 (sv : Nat))) ((refine HKP.out _ ?_; (with_reducible assumption)))
    ((go_at_call 28; first | (with_reducible refine (HD1.out _).mono ?_; rintro e' w' ⟨rfl, hb⟩; have hw := Below.trans (by with_reducible assumption) (hb.mono (Below.size (by with_reducible assumption)))) | (with_reducible refine (HD2.out _).mono ?_; rintro e' w' ⟨rfl, hb⟩; have hw := Below.trans (by with_reducible assumption) (hb.mono (Below.size (by with_reducible assumption))))))
  all_goals
    have HFIN := Lib.hid (HB.out.2.trans (Below.mono hw HB.out.2.size))
    clear hw hb
    go_wp2
    go_ret
    exact ⟨rfl, HFIN.out⟩

theorem rtext (e : Nm) (h : Right e) (w : World) : Calls Tryd.prog 13 #[eV e] w fun r w' => r = .returned (.string (txtB e)) ∧ Below w.heap.size w w' := by
  obtain ⟨s, nm, nd, sv⟩ := e
  rcases h with ⟨h1, h2, h3, h4⟩ | ⟨h1, h2, h3, h4, h5⟩
  · have h1' : s = 2 := h1
    subst h1'
    exact rtext_ipn nm nd sv h3 h4 w
  · have h1' : s = 1 := h1
    have h2' : nd = 0 := h2
    have h3' : sv = 0 := h3
    subst h1' h2' h3'
    exact rtext_dtn nm h4 w

/-! ### Plain -/
theorem nb_extract (s : ByteArray) (a b : Nat) : nb (s.extract a b) = ((nb s).drop a).take (b - a) := by
  unfold nb
  rw [ByteArray.data_extract, Array.toList_extract, List.extract_eq_take_drop]
  simp [List.map_take, List.map_drop]
theorem txt_shape {f : Nm} (hf : Right f) : (f.scheme = 1 ∧ f.node = 0 ∧ f.service = 0 ∧ nb (txtB f) = 100 :: 116 :: 110 :: 58 :: nb f.name) ∨ (f.scheme = 2 ∧ f.name = ⟨#[]⟩ ∧ f.node ≤ 4294967295 ∧ f.service ≤ 4294967295 ∧ nb (txtB f) = 105 :: 112 :: 110 :: 58 :: (dig f.node ++ 46 :: dig f.service)) := by
  rw [nb_txtB hf]
  unfold txt
  rcases hf with ⟨h1, h2, h3, h4⟩ | ⟨h1, h2, h3, h4, h5⟩
  · exact .inr ⟨h1, h2, h3, h4, by rw [if_neg (by omega)]; rfl⟩
  · exact .inl ⟨h1, h2, h3, by rw [if_pos h1]; rfl⟩
theorem txt_size {f : Nm} (hf : Right f) : 4 ≤ (txtB f).size ∧ (txtB f).size ≤ 100 := by
  have h := txt_len hf
  rw [← nb_txtB hf, nb_length] at h
  have h4 : 4 ≤ (nb (txtB f)).length := by
    rcases txt_shape hf with ⟨-, -, -, h⟩ | ⟨-, -, -, -, h⟩ <;> rw [h] <;> simp
  rw [nb_length] at h4
  omega
/-- No stroke between the numbers: the text is of scheme 1. -/
theorem end_good (s : ByteArray) (hI : s.extract 0 4 = ipnB → ∀ j, 4 ≤ j → j < s.size → (nb s)[j]? ≠ some 46) : ∀ f, Right f → txtB f = s → (⟨1, s.extract 4 s.size, 0, 0⟩ : Nm) = f := by
  intro f hf ht
  obtain ⟨sc, nm, nd, sv⟩ := f
  rcases txt_shape hf with ⟨h1, h2, h3, h4⟩ | ⟨h1, h2, h3, h4, h5⟩
  · have h1' : sc = 1 := h1
    have h2' : nd = 0 := h2
    have h3' : sv = 0 := h3
    subst h1' h2' h3'
    rw [ht] at h4
    have : s.extract 4 s.size = nm := by
      apply nb_inj
      rw [nb_extract, List.take_of_length_le (by rw [List.length_drop, nb_length]; omega), h4]
      rfl
    rw [this]
  · exfalso
    rw [ht] at h5
    have he : s.extract 0 4 = ipnB := by
      apply nb_inj
      rw [nb_extract, h5]
      rfl
    have hlen := nb_length s
    rw [h5] at hlen
    simp only [List.length_cons, List.length_append] at hlen
    refine hI he (4 + (dig nd).length) (by omega) (by omega) ?_
    rw [h5, show 4 + (dig nd).length = (dig nd).length + 1 + 1 + 1 + 1 by omega]
    simp only [List.getElem?_cons_succ]
    rw [List.getElem?_append_right (Nat.le_refl _), Nat.sub_self]
    rfl
theorem dot_first {a b : List Nat} {k : Nat} (ha : (46 : Nat) ∉ a) (h : (a ++ 46 :: b)[k]? = some 46) (hno : ∀ j, j < k → (a ++ 46 :: b)[j]? ≠ some 46) : k = a.length := by
  rcases Nat.lt_trichotomy k a.length with h1 | h1 | h1
  · exfalso
    rw [List.getElem?_append_left h1] at h
    exact ha (List.mem_of_getElem? h)
  · exact h1
  · exfalso
    refine hno a.length h1 ?_
    rw [List.getElem?_append_right (Nat.le_refl _), Nat.sub_self]
    rfl
/-- The first stroke: the text is of scheme 2. -/
theorem dot_good (s : ByteArray) (hI : s.extract 0 4 = ipnB) (k : Nat) (h4 : 4 ≤ k) (hk : (nb s)[k]? = some 46) (hno : ∀ j, 4 ≤ j → j < k → (nb s)[j]? ≠ some 46) (v1 v2 : Nat)
    (hv1 : (s.extract 4 k).size ≤ 10 → (∀ c ∈ nb (s.extract 4 k), isDig c) → v1 = val (nb (s.extract 4 k))) (hv2 : (s.extract (k + 1) s.size).size ≤ 10 → (∀ c ∈ nb (s.extract (k + 1) s.size), isDig c) → v2 = val (nb (s.extract (k + 1) s.size))) : ∀ f, Right f → txtB f = s → (⟨2, ⟨#[]⟩, v1, v2⟩ : Nm) = f := by
  intro f hf ht
  obtain ⟨sc, nm, nd, sv⟩ := f
  rcases txt_shape hf with ⟨h1, h2, h3, h5⟩ | ⟨h1, h2, h3, h5, h6⟩
  · exfalso
    rw [ht] at h5
    have := congrArg nb hI
    rw [nb_extract, h5] at this
    cases this
  · rw [ht] at h6
    obtain ⟨j, rfl⟩ : ∃ j, k = j + 1 + 1 + 1 + 1 := ⟨k - 4, by omega⟩
    rw [h6] at hk
    simp only [List.getElem?_cons_succ] at hk
    have hj : j = (dig nd).length := dot_first (dot_not (dig_digits nd)) hk fun i hi e => by
      refine hno (i + 1 + 1 + 1 + 1) (by omega) (by omega) ?_
      rw [h6]
      simpa only [List.getElem?_cons_succ] using e
    have h3' : nd ≤ 4294967295 := h3
    have h5' : sv ≤ 4294967295 := h5
    have e1 : nb (s.extract 4 (j + 1 + 1 + 1 + 1)) = dig nd := by
      rw [nb_extract, h6, show j + 1 + 1 + 1 + 1 - 4 = j by omega, hj]
      show (dig nd ++ 46 :: dig sv).take _ = _
      rw [List.take_left]
    have e2 : nb (s.extract (j + 1 + 1 + 1 + 1 + 1) s.size) = dig sv := by
      have hlen := nb_length s
      rw [h6] at hlen
      simp only [List.length_cons, List.length_append] at hlen
      rw [nb_extract, List.take_of_length_le (by rw [List.length_drop, nb_length]; omega), h6]
      show (dig nd ++ 46 :: dig sv).drop (j + 1) = _
      rw [hj, show dig nd ++ 46 :: dig sv = (dig nd ++ [46]) ++ dig sv by simp, show (dig nd).length + 1 = (dig nd ++ [46]).length by simp, List.drop_left]
    have k1 := hv1 (by rw [← nb_length, e1]; exact dig_len h3') (by rw [e1]; exact dig_digits nd)
    have k2 := hv2 (by rw [← nb_length, e2]; exact dig_len h5') (by rw [e2]; exact dig_digits sv)
    rw [e1, val_dig (by omega)] at k1
    rw [e2, val_dig (by omega)] at k2
    have h1' : sc = 2 := h1
    have h2' : nm = ⟨#[]⟩ := h2
    rw [h1', h2', k1, k2]

set_option maxHeartbeats 8000000 in
theorem rparse_not (s : ByteArray) (hs : s.size < 4 ∨ 100 < s.size) (hz : s.size ≤ 1099511627776) (w : World) : Calls Tryd.prog 19 #[.string s] w fun r w' => ∃ e c, r = .returned (.tuple #[eV e, .int .i64 c]) ∧ ParseR s e c ∧ Below w.heap.size w w' := by
  have hno : ¬ ∃ f, Right f ∧ txtB f = s := by
    rintro ⟨f, hf, ht⟩
    have := txt_size hf
    rw [ht] at this
    omega
  have HNO := Lib.hid hno; clear hno
  have q4 : s.size < 4 → decide ((s.size : Int) < 4) = true := fun h => by simp; omega
  by_cases h4 : s.size < 4
  · have q4 : decide ((s.size : Int) < 4) = true := by simp; omega
    clear hs
    go_enter Tryd.func19, Tryd.ntmps19
    go_wp2
    exact bodyPost_ret (v := .tuple #[eV zeroE, .int .i64 2]) (by simp [results, Tryd.results19, go_sem, eV, zeroE]) rfl ⟨zeroE, 2, rfl, .inr ⟨HNO.out, rfl, rfl⟩, (Below.refl _ _).alloc (Nat.le_refl _) _⟩
  · have q4 : decide ((s.size : Int) < 4) = false := by simp; omega
    have q5 : decide ((100 : Int) < (s.size : Int)) = true := by simp; omega
    clear hs
    go_enter Tryd.func19, Tryd.ntmps19
    go_wp2
    exact bodyPost_ret (v := .tuple #[eV zeroE, .int .i64 2]) (by simp [results, Tryd.results19, go_sem, eV, zeroE]) rfl ⟨zeroE, 2, rfl, .inr ⟨HNO.out, rfl, rfl⟩, (Below.refl _ _).alloc (Nat.le_refl _) _⟩

set_option maxHeartbeats 64000000 in
theorem rparse_yes (s : ByteArray) (h4 : 4 ≤ s.size) (h100 : s.size ≤ 100) (w : World) : Calls Tryd.prog 19 #[.string s] w fun r w' => ∃ e c, r = .returned (.tuple #[eV e, .int .i64 c]) ∧ ParseR s e c ∧ Below w.heap.size w w' := by
  obtain ⟨hy, hz, hbl⟩ := EB.box2 w zeroE ⟨1, s.extract 4 s.size, 0, 0⟩ (Below.refl _ _)
  generalize hW : (w.alloc (.cells (eCells zeroE) 24 (0, 0))).alloc (.cells (eCells ⟨1, s.extract 4 s.size, 0, 0⟩) 24 (0, 0)) = w1 at hy hz hbl
  have HB := Lib.hid (And.intro hz (And.intro hy hbl)); clear hz hy hbl
  have q4 : decide ((s.size : Int) < 4) = false := by simp; omega
  have q5 : decide ((100 : Int) < (s.size : Int)) = false := by simp; omega
  have q6 : (4 : Int) ≤ (s.size : Int) := by omega
  simp only [eCells, zeroE, Int.cast_ofNat_Int] at hW
  have HWW := Lib.hid hW; clear hW
  have hel : (s.extract 4 s.size).size ≤ 1099511627776 := by rw [ByteArray.size_extract]; omega
  obtain ⟨i, hi⟩ : ∃ i : Bool, i = true ↔ s.extract 0 4 = ipnB := by
    by_cases h : s.extract 0 4 = ipnB
    · exact ⟨true, fun _ => h, fun _ => rfl⟩
    · exact ⟨false, fun h => (by cases h), fun k => absurd k h⟩
  have qi : ((s.extract 0 4).toList == ([105, 112, 110, 58] : List UInt8)) = i := by
    have h : ((s.extract 0 4).toList == ipnB.toList) = i := by
      rw [text_beq, Bool.eq_iff_iff, decide_eq_true_iff, hi]
    rwa [ipnB, ByteArray.toList_eq (bs := ⟨#[105, 112, 110, 58]⟩)] at h
  have HI := Lib.hid hi; clear hi
  have HSZ := Lib.hid (And.intro h4 (And.intro h100 hel)); clear h4 h100 hel
  go_enter Tryd.func19, Tryd.ntmps19
  go_upto_region 4 with fail
  rw [HWW.out]
  clear HWW
  go_wp2_with fail
  go_loopw [5] (fun x wr => ∃ k : Nat, 4 ≤ k ∧ k ≤ s.size ∧ x = .int .i64 (k : Nat) ∧ wr = w1 ∧ (i = true → ∀ j, 4 ≤ j → j < k → (nb s)[j]? ≠ some 46)) (fun x _ => s.size - (intOf x).toNat)
  case atStart => exact ⟨4, Nat.le_refl _, HSZ.out.1, rfl, rfl, fun _ j h1 h2 => by omega⟩
  case round =>
    obtain ⟨k, hk4, hk, rfl, rfl, hno⟩ := hrel
    by_cases hlt : k < s.size
    · have h100 := HSZ.out.2.1
      obtain ⟨x, hx⟩ : ∃ x, x = s[k].toNat := ⟨_, rfl⟩
      have hxe : (nb s)[k]? = some x := by rw [nb_get s k hlt, hx]
      have xa : (s[k].toNat : Int) = (x : Int) := by rw [hx]
      have hkI : (k : Int) < (s.size : Int) := by omega
      have hk0 : (0 : Int) ≤ (k : Int) := by omega
      have hj1 : IntKind.i64.wrap ((k : Int) + 1) = ((k + 1 : Nat) : Int) := by rw [IntKind.wrap_i64]; omega
      have hnext : (i = true → x ≠ 46) → i = true → ∀ j, 4 ≤ j → j < k + 1 → (nb s)[j]? ≠ some 46 := fun h hi j h1 h2 => by
        rcases Nat.lt_or_ge j k with h3 | h3
        · exact hno hi j h1 h3
        · obtain rfl : j = k := by omega
          rw [hxe]
          exact fun e => h hi (Option.some.inj e)
      cases i with
      | false =>
        have HN := Lib.hid (hnext (fun h => by cases h))
        clear hnext hno hx hxe
        go_wp2
        go_roundw
        case rel => exact ⟨k + 1, by omega, hlt, rfl, trivial, by first | exact HN.out | exact fun _ => HN.out rfl | (intro h; cases h)⟩
        case measure => simp [intOf]; omega
      | true =>
        by_cases hx46 : x = 46
        · have g1 : ((x : Int) == 46) = true := by simp; omega
          have g2 : decide ((x : Int) = 46) = true := by simp; omega
          have hno' := hno rfl
          have hkdot : (nb s)[k]? = some 46 := by rw [hxe, hx46]
          have l1 : (s.extract 4 k).size ≤ 1099511627776 := by rw [ByteArray.size_extract]; omega
          have l2 : (s.extract (k + 1) s.size).size ≤ 1099511627776 := by rw [ByteArray.size_extract]; omega
          have HV1 := Lib.hid (fun w => rvalue (s.extract 4 k) l1 w)
          have HV2 := Lib.hid (fun w => rvalue (s.extract (k + 1) s.size) l2 w)
          have HD := Lib.hid (And.intro hkdot hno')
          have b1 : (4 : Int) ≤ (k : Int) := by omega
          have b2 : (k : Int) ≤ (s.size : Int) := by omega
          have b3 : ((k + 1 : Nat) : Int) ≤ (s.size : Int) := by omega
          have b4 : (0 : Int) ≤ ((k + 1 : Nat) : Int) := by omega
          obtain ⟨k2, hk2⟩ : ∃ k2, k2 = k + 1 := ⟨_, rfl⟩
          rw [← hk2] at hj1 b3 b4 HV2
          have HK2 := Lib.hid hk2
          have HX46 := Lib.hid hx46
          generalize hE1 : s.extract 4 k = x1 at *
          generalize hE2 : s.extract k2 s.size = x2 at *
          have hd0 : Below wr.heap.size wr wr.drew := (Below.refl _ _).drew
          have hd1 : Below wr.heap.size wr wr := Below.refl _ _
          have hkp : ∀ X, Below wr.heap.size wr X → (X.cell? ⟨w.heap.size + 1, 0, none⟩ = some (.int .i64 1) ∧ X.cell? ⟨w.heap.size + 1, 1, none⟩ = some (.string (s.extract 4 s.size)) ∧ X.cell? ⟨w.heap.size + 1, 2, none⟩ = some (.int .u64 0) ∧ X.cell? ⟨w.heap.size + 1, 3, none⟩ = some (.int .u64 0)) ∧ ∀ i, X.frozen? ⟨w.heap.size + 1, i, none⟩ = false := fun X hX =>
            ⟨(HB.out.1.below hX HB.out.1.lt).cells, (HB.out.1.below hX HB.out.1.lt).free⟩
          have HKP := Lib.hid hkp; clear hkp
          clear hnext hno hno' hkdot hx hxe l1 l2 hx46 hk2
          go_upto_region 8 with fail
          go_region_with ((go_at_call 37; first | (with_reducible refine (HV1.out _).mono ?_; rintro e' w' ⟨v1, rfl, l1, hv1, hb⟩) | (with_reducible refine (HV2.out _).mono ?_; rintro e' w' ⟨v2, rfl, l2, hv2, hb⟩)); have hw := Below.trans (by with_reducible assumption) (hb.mono (Below.size (by with_reducible assumption))); obtain ⟨⟨a0, a1, a2, a3⟩, af⟩ := HKP.out _ hw)
          all_goals
            have he9 := HB.out.1.below hw HB.out.1.lt
            have hz9 := HB.out.2.1.below hw HB.out.2.1.lt
            have hbl9 := HB.out.2.2.trans (Below.mono hw HB.out.2.2.size)
            clear hw hb a0 a1 a2 a3 af
            have hgd := dot_good s (HI.out.1 (by first | rfl | trivial)) k hk4 HD.out.1 HD.out.2 v1 v2 (by rw [hE1]; exact hv1) (by rw [← HK2.out, hE2]; exact hv2)
            have HGD := Lib.hid hgd; clear hgd
            have HSM := Lib.hid (show (⟨#[]⟩ : ByteArray).size ≤ 1099511627776 by decide)
            clear hv1 hv2
            generalize hF : ((((w'.setCell ⟨w.heap.size + 1, 0, none⟩ (.int .i64 2)).setCell ⟨w.heap.size + 1, 1, none⟩ (.string ⟨#[]⟩)).setCell ⟨w.heap.size + 1, 2, none⟩ (.int .u64 (v1 : Nat))).setCell ⟨w.heap.size + 1, 3, none⟩ (.int .u64 (v2 : Nat))) = X
            obtain ⟨h1, h2, h3⟩ := he9.set_end (f := ⟨2, ⟨#[]⟩, v1, v2⟩) (B := w.heap.size) (by omega) X hF
            have HE := Lib.hid (And.intro h1 (And.intro (show EB X w.heap.size zeroE from (h3 _ (by omega)).trans hz9) (hbl9.trans h2))); clear h1 h2 h3 he9 hz9 hbl9 hF
            obtain ⟨c0, c1, c2, c3⟩ := HE.out.1.cells
            obtain ⟨r, hr⟩ : ∃ r, r = decide (Right ⟨2, ⟨#[]⟩, v1, v2⟩) := ⟨_, rfl⟩
            have hr' : r = true ↔ Right ⟨2, ⟨#[]⟩, v1, v2⟩ := by rw [hr]; exact decide_eq_true_iff
            have HRR := Lib.hid (fun w => rright ⟨2, ⟨#[]⟩, v1, v2⟩ r hr' HSM.out w)
            have HTT := Lib.hid (fun (h : r = true) w => rtext ⟨2, ⟨#[]⟩, v1, v2⟩ (hr'.1 h) w)
            obtain ⟨tb, htb⟩ : ∃ tb, tb = txtB ⟨2, ⟨#[]⟩, v1, v2⟩ := ⟨_, rfl⟩
            rw [← htb] at HTT
            have HRE := Lib.hid (And.intro hr' htb); clear hr hr' htb
            simp only [eV, Int.cast_ofNat_Int] at HRR HTT c0 c1 c2 c3
            go_wp2_with fail
            refine (HRR.out _).mono ?_
            rintro _ X2 ⟨rfl, hb⟩
            have he2 := HE.out.1.below hb HE.out.1.lt
            have hz2 := HE.out.2.1.below hb HE.out.2.1.lt
            have hbl2 := HE.out.2.2.trans (hb.mono HE.out.2.2.size)
            clear hb c0 c1 c2 c3 HE
            have HE := Lib.hid (And.intro he2 (And.intro hz2 hbl2)); clear he2 hz2 hbl2
            cases r with
            | false =>
              have hno : ¬ ∃ f, Right f ∧ txtB f = s := by
                rintro ⟨f, hf, ht⟩
                have := HGD.out f hf ht
                have := HRE.out.1.2 (this ▸ hf)
                cases this
              have HNO := Lib.hid hno; clear hno
              obtain ⟨r0, r1, r2, r3⟩ := HE.out.2.1.cells
              have rf := HE.out.2.1.free
              simp only [zeroE, Int.cast_ofNat_Int] at r0 r1 r2 r3
              go_wp2
              generalize hF : ((((X2.setCell ⟨w.heap.size, 0, none⟩ (.int .i64 0)).setCell ⟨w.heap.size, 1, none⟩ (.string ⟨#[]⟩)).setCell ⟨w.heap.size, 2, none⟩ (.int .u64 0)).setCell ⟨w.heap.size, 3, none⟩ (.int .u64 0)) = F
              obtain ⟨h1, h2, -⟩ := HE.out.2.1.set_end (f := zeroE) (B := w.heap.size) (Nat.le_refl _) F hF
              obtain ⟨f0, f1, f2, f3⟩ := h1.cells
              clear hF
              exact bodyPost_ret (v := .tuple #[eV zeroE, .int .i64 2]) (by simp [results, Tryd.results19, go_sem, f0, f1, f2, f3, eV, zeroE]) rfl ⟨zeroE, 2, rfl, .inr ⟨HNO.out, rfl, rfl⟩, HE.out.2.2.trans h2⟩
            | true =>
              have HT2 := Lib.hid (HTT.out (by first | rfl | trivial)); clear HTT
              obtain ⟨c0, c1, c2, c3⟩ := HE.out.1.cells
              simp only [Int.cast_ofNat_Int] at c0 c1 c2 c3
              go_wp2_with fail
              refine (HT2.out _).mono ?_
              rintro _ X3 ⟨rfl, hb⟩
              have he2 := HE.out.1.below hb HE.out.1.lt
              have hz2 := HE.out.2.1.below hb HE.out.2.1.lt
              have hbl2 := HE.out.2.2.trans (hb.mono HE.out.2.2.size)
              clear hb c0 c1 c2 c3 HE
              have HE := Lib.hid (And.intro he2 (And.intro hz2 hbl2)); clear he2 hz2 hbl2
              obtain ⟨c0, c1, c2, c3⟩ := HE.out.1.cells
              obtain ⟨r0, r1, r2, r3⟩ := HE.out.2.1.cells
              have rf := HE.out.2.1.free
              simp only [zeroE, Int.cast_ofNat_Int] at r0 r1 r2 r3 c0 c1 c2 c3
              by_cases heq : tb = s
              · have q1 : (tb.toList == s.toList) = true := by rw [text_beq]; exact decide_eq_true heq
                have q2 : (tb.toList != s.toList) = false := by rw [bne, q1]; rfl
                have HQ := Lib.hid heq; clear heq
                go_wp2
                generalize hF : ((((X3.setCell ⟨w.heap.size, 0, none⟩ (.int .i64 2)).setCell ⟨w.heap.size, 1, none⟩ (.string ⟨#[]⟩)).setCell ⟨w.heap.size, 2, none⟩ (.int .u64 (v1 : Nat))).setCell ⟨w.heap.size, 3, none⟩ (.int .u64 (v2 : Nat))) = F
                obtain ⟨h1, h2, -⟩ := HE.out.2.1.set_end (f := ⟨2, ⟨#[]⟩, v1, v2⟩) (B := w.heap.size) (Nat.le_refl _) F hF
                obtain ⟨f0, f1, f2, f3⟩ := h1.cells
                clear hF
                exact bodyPost_ret (v := .tuple #[eV ⟨2, ⟨#[]⟩, v1, v2⟩, .int .i64 0]) (by simp [results, Tryd.results19, go_sem, f0, f1, f2, f3, eV]) rfl ⟨⟨2, ⟨#[]⟩, v1, v2⟩, 0, rfl, .inl ⟨HRE.out.1.1 (by first | rfl | trivial), HRE.out.2.symm.trans HQ.out, rfl⟩, HE.out.2.2.trans h2⟩
              · have q1 : (tb.toList == s.toList) = false := by rw [text_beq]; exact decide_eq_false heq
                have q2 : (tb.toList != s.toList) = true := by rw [bne, q1]; rfl
                have hno : ¬ ∃ f, Right f ∧ txtB f = s := by
                  rintro ⟨f, hf, ht⟩
                  have := HGD.out f hf ht
                  apply heq
                  rw [HRE.out.2, this]; exact ht
                have HNO := Lib.hid hno; clear heq hno
                go_wp2
                generalize hF : ((((X3.setCell ⟨w.heap.size, 0, none⟩ (.int .i64 0)).setCell ⟨w.heap.size, 1, none⟩ (.string ⟨#[]⟩)).setCell ⟨w.heap.size, 2, none⟩ (.int .u64 0)).setCell ⟨w.heap.size, 3, none⟩ (.int .u64 0)) = F
                obtain ⟨h1, h2, -⟩ := HE.out.2.1.set_end (f := zeroE) (B := w.heap.size) (Nat.le_refl _) F hF
                obtain ⟨f0, f1, f2, f3⟩ := h1.cells
                clear hF
                exact bodyPost_ret (v := .tuple #[eV zeroE, .int .i64 2]) (by simp [results, Tryd.results19, go_sem, f0, f1, f2, f3, eV, zeroE]) rfl ⟨zeroE, 2, rfl, .inr ⟨HNO.out, rfl, rfl⟩, HE.out.2.2.trans h2⟩
        · have g1 : ((x : Int) == 46) = false := by simp; omega
          have g2 : decide ((x : Int) = 46) = false := by simp; omega
          have HN := Lib.hid (hnext (fun _ => hx46))
          clear hnext hno hx hxe hx46
          go_wp2
          go_roundw
          case rel => exact ⟨k + 1, by omega, hlt, rfl, trivial, by first | exact HN.out | exact fun _ => HN.out rfl | (intro h; cases h)⟩
          case measure => simp [intOf]; omega
    · have hke : k = s.size := by omega
      subst hke
      have q7 : decide ((s.size : Int) < (s.size : Int)) = false := by simp
      have hgd := end_good s (fun h => hno (HI.out.2 h))
      have HGD := Lib.hid hgd; clear hgd hno
      have HSM := Lib.hid HSZ.out.2.2
      have HE := HB
      obtain ⟨c0, c1, c2, c3⟩ := HE.out.1.cells
      obtain ⟨r, hr⟩ : ∃ r, r = decide (Right ⟨1, s.extract 4 s.size, 0, 0⟩) := ⟨_, rfl⟩
      have hr' : r = true ↔ Right ⟨1, s.extract 4 s.size, 0, 0⟩ := by rw [hr]; exact decide_eq_true_iff
      have HRR := Lib.hid (fun w => rright ⟨1, s.extract 4 s.size, 0, 0⟩ r hr' HSM.out w)
      have HTT := Lib.hid (fun (h : r = true) w => rtext ⟨1, s.extract 4 s.size, 0, 0⟩ (hr'.1 h) w)
      obtain ⟨tb, htb⟩ : ∃ tb, tb = txtB ⟨1, s.extract 4 s.size, 0, 0⟩ := ⟨_, rfl⟩
      rw [← htb] at HTT
      have HRE := Lib.hid (And.intro hr' htb); clear hr hr' htb
      simp only [eV, Int.cast_ofNat_Int] at HRR HTT c0 c1 c2 c3
      go_wp2_with fail
      refine (HRR.out _).mono ?_
      rintro _ X2 ⟨rfl, hb⟩
      have he2 := HE.out.1.below hb HE.out.1.lt
      have hz2 := HE.out.2.1.below hb HE.out.2.1.lt
      have hbl2 := HE.out.2.2.trans (hb.mono HE.out.2.2.size)
      clear hb c0 c1 c2 c3 HE
      have HE := Lib.hid (And.intro he2 (And.intro hz2 hbl2)); clear he2 hz2 hbl2
      cases r with
      | false =>
        have hno : ¬ ∃ f, Right f ∧ txtB f = s := by
          rintro ⟨f, hf, ht⟩
          have := HGD.out f hf ht
          have := HRE.out.1.2 (this ▸ hf)
          cases this
        have HNO := Lib.hid hno; clear hno
        obtain ⟨r0, r1, r2, r3⟩ := HE.out.2.1.cells
        have rf := HE.out.2.1.free
        simp only [zeroE, Int.cast_ofNat_Int] at r0 r1 r2 r3
        go_wp2
        generalize hF : ((((X2.setCell ⟨w.heap.size, 0, none⟩ (.int .i64 0)).setCell ⟨w.heap.size, 1, none⟩ (.string ⟨#[]⟩)).setCell ⟨w.heap.size, 2, none⟩ (.int .u64 0)).setCell ⟨w.heap.size, 3, none⟩ (.int .u64 0)) = F
        obtain ⟨h1, h2, -⟩ := HE.out.2.1.set_end (f := zeroE) (B := w.heap.size) (Nat.le_refl _) F hF
        obtain ⟨f0, f1, f2, f3⟩ := h1.cells
        clear hF
        exact bodyPost_ret (v := .tuple #[eV zeroE, .int .i64 2]) (by simp [results, Tryd.results19, go_sem, f0, f1, f2, f3, eV, zeroE]) rfl ⟨zeroE, 2, rfl, .inr ⟨HNO.out, rfl, rfl⟩, HE.out.2.2.trans h2⟩
      | true =>
        have HT2 := Lib.hid (HTT.out (by first | rfl | trivial)); clear HTT
        obtain ⟨c0, c1, c2, c3⟩ := HE.out.1.cells
        simp only [Int.cast_ofNat_Int] at c0 c1 c2 c3
        go_wp2_with fail
        refine (HT2.out _).mono ?_
        rintro _ X3 ⟨rfl, hb⟩
        have he2 := HE.out.1.below hb HE.out.1.lt
        have hz2 := HE.out.2.1.below hb HE.out.2.1.lt
        have hbl2 := HE.out.2.2.trans (hb.mono HE.out.2.2.size)
        clear hb c0 c1 c2 c3 HE
        have HE := Lib.hid (And.intro he2 (And.intro hz2 hbl2)); clear he2 hz2 hbl2
        obtain ⟨c0, c1, c2, c3⟩ := HE.out.1.cells
        obtain ⟨r0, r1, r2, r3⟩ := HE.out.2.1.cells
        have rf := HE.out.2.1.free
        simp only [zeroE, Int.cast_ofNat_Int] at r0 r1 r2 r3 c0 c1 c2 c3
        by_cases heq : tb = s
        · have q1 : (tb.toList == s.toList) = true := by rw [text_beq]; exact decide_eq_true heq
          have q2 : (tb.toList != s.toList) = false := by rw [bne, q1]; rfl
          have HQ := Lib.hid heq; clear heq
          go_wp2
          generalize hF : ((((X3.setCell ⟨w.heap.size, 0, none⟩ (.int .i64 1)).setCell ⟨w.heap.size, 1, none⟩ (.string (s.extract 4 s.size))).setCell ⟨w.heap.size, 2, none⟩ (.int .u64 0)).setCell ⟨w.heap.size, 3, none⟩ (.int .u64 0)) = F
          obtain ⟨h1, h2, -⟩ := HE.out.2.1.set_end (f := ⟨1, s.extract 4 s.size, 0, 0⟩) (B := w.heap.size) (Nat.le_refl _) F hF
          obtain ⟨f0, f1, f2, f3⟩ := h1.cells
          clear hF
          exact bodyPost_ret (v := .tuple #[eV ⟨1, s.extract 4 s.size, 0, 0⟩, .int .i64 0]) (by simp [results, Tryd.results19, go_sem, f0, f1, f2, f3, eV]) rfl ⟨⟨1, s.extract 4 s.size, 0, 0⟩, 0, rfl, .inl ⟨HRE.out.1.1 (by first | rfl | trivial), HRE.out.2.symm.trans HQ.out, rfl⟩, HE.out.2.2.trans h2⟩
        · have q1 : (tb.toList == s.toList) = false := by rw [text_beq]; exact decide_eq_false heq
          have q2 : (tb.toList != s.toList) = true := by rw [bne, q1]; rfl
          have hno : ¬ ∃ f, Right f ∧ txtB f = s := by
            rintro ⟨f, hf, ht⟩
            have := HGD.out f hf ht
            apply heq
            rw [HRE.out.2, this]; exact ht
          have HNO := Lib.hid hno; clear heq hno
          go_wp2
          generalize hF : ((((X3.setCell ⟨w.heap.size, 0, none⟩ (.int .i64 0)).setCell ⟨w.heap.size, 1, none⟩ (.string ⟨#[]⟩)).setCell ⟨w.heap.size, 2, none⟩ (.int .u64 0)).setCell ⟨w.heap.size, 3, none⟩ (.int .u64 0)) = F
          obtain ⟨h1, h2, -⟩ := HE.out.2.1.set_end (f := zeroE) (B := w.heap.size) (Nat.le_refl _) F hF
          obtain ⟨f0, f1, f2, f3⟩ := h1.cells
          clear hF
          exact bodyPost_ret (v := .tuple #[eV zeroE, .int .i64 2]) (by simp [results, Tryd.results19, go_sem, f0, f1, f2, f3, eV, zeroE]) rfl ⟨zeroE, 2, rfl, .inr ⟨HNO.out, rfl, rfl⟩, HE.out.2.2.trans h2⟩

/-- The reference's Parse. -/
theorem rparse (s : ByteArray) (hs : s.size ≤ 1099511627776) (w : World) : Calls Tryd.prog 19 #[.string s] w fun r w' => ∃ e c, r = .returned (.tuple #[eV e, .int .i64 c]) ∧ ParseR s e c ∧ Below w.heap.size w w' := by
  by_cases h4 : s.size < 4
  · exact rparse_not s (.inl h4) hs w
  · by_cases h100 : 100 < s.size
    · exact rparse_not s (.inr h100) hs w
    · exact rparse_yes s (by omega) (by omega) w
end Eid
end Go.Proofs.YtmbmhblogjkflaaDoor
