/-
  Contracts of eid.digits and Text. Conditions: as FormatUint's; names are of at most 2^40 bytes.
-/
import Derived.Test.YtmbmhblogjkflaaDoorDoa
import Derived.Deep.RegionHeld3
import Derived.Deep.DeepCutAuto
namespace Go.Proofs.YtmbmhblogjkflaaDoor
namespace Eid
open Go.ChangeShapes Go.WideShapes Go.ChangeAt Go.RowKit
set_option linter.unusedVariables false
set_option linter.unusedSimpArgs false
set_option maxRecDepth 100000

/-- A number's digits, as a string. -/
def digB (n : Nat) : ByteArray := ⟨(Lib.decDigits n).toArray⟩
theorem dec_dig : ∀ (f n : Nat), n < 10 ^ (f + 1) → (Lib.decDigits n).map UInt8.toNat = digF (f + 1) n := by
  intro f
  induction f with
  | zero =>
    intro n h
    have hn : n < 10 := h
    rw [Lib.decDigits, dif_pos hn]
    have e : digF (0 + 1) n = [48 + n] := if_pos hn
    rw [e]
    show [(UInt8.ofNat (48 + n)).toNat] = [48 + n]
    rw [UInt8.toNat_ofNat', Nat.mod_eq_of_lt (by omega)]
  | succ f ih =>
    intro n h
    by_cases hn : n < 10
    · rw [Lib.decDigits, dif_pos hn]
      have e : digF (f + 1 + 1) n = [48 + n] := if_pos hn
      rw [e]
      show [(UInt8.ofNat (48 + n)).toNat] = [48 + n]
      rw [UInt8.toNat_ofNat', Nat.mod_eq_of_lt (by omega)]
    · rw [Lib.decDigits, dif_neg hn]
      have e : digF (f + 1 + 1) n = digF (f + 1) (n / 10) ++ [48 + n % 10] := if_neg hn
      have hd : n / 10 < 10 ^ (f + 1) := by rw [Nat.pow_succ] at h; generalize 10 ^ (f + 1) = p at h ⊢; omega
      rw [e, List.map_append, ih _ hd]
      congr 1
      show [(UInt8.ofNat (48 + n % 10)).toNat] = [48 + n % 10]
      rw [UInt8.toNat_ofNat', Nat.mod_eq_of_lt (by omega)]
theorem nb_digB {n : Nat} (h : n < 10 ^ 20) : nb (digB n) = dig n := dec_dig 19 n h
theorem digB_size {n : Nat} (h : n < 18446744073709551616) : (digB n).size ≤ 20 := by
  rw [← nb_length, nb_digB (by omega)]
  exact digF_len 20 n 19 (by omega)

theorem digits_any' (u : Nat) (hu : u < 18446744073709551616) (w : World) (hk : KonT w) : Calls Tryd.prog 26 #[.int .u64 u] w fun e w' => e = .returned (.string (digB u)) ∧ Below w.heap.size w w' := by
  have HF := Lib.hid (fmt_any u hu w hk)
  clear hk hu
  have HG : Hid (Calls Tryd.prog 39 #[.int .u64 u, .int .i64 10] w fun e w' => e = .returned (.string (digB u)) ∧ Below w.heap.size w w') := by
    refine Lib.hid ?_
    go_enter Tryd.func39, Tryd.ntmps39
    go_wp2_with fail
    refine HF.out.mono ?_
    rintro e w' ⟨rfl, hb⟩
    have HB := Lib.hid hb; clear hb
    go_wp2
    go_ret
    exact ⟨rfl, HB.out⟩
  go_enter Tryd.func26, Tryd.ntmps26
  go_wp2_with fail
  refine HG.out.mono ?_
  rintro e w' ⟨rfl, hb⟩
  have HB := Lib.hid hb; clear hb
  go_wp2
  go_ret
  exact ⟨rfl, HB.out⟩

def dtnB : ByteArray := ⟨#[100, 116, 110, 58]⟩
def ipnB : ByteArray := ⟨#[105, 112, 110, 58]⟩
def dotB : ByteArray := ⟨#[46]⟩
/-- A right name's text, as a string. -/
def txtB (e : Nm) : ByteArray := if e.scheme = 1 then dtnB ++ e.name else ipnB ++ digB e.node ++ dotB ++ digB e.service
theorem nb_txtB {e : Nm} (h : Right e) : nb (txtB e) = txt e := by
  unfold txtB txt
  rcases h with ⟨h1, h2, h3, h4⟩ | ⟨h1, h2, h3, h4, h5⟩
  · rw [if_neg (by omega), if_neg (by omega), nb_append, nb_append, nb_append, nb_digB (by omega), nb_digB (by omega), List.append_assoc, List.append_assoc]
    rfl
  · rw [if_pos h1, if_pos h1, nb_append]
    rfl

set_option maxHeartbeats 16000000 in
theorem text_not (e : Nm) (h : ¬ Right e) (hs : e.name.size ≤ 1099511627776) (w : World) : Calls Tryd.prog 10 #[eV e] w fun r w' => r = .returned (.tuple #[.string ⟨#[]⟩, .int .i64 1]) ∧ Below w.heap.size w w' := by
  have HP := Lib.hid (fun w => pright e false ⟨fun h => (by cases h), fun k => absurd k h⟩ hs w)
  clear h hs
  obtain ⟨s, nm, nd, sv⟩ := e
  simp only [eV] at HP ⊢
  go_enter Tryd.func10, Tryd.ntmps10
  go_wp2_with fail
  refine (HP.out _).mono ?_
  rintro r w1 ⟨rfl, hb1⟩
  have HB := Lib.hid (((Below.refl w.heap.size w).alloc (Nat.le_refl _) _).trans (hb1.mono (by simp))); clear hb1
  go_wp2
  exact bodyPost_ret (results_tmp2 rfl _ _ _) rfl ⟨rfl, HB.out⟩

set_option maxHeartbeats 16000000 in
theorem text_dtn (nm : ByteArray) (h : Right ⟨1, nm, 0, 0⟩) (w : World) : Calls Tryd.prog 10 #[eV ⟨1, nm, 0, 0⟩] w fun r w' => r = .returned (.tuple #[.string (dtnB ++ nm), .int .i64 0]) ∧ Below w.heap.size w w' := by
  have hs : nm.size ≤ 60 := by
    rcases h with ⟨h, -⟩ | ⟨-, -, -, h, -⟩
    · exact absurd (show (1 : Int) = 2 from h) (by decide)
    · exact h
  have HP := Lib.hid (fun w => pright ⟨1, nm, 0, 0⟩ true ⟨fun _ => h, fun _ => rfl⟩ (by show nm.size ≤ _; omega) w)
  clear h
  simp only [eV, Int.cast_ofNat_Int] at HP ⊢
  go_enter Tryd.func10, Tryd.ntmps10
  go_wp2_with fail
  refine (HP.out _).mono ?_
  rintro r w1 ⟨rfl, hb1⟩
  have HB := Lib.hid (EB.box1 w ⟨1, nm, 0, 0⟩ hb1); clear hb1
  obtain ⟨c0, c1, c2, c3⟩ := HB.out.1.cells
  simp only [Int.cast_ofNat_Int] at c0 c1 c2 c3
  go_wp2
  exact bodyPost_ret (results_tmp2 rfl _ _ _) rfl ⟨rfl, HB.out.2⟩

set_option maxHeartbeats 32000000 in
theorem text_ipn (nm : ByteArray) (nd sv : Nat) (h : Right ⟨2, nm, nd, sv⟩) (w : World) (hk : KonT w) : Calls Tryd.prog 10 #[eV ⟨2, nm, nd, sv⟩] w fun r w' => r = .returned (.tuple #[.string (ipnB ++ digB nd ++ dotB ++ digB sv), .int .i64 0]) ∧ Below w.heap.size w w' := by
  obtain ⟨hnm, hnd, hsv⟩ : nm = ⟨#[]⟩ ∧ nd ≤ 4294967295 ∧ sv ≤ 4294967295 := by
    rcases h with ⟨-, h1, h2, h3⟩ | ⟨h, -⟩
    · exact ⟨h1, h2, h3⟩
    · exact absurd (show (2 : Int) = 1 from h) (by decide)
  have HP := Lib.hid (fun w => pright ⟨2, nm, nd, sv⟩ true ⟨fun _ => h, fun _ => rfl⟩ (by show nm.size ≤ _; rw [hnm]; decide) w)
  have s1 := digB_size (show nd < 18446744073709551616 by omega)
  have s2 := digB_size (show sv < 18446744073709551616 by omega)
  have HD1 := Lib.hid (fun w (hk : KonT w) => digits_any' nd (by omega) w hk)
  have HD2 := Lib.hid (fun w (hk : KonT w) => digits_any' sv (by omega) w hk)
  generalize digB nd = d1 at *
  generalize digB sv = d2 at *
  have t1 : ¬ 9223372036854775807 < 4 + d1.size := by omega
  have t2 : ¬ 9223372036854775807 < 4 + d1.size + 1 := by omega
  have t3 : ¬ 9223372036854775807 < 4 + d1.size + 1 + d2.size := by omega
  have HK := Lib.hid hk
  clear h hk hnm hnd hsv
  simp only [eV, Int.cast_ofNat_Int, ipnB, dotB] at HP ⊢
  go_enter Tryd.func10, Tryd.ntmps10
  go_wp2_with fail
  refine (HP.out _).mono ?_
  rintro r w1 ⟨rfl, hb1⟩
  have HB := Lib.hid (EB.box1 w ⟨2, nm, nd, sv⟩ hb1); clear hb1
  have hlt := HB.out.1.lt
  obtain ⟨c0, c1, c2, c3⟩ := HB.out.1.cells
  simp only [Int.cast_ofNat_Int] at c0 c1 c2 c3
  have hkp : ∀ X, Below w1.heap.size w1 X → X.cell? ⟨w.heap.size, 2, none⟩ = some (.int .u64 (nd : Nat)) ∧ X.cell? ⟨w.heap.size, 3, none⟩ = some (.int .u64 (sv : Nat)) := fun X hX => ⟨(HB.out.1.below hX hlt).cells.2.2.1, (HB.out.1.below hX hlt).cells.2.2.2⟩
  have hkk : ∀ X, Below w1.heap.size w1 X → KonT X := fun X hX => (HK.out.below HB.out.2).below hX
  have HKP := Lib.hid hkp; clear hkp
  have HKK := Lib.hid hkk; clear hkk
  have hd0 : Below w1.heap.size w1 w1.drew := (Below.refl _ _).drew
  have hd1 : Below w1.heap.size w1 w1 := Below.refl _ _
  go_upto_region 5 with fail
  go_region_held3 (fun X => X.cell? ⟨w.heap.size, 2, none⟩ = some (.int .u64 (nd : Nat)) ∧ X.cell? ⟨w.heap.size, 3, none⟩ = some (.int .u64 (sv : Nat))) ((refine HKP.out _ ?_; (with_reducible assumption)))
    ((go_at_call 26; first | (with_reducible refine (HD1.out _ (HKK.out _ (by with_reducible assumption))).mono ?_; rintro e' w' ⟨rfl, hb⟩; have hw := Below.trans (by with_reducible assumption) (hb.mono (Below.size (by with_reducible assumption)))) | (with_reducible refine (HD2.out _ (HKK.out _ (by with_reducible assumption))).mono ?_; rintro e' w' ⟨rfl, hb⟩; have hw := Below.trans (by with_reducible assumption) (hb.mono (Below.size (by with_reducible assumption))))))
  all_goals
    have HFIN := Lib.hid (HB.out.2.trans (Below.mono hw HB.out.2.size))
    clear hw hb
    go_wp2
    exact bodyPost_ret (results_tmp2 rfl _ _ _) rfl ⟨rfl, HFIN.out⟩

/-- eid.Text at a right name. -/
theorem text_any' (e : Nm) (h : Right e) (w : World) (hk : KonT w) : Calls Tryd.prog 10 #[eV e] w fun r w' => r = .returned (.tuple #[.string (txtB e), .int .i64 0]) ∧ Below w.heap.size w w' := by
  obtain ⟨s, nm, nd, sv⟩ := e
  have h0 := h
  rcases h with ⟨h1, h2, h3, h4⟩ | ⟨h1, h2, h3, h4, h5⟩
  · have h1' : s = 2 := h1
    subst h1'
    exact text_ipn nm nd sv h0 w hk
  · have h1' : s = 1 := h1
    have h2' : nd = 0 := h2
    have h3' : sv = 0 := h3
    subst h1' h2' h3'
    exact text_dtn nm h0 w
end Eid
end Go.Proofs.YtmbmhblogjkflaaDoor
