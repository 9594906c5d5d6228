/-
  Contracts of eid.isName, Right, None, and the law's own awake. Conditions: names are of at most 2^40 bytes.
-/
import Derived.Test.YtmbmhblogjkflaaDoorEic
namespace Go.Proofs.YtmbmhblogjkflaaDoor
namespace Eid
open Go.ChangeShapes Go.WideShapes Go.ChangeAt Go.RowKit
set_option linter.unusedVariables false
set_option maxRecDepth 100000

/-- "none", as a string. -/
def noneB : ByteArray := ⟨#[110, 111, 110, 101]⟩
theorem noneB_nb : nb noneB = noneL := rfl
theorem noneB_iff (b : ByteArray) : nb b = noneL ↔ b = noneB := ⟨fun h => nb_inj (h.trans noneB_nb.symm), fun h => by rw [h]; rfl⟩
theorem noneB_test (b : ByteArray) : (b.toList == ([110, 111, 110, 101] : List UInt8)) = decide (b = noneB) := by
  have h := text_beq b noneB
  rwa [noneB, ByteArray.toList_eq (bs := ⟨#[110, 111, 110, 101]⟩)] at h
theorem noneB_test' (b : ByteArray) : (b.toList != ([110, 111, 110, 101] : List UInt8)) = !decide (b = noneB) := by
  rw [bne, noneB_test]
/-- A Name of scheme 1. -/
def NameOk (s : ByteArray) : Prop := s = noneB ∨ (s.size ≤ 60 ∧ 0 < svc (nb s))
instance (s : ByteArray) : Decidable (NameOk s) := by unfold NameOk; infer_instance
theorem nameOk_iff (s : ByteArray) : NameOk s ↔ s.size ≤ 60 ∧ (nb s = noneL ∨ ∃ a b, Full (nb s) a b) := by
  unfold NameOk
  rw [svc_iff, noneB_iff]
  constructor
  · rintro (rfl | ⟨h1, h2⟩)
    · exact ⟨by decide, .inl rfl⟩
    · exact ⟨h1, .inr h2⟩
  · rintro ⟨h1, h2 | h2⟩
    · exact .inl h2
    · exact .inr ⟨h1, h2⟩

theorem isName_any (s : ByteArray) (hs : s.size ≤ 1099511627776) (w : World) : Calls Tryd.prog 27 #[.string s] w fun e w' => e = .returned (.bool (decide (NameOk s))) ∧ Below w.heap.size w w' := by
  have ht := noneB_test s
  by_cases h0 : s = noneB
  · have hb : decide (NameOk s) = true := decide_eq_true (.inl h0)
    rw [decide_eq_true h0] at ht
    have HB := Lib.hid hb; clear hb h0
    go_enter Tryd.func27, Tryd.ntmps27
    go_wp2
    go_ret
    exact ⟨by rw [HB.out]; rfl, Below.refl _ _⟩
  · rw [decide_eq_false h0] at ht
    by_cases h1 : s.size ≤ 60
    · have q1 : decide ((s.size : Int) ≤ 60) = true := by simp; omega
      have hb : decide (NameOk s) = decide (0 < svc (nb s)) := by
        rw [Bool.eq_iff_iff, decide_eq_true_iff, decide_eq_true_iff]
        exact ⟨fun h => by rcases h with h | h; exact absurd h h0; exact h.2, fun h => .inr ⟨h1, h⟩⟩
      have HS := Lib.hid (fun w => serviceAt_any s hs w)
      generalize svc (nb s) = k at hb HS
      have HB := Lib.hid hb; clear hb h0
      go_enter Tryd.func27, Tryd.ntmps27
      go_wp2_with fail
      refine (HS.out _).mono ?_
      rintro e w' ⟨rfl, hb⟩
      have HW := Lib.hid hb; clear hb
      go_wp2
      go_ret
      refine ⟨?_, HW.out⟩
      rw [HB.out]
      simp [go_sem]
    · have q1 : decide ((s.size : Int) ≤ 60) = false := by simp; omega
      have hb : decide (NameOk s) = false := decide_eq_false fun h => by rcases h with h | h; exact absurd h h0; exact h1 h.1
      have HB := Lib.hid hb; clear hb h0
      go_enter Tryd.func27, Tryd.ntmps27
      go_wp2
      go_ret
      exact ⟨by rw [HB.out]; rfl, Below.refl _ _⟩

set_option maxHeartbeats 4000000 in
theorem pright (e : Nm) (b : Bool) (hb : b = true ↔ Right e) (hs : e.name.size ≤ 1099511627776) (w : World) : Calls Tryd.prog 11 #[eV e] w fun r w' => r = .returned (.bool b) ∧ Below w.heap.size w w' := by
  obtain ⟨s, nm, nd, sv⟩ := e
  unfold eV
  dsimp only at *
  go_enter Tryd.func11, Tryd.ntmps11
  have hR : Right ⟨s, nm, nd, sv⟩ ↔ (s = 2 ∧ nm = ⟨#[]⟩ ∧ nd ≤ 4294967295 ∧ sv ≤ 4294967295) ∨ (s = 1 ∧ nd = 0 ∧ sv = 0 ∧ NameOk nm) := by
    unfold Right
    rw [nameOk_iff]
  rw [hR] at hb
  clear hR
  by_cases h1 : s = 1
  · subst h1
    by_cases hnd : nd = 0
    · subst hnd
      by_cases hsv : sv = 0
      · subst hsv
        have hbv : b = decide (NameOk nm) := by
          rw [Bool.eq_iff_iff, hb]; simp
        have HB := Lib.hid hbv; clear hbv hb
        have HN := Lib.hid (fun w => isName_any nm hs w)
        go_wp2_with fail
        refine (HN.out _).mono ?_
        rintro e w' ⟨rfl, hw⟩
        have HW := Lib.hid hw; clear hw
        go_wp2
        go_ret
        exact ⟨by rw [HB.out]; rfl, (((Below.refl _ _).alloc (Nat.le_refl _) _).trans (HW.out.mono (by simp)))⟩
      · have hbv : b = false := by
          rw [Bool.eq_iff_iff, hb]; simp [hsv]
        have q1 : decide ((sv : Int) = 0) = false := by simp; omega
        have HB := Lib.hid hbv; clear hbv hb
        go_wp2
        go_ret
        exact ⟨by rw [HB.out]; rfl, (Below.refl _ _).alloc (Nat.le_refl _) _⟩
    · have hbv : b = false := by
        rw [Bool.eq_iff_iff, hb]; simp [hnd]
      have q1 : decide ((nd : Int) = 0) = false := by simp; omega
      have HB := Lib.hid hbv; clear hbv hb
      go_wp2
      go_ret
      exact ⟨by rw [HB.out]; rfl, (Below.refl _ _).alloc (Nat.le_refl _) _⟩
  · have q0 : decide (s = 1) = false := decide_eq_false h1
    by_cases h2 : s = 2
    · subst h2
      by_cases hn : nm = ⟨#[]⟩
      · by_cases h3 : nd ≤ 4294967295
        · have hbv : b = decide ((sv : Int) ≤ 4294967295) := by
            rw [Bool.eq_iff_iff, hb]; simp [hn, h3]; omega
          have q1 : decide ((nd : Int) ≤ 4294967295) = true := by simp; omega
          have HB := Lib.hid hbv; clear hbv hb
          go_wp2
          go_ret
          exact ⟨by rw [HB.out]; rfl, (Below.refl _ _).alloc (Nat.le_refl _) _⟩
        · have hbv : b = false := by
            rw [Bool.eq_iff_iff, hb]; simp [h3]
          have q1 : decide ((nd : Int) ≤ 4294967295) = false := by simp; omega
          have HB := Lib.hid hbv; clear hbv hb
          go_wp2
          go_ret
          exact ⟨by rw [HB.out]; rfl, (Below.refl _ _).alloc (Nat.le_refl _) _⟩
      · have hbv : b = false := by
          rw [Bool.eq_iff_iff, hb]; simp [hn]
        have q0 := text_beq_no hn
        rw [ByteArray.toList_eq (bs := ⟨#[]⟩)] at q0
        have q1 : nm.toList.isEmpty = false := by
          cases h : nm.toList with
          | nil => rw [h] at q0; cases q0
          | cons a l => rfl
        have q2 : ¬ nm.toList = [] := fun e => by rw [e] at q1; cases q1
        clear q0
        have HB := Lib.hid hbv; clear hbv hb
        go_wp2
        go_ret
        exact ⟨by rw [HB.out]; rfl, (Below.refl _ _).alloc (Nat.le_refl _) _⟩
    · have hbv : b = false := by
        rw [Bool.eq_iff_iff, hb]; simp [h1, h2]
      have q1 : decide (s = 2) = false := decide_eq_false h2
      have HB := Lib.hid hbv; clear hbv hb
      go_wp2
      go_ret
      exact ⟨by rw [HB.out]; rfl, (Below.refl _ _).alloc (Nat.le_refl _) _⟩

/-! ### None and awake -/
def noneE : Nm := ⟨1, noneB, 0, 0⟩
theorem noneE_right : Right noneE := .inr ⟨rfl, rfl, rfl, by decide, .inl rfl⟩
theorem none_any (w : World) : Calls Tryd.prog 20 #[] w fun e w' => e = .returned (eV noneE) ∧ Below w.heap.size w w' := by
  go_enter Tryd.func20, Tryd.ntmps20
  go_wp2
  refine bodyPost_ret (v := eV noneE) (by simp [results, Tryd.results20, go_sem, eV, noneE, noneB]) rfl ⟨rfl, (Below.refl _ _).alloc (Nat.le_refl _) _⟩
theorem right_nameOk (e : Nm) : ((e.scheme = 2 ∧ e.name = ⟨#[]⟩ ∧ e.node ≤ 4294967295 ∧ e.service ≤ 4294967295) ∨ (e.scheme = 1 ∧ e.node = 0 ∧ e.service = 0 ∧ NameOk e.name)) ↔ Right e := by
  unfold Right
  rw [nameOk_iff]
instance (e : Nm) : Decidable (Right e) := decidable_of_iff _ (right_nameOk e)
instance : DecidableEq Nm := fun a b =>
  decidable_of_iff (a.scheme = b.scheme ∧ a.name = b.name ∧ a.node = b.node ∧ a.service = b.service) (by cases a; cases b; simp)
theorem text_iff (a b : ByteArray) : a.toList = b.toList ↔ a = b := by
  have := text_beq a b
  by_cases h : a = b <;> simp_all
theorem eql_run (x y : Nm) (X : World) : (binOp .eql 24 (.agg #[.int .i64 x.scheme, .string x.name, .int .u64 (x.node : Nat), .int .u64 (x.service : Nat)]) (.agg #[.int .i64 y.scheme, .string y.name, .int .u64 (y.node : Nat), .int .u64 (y.service : Nat)])).run Tryd.prog X = .ok (.bool (decide (x = y))) X := by
  have hf : Tryd.prog.fieldsOf 24 = (match Tryd.prog.underlying 24 with | some (.struct fs) => fs | _ => #[]) := rfl
  rw [Tryd.underlying24] at hf
  have hu : Tryd.prog.underlying 24 = some (.struct (Tryd.prog.fieldsOf 24)) := by rw [hf]; exact Tryd.underlying24
  rw [run_eql_struct, run_equalIn_struct X 9999 24 _ _ hu (by kernel_rfl), hf]
  have e9 : Tryd.prog.underlying 9 = some .string := Tryd.underlying9
  have e3 : Tryd.prog.underlying 3 = some (.int .i64) := Tryd.underlying3
  have e22 : Tryd.prog.underlying 22 = some (.int .u64) := Tryd.underlying22
  simp [Op.eqFields, go_sem, text_iff]
  obtain ⟨a, b, c, d⟩ := x
  obtain ⟨a', b', c', d'⟩ := y
  simp only [Nm.mk.injEq]
  by_cases h1 : a = a' <;> by_cases h2 : b = b' <;> by_cases h3 : c = c' <;> by_cases h4 : d = d' <;> simp [h1, h2, h3, h4] <;> omega
theorem neq_run (x y : Nm) (X : World) : (binOp .neq 24 (.agg #[.int .i64 x.scheme, .string x.name, .int .u64 (x.node : Nat), .int .u64 (x.service : Nat)]) (.agg #[.int .i64 y.scheme, .string y.name, .int .u64 (y.node : Nat), .int .u64 (y.service : Nat)])).run Tryd.prog X = .ok (.bool (!decide (x = y))) X := by
  have h := eql_run x y X
  rw [run_eql_struct] at h
  rw [run_neq_struct]
  revert h
  cases (Op.equalIn 10000 24 (.agg #[.int .i64 x.scheme, .string x.name, .int .u64 (x.node : Nat), .int .u64 (x.service : Nat)]) (.agg #[.int .i64 y.scheme, .string y.name, .int .u64 (y.node : Nat), .int .u64 (y.service : Nat)])).run Tryd.prog X with
  | ok b w => intro h; simp only [Result.andThen_ok, Result.ok.injEq, Value.bool.injEq] at h ⊢; exact ⟨by rw [h.1], h.2⟩
  | halt e w => intro h; simp [Result.andThen] at h

theorem awake_any (w : World) : Calls Tryd.prog 6 #[] w fun e w' => e = .returned (.bool true) ∧ Below w.heap.size w w' := by
  have HE := fun X => eql_run noneE noneE X
  rw [decide_eq_true (rfl : noneE = noneE)] at HE
  have H1 := Lib.hid (fun w => none_any w)
  have H2 := Lib.hid (fun w => pright noneE true ⟨fun _ => noneE_right, fun _ => rfl⟩ (by decide) w)
  simp only [eV, noneE, noneB] at HE H1 H2
  go_enter Tryd.func6, Tryd.ntmps6
  go_wp2_with fail
  refine (H1.out _).mono ?_
  rintro e w1 ⟨rfl, hb1⟩
  have B1 := Lib.hid hb1; clear hb1
  go_wp2_with fail
  refine (H1.out _).mono ?_
  rintro e w2 ⟨rfl, hb2⟩
  have B2 := Lib.hid hb2; clear hb2
  go_wp2_with fail
  refine (H2.out _).mono ?_
  rintro e w3 ⟨rfl, hb3⟩
  have B3 := Lib.hid hb3; clear hb3
  go_wp2
  go_ret
  exact ⟨rfl, (B1.out.trans (B2.out.mono B1.out.size)).trans (B3.out.mono (Nat.le_trans B1.out.size B2.out.size))⟩
end Eid
end Go.Proofs.YtmbmhblogjkflaaDoor
