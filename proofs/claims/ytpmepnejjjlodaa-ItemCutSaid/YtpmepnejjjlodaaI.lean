/-
  Contracts of the reader's methods Uint, Done, At, Bad and Head. Conditions: the reader lies in one block, its text is no longer than memory allows, and its offset lies within it.
-/
import Derived.Test.YtpmepnejjjlodaaH
import Derived.Deep.QuietTactic
import Derived.BigQuiet
namespace Go.Proofs.Ytpmepnejjjlodaa
open Go.ChangeShapes Go.WideShapes Go.ChangeAt Go.RowKit
open Plain
set_option linter.unusedVariables false

/-- What peek sees, and the error behind it. -/
def peekOf (s : ByteArray) (p : Nat) (c : Int) : Hd × Int :=
  if c ≠ 0 then (hd0, c) else match headL (s.data.toList.drop p) with
    | some x => (x, 0)
    | none => (hd0, 2)

/-- The reader b is in order: its text fits, its offset lies within it. -/
structure Ok (w : World) (b : Nat) (s : ByteArray) (p : Nat) (c : Int) : Prop where
  rd : Rd w b s p c
  fits : s.size ≤ maxLen
  within : p ≤ s.size

theorem peek_any {w : World} {b : Nat} {s : ByteArray} {p : Nat} {c : Int} (h : Ok w b s p c) :
    Calls Try.prog 56 #[.pointer (some ⟨b, 0, none⟩)] w fun e w' => e = .returned (hdV (peekOf s p c).1) ∧ Rd w' b s p (peekOf s p c).2 ∧ Only b w w' := by
  unfold peekOf
  by_cases hc : c ≠ 0
  · rw [if_pos hc]
    exact (peek_failed w b s p c h.rd hc).mono fun e w' ⟨he, hb⟩ => ⟨he, h.rd.below hb, Only.of_below hb⟩
  · rw [if_neg hc]
    have h0 : c = 0 := by omega
    subst h0
    cases hx : headL (s.data.toList.drop p) with
    | none => exact peek_none w b s p h.fits h.within h.rd hx
    | some x => exact (peek_some w b s p x h.fits h.within h.rd hx).mono fun e w' ⟨he, hb⟩ => ⟨he, h.rd.below hb, Only.of_below hb⟩

theorem argOf_len {low n k : Nat} {l : List UInt8} (h : argOf low l = some (n, k)) : k ≤ l.length ∧ (low ≤ 255 → n < 18446744073709551616) := by
  unfold argOf numOf at h
  have hv : ∀ j, val (l.take j) < 256 ^ j := fun j => Nat.lt_of_lt_of_le (val_lt _) (Nat.pow_le_pow_right (by omega) (by rw [List.length_take]; omega))
  have h1 := hv 1
  have h2 := hv 2
  have h4 := hv 4
  have h8 := hv 8
  repeat' split at h
  all_goals first | (cases h; done) | (injection h with h; injection h with ha hb; subst ha hb; exact ⟨by omega, fun _ => by omega⟩)

theorem headL_size {l : List UInt8} {x : Hd} (h : headL l = some x) : 1 ≤ x.size ∧ x.size ≤ 9 ∧ x.size ≤ l.length ∧ x.major ≤ 7 ∧ x.n < 18446744073709551616 ∧ (x.op = true → x.n = 0) := by
  cases l with
  | nil => cases h
  | cons b r =>
    have hb := b.toNat_lt
    simp only [headL] at h
    by_cases h31 : b.toNat % 32 = 31
    · rw [if_pos h31] at h
      split at h
      · injection h with h
        subst h
        exact ⟨by simp, by simp, by simp, by simp; omega, by simp, fun _ => rfl⟩
      · cases h
    · rw [if_neg h31] at h
      cases ha : argOf (b.toNat % 32) r with
      | none => rw [ha] at h; cases h
      | some y =>
        obtain ⟨n, k⟩ := y
        rw [ha] at h
        injection h with h
        subst h
        have h1 := argOf_len ha
        have h2 := argOf_le ha
        exact ⟨by simp, by simp; omega, by simp; omega, by simp; omega, h1.2 (by omega), fun h => nomatch h⟩

theorem peekOf_size (s : ByteArray) (p : Nat) (c : Int) (hp : p ≤ s.size) :
    (peekOf s p c).1.size ≤ 9 ∧ p + (peekOf s p c).1.size ≤ s.size ∧ (peekOf s p c).1.major ≤ 7 ∧ (peekOf s p c).1.n < 18446744073709551616 ∧ ((peekOf s p c).1.op = true → (peekOf s p c).1.n = 0) := by
  unfold peekOf
  split
  · exact ⟨by simp [hd0], by simp [hd0]; omega, by simp [hd0], by simp [hd0], fun _ => rfl⟩
  · cases hx : headL (s.data.toList.drop p) with
    | none => exact ⟨by simp [hd0], by simp [hd0]; omega, by simp [hd0], by simp [hd0], fun _ => rfl⟩
    | some x =>
      have := headL_size hx
      rw [List.length_drop, size_list] at this
      exact ⟨this.2.1, by simp only []; omega, this.2.2.2.1, this.2.2.2.2.1, this.2.2.2.2.2⟩

/-- The error behind Fail. -/
def failC (c d : Int) : Int := if c = 0 then d else c

/-- (*Reader).Fail. -/
theorem fail_any {w : World} {b : Nat} {s : ByteArray} {p : Nat} {c : Int} (d : Int) (h : Rd w b s p c) :
    Calls Try.prog 30 #[.pointer (some ⟨b, 0, none⟩), .int .i64 d] w fun e w' => e = .returned (.tuple #[]) ∧ Rd w' b s p (failC c d) ∧ Only b w w' := by
  unfold failC
  by_cases hc : c = 0
  · subst hc
    rw [if_pos rfl]
    exact (fail_first w b s p d h).mono fun e w' ⟨he, hw⟩ => by
      subst hw
      exact ⟨he, h.set2 d, (Only.refl b w).set 2 _⟩
  · rw [if_neg hc]
    exact (fail_again w b s p c d h hc).mono fun e w' ⟨he, hw⟩ => by
      subst hw
      exact ⟨he, h, Only.refl b w⟩

/-- What Uint answers, the offset and the error behind it. -/
def uintOf (s : ByteArray) (p : Nat) (c : Int) : Nat × Nat × Int :=
  let y := peekOf s p c
  if y.1.major = 0 then (y.1.n, p + y.1.size, y.2) else (0, p, failC y.2 2)

theorem Rd.alloc {w : World} {b : Nat} {s : ByteArray} {p : Nat} {c : Int} (h : Rd w b s p c) (o : Obj) : Rd (w.alloc o) b s p c :=
  h.below ((Below.refl _ _).alloc (Nat.le_refl _) o)

set_option maxHeartbeats 1000000 in
theorem uint_any {w : World} {b : Nat} {s : ByteArray} {p : Nat} {c : Int} (h : Ok w b s p c) :
    Calls Try.prog 43 #[.pointer (some ⟨b, 0, none⟩)] w fun e w' => e = .returned (.int .u64 (uintOf s p c).1) ∧ Rd w' b s (uintOf s p c).2.1 (uintOf s p c).2.2 ∧ Only b w w' := by
  have hpk := peek_any h
  obtain ⟨h9, hle, h7, h64, _⟩ := peekOf_size s p c h.within
  have hfit := h.fits
  unfold maxLen at hfit
  unfold uintOf
  simp only []
  generalize peekOf s p c = y at *
  obtain ⟨⟨m, n, o, z⟩, c'⟩ := y
  simp only [] at *
  have HPK := Lib.hid hpk; clear hpk h
  have H64 := Lib.hid h64; clear h64
  by_cases hm : m = 0
  · subst hm
    rw [if_pos rfl]
    go_enter Try.func43, Try.ntmps43
    go_wp2_with fail
    refine HPK.out.mono ?_
    rintro e w1 ⟨rfl, hrd, ho⟩
    have c1 := hrd.cell1
    have f1 := hrd.frozen 1
    have hlt := hrd.lt
    have hsum : IntKind.i64.wrap ((p : Int) + (z : Int)) = ((p + z : Nat) : Int) := by rw [IntKind.wrap_i64]; omega
    simp only [hdV]
    have HR := Lib.hid hrd; clear hrd
    have HO := Lib.hid ho; clear ho
    go_wp2
    go_region
    go_wp2
    go_ret
    refine ⟨rfl, ?_, ?_⟩
    · exact (HR.out.set1 (p + z)).alloc _
    · exact ((HO.out.set 1 _).alloc _).drew
  · rw [if_neg hm]
    have g : ((m : Int) != 0) = true := by simp; omega
    go_enter Try.func43, Try.ntmps43
    go_wp2_with fail
    refine HPK.out.mono ?_
    rintro e w1 ⟨rfl, hrd, ho⟩
    simp only [hdV]
    have HR := Lib.hid hrd; clear hrd
    have HO := Lib.hid ho; clear ho
    go_wp2_with fail
    refine (fail_any 2 (HR.out.alloc _)).mono ?_
    rintro e w2 ⟨rfl, hrd2, ho2⟩
    go_wp2
    go_ret
    exact ⟨rfl, hrd2, (HO.out.alloc _).trans ho2⟩

/-- Done: whether the reader has not failed and all is read. -/
def doneOf (s : ByteArray) (p : Nat) (c : Int) : Bool := decide (c = 0 ∧ p = s.size)

set_option maxHeartbeats 1000000 in
theorem done_any {w : World} {b : Nat} {s : ByteArray} {p : Nat} {c : Int} (h : Ok w b s p c) :
    Calls Try.prog 29 #[.pointer (some ⟨b, 0, none⟩)] w fun e w' => e = .returned (.bool (doneOf s p c)) ∧ Below w.heap.size w w' := by
  have c0 := h.rd.cell0
  have c1 := h.rd.cell1
  have c2 := h.rd.cell2
  have hlt := h.rd.lt
  have hp := h.within
  have hfit := h.fits
  unfold maxLen at hfit
  clear h
  by_cases hc : c = 0
  · subst hc
    by_cases he : p = s.size
    · have hd : doneOf s p 0 = true := by simp [doneOf, he]
      rw [hd]; clear hd
      have g : ((p : Int) == (s.size : Int)) = true := by simp [he]
      have g' : (p == s.size) = true := by simp [he]
      have HE := Lib.hid he; clear he
      go_enter Try.func29, Try.ntmps29
      go_wp2
      go_quiet (fail)
      go_wp2
      go_ret
      exact ⟨rfl, ⟨rfl, rfl, rfl, Nat.le_refl _, fun _ _ => rfl⟩⟩
    · have hd : doneOf s p 0 = false := by simp [doneOf, he]
      rw [hd]; clear hd
      have g : ((p : Int) == (s.size : Int)) = false := by simp; omega
      have g' : (p == s.size) = false := by simp [he]
      have HE := Lib.hid he; clear he
      go_enter Try.func29, Try.ntmps29
      go_wp2
      go_quiet (fail)
      go_wp2
      go_ret
      exact ⟨rfl, ⟨rfl, rfl, rfl, Nat.le_refl _, fun _ _ => rfl⟩⟩
  · have hd : doneOf s p c = false := by simp [doneOf, hc]
    rw [hd]; clear hd
    have g : (c == 0) = false := by simpa using hc
    have HC := Lib.hid hc; clear hc
    go_enter Try.func29, Try.ntmps29
    go_wp2
    go_quiet (fail)
    go_wp2
    go_ret
    exact ⟨rfl, ⟨rfl, rfl, rfl, Nat.le_refl _, fun _ _ => rfl⟩⟩

theorem at_any {w : World} {b : Nat} {s : ByteArray} {p : Nat} {c : Int} (h : Rd w b s p c) :
    Calls Try.prog 54 #[.pointer (some ⟨b, 0, none⟩)] w fun e w' => e = .returned (.int .i64 p) ∧ w = w' := by
  have c1 := h.cell1
  go_enter Try.func54, Try.ntmps54
  go_wp2
  go_ret
  exact ⟨rfl, rfl⟩

/-- Bad: where and with what error the reader failed. -/
theorem bad_ok {w : World} {b : Nat} {s : ByteArray} {p : Nat} (h : Rd w b s p 0) :
    Calls Try.prog 31 #[.pointer (some ⟨b, 0, none⟩)] w fun e w' => e = .returned (.tuple #[.int .i64 (-1), .int .i64 0]) ∧ Below w.heap.size w w' := by
  have c2 := h.cell2
  go_enter Try.func31, Try.ntmps31
  go_wp2
  go_ret2
  exact ⟨rfl, Below.refl _ _⟩

theorem bad_failed {w : World} {b : Nat} {s : ByteArray} {p : Nat} {c : Int} (h : Rd w b s p c) (hc : c ≠ 0) :
    Calls Try.prog 31 #[.pointer (some ⟨b, 0, none⟩)] w fun e w' => e = .returned (.tuple #[.int .i64 p, .int .i64 c]) ∧ Below w.heap.size w w' := by
  have c1 := h.cell1
  have c2 := h.cell2
  have g : (c == 0) = false := by simpa using hc
  clear hc
  go_enter Try.func31, Try.ntmps31
  go_wp2
  go_quiet (fail)
  go_wp2
  go_ret2
  exact ⟨rfl, ⟨rfl, rfl, rfl, Nat.le_refl _, fun _ _ => rfl⟩⟩

/-- What Head answers. -/
theorem readHead_any {w : World} {b : Nat} {s : ByteArray} {p : Nat} {c : Int} (h : Ok w b s p c) :
    Calls Try.prog 55 #[.pointer (some ⟨b, 0, none⟩)] w fun e w' => e = .returned (.tuple #[.int .i64 (peekOf s p c).1.major, .int .u64 (peekOf s p c).1.n, .bool (peekOf s p c).1.op]) ∧
      Rd w' b s (p + (peekOf s p c).1.size) (peekOf s p c).2 ∧ Only b w w' := by
  have hpk := peek_any h
  obtain ⟨h9, hle, h7, h64, _⟩ := peekOf_size s p c h.within
  have hfit := h.fits
  unfold maxLen at hfit
  generalize peekOf s p c = y at *
  obtain ⟨⟨m, n, o, z⟩, c'⟩ := y
  simp only [] at *
  have HPK := Lib.hid hpk; clear hpk h
  have H64 := Lib.hid h64; clear h64
  go_enter Try.func55, Try.ntmps55
  go_wp2_with fail
  refine HPK.out.mono ?_
  rintro e w1 ⟨rfl, hrd, ho⟩
  have c1 := hrd.cell1
  have f1 := hrd.frozen 1
  have hlt := hrd.lt
  have hsum : IntKind.i64.wrap ((p : Int) + (z : Int)) = ((p + z : Nat) : Int) := by rw [IntKind.wrap_i64]; omega
  simp only [hdV]
  have HR := Lib.hid hrd; clear hrd
  have HO := Lib.hid ho; clear ho
  go_wp2
  go_region
  go_wp2
  go_region
  go_wp2
  go_ret3
  refine ⟨rfl, ?_, ?_⟩
  · exact (HR.out.set1 (p + z)).alloc _
  · exact ((HO.out.set 1 _).alloc _).drew.drew

end Go.Proofs.Ytpmepnejjjlodaa
