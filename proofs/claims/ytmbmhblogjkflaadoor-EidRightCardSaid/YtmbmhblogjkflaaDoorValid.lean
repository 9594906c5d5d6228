/-
  Contracts of item.valid, validList and Right. Conditions: the item lies in memory.
-/
import Derived.Test.YtmbmhblogjkflaaDoorPlain
namespace Go.Proofs.YtmbmhblogjkflaaDoor
open Go.ChangeShapes Go.WideShapes Go.ChangeAt Go.RowKit
open Plain
set_option linter.unusedVariables false

mutual
/-- Is it valid, of so many levels? -/
def validB : It → Nat → Bool
  | .mk _ _ _ _ _, 0 => false
  | .mk k n s l o, m + 1 => topB k n s l.length o && validL l m
def validL : List It → Nat → Bool
  | [], _ => true
  | x :: r, m => validB x m && validL r m
end

theorem validL_append (a b : List It) (m : Nat) : validL (a ++ b) m = (validL a m && validL b m) := by
  induction a with
  | nil => simp [validL]
  | cons x r ih => simp [validL, ih, Bool.and_assoc]

theorem validL_of_not {l : List It} {y : It} {m : Nat} (h : y ∈ l) (hp : validB y m = false) : validL l m = false := by
  induction l with
  | nil => cases h
  | cons x r ih =>
    rcases List.mem_cons.1 h with rfl | h'
    · simp [validL, hp]
    · simp [validL, ih h']

theorem validB_zero (x : It) : validB x 0 = false := by cases x; rfl

set_option maxHeartbeats 1000000 in
set_option maxRecDepth 100000 in
theorem validList_any (l : List It) (m : Nat)
    (ih : ∀ x ∈ l, ∀ (w : World) (B : Nat) (v : Value), B ≤ w.heap.size → Lies w B x v → Calls Tryd.prog 54 #[v, .int .i64 m] w fun e w' => e = .returned (.bool (validB x m)) ∧ Below w.heap.size w w')
    (w : World) (B : Nat) (A : Option Addr) (cap : Nat) (hB : B ≤ w.heap.size) (hll : l.length ≤ 140737488355328)
    (he : ∀ i y, l[i]? = some y → ∃ b off sl, A = some ⟨b, off, none⟩ ∧ b < B ∧ At5 w b (off + i * 5) y sl ∧ Lies w B y (itV y sl)) :
    Calls Tryd.prog 68 #[.slice A l.length cap, .int .i64 m] w fun e w' => e = .returned (.bool (decide (l.length ≤ 1000) && validL l m)) ∧ Below w.heap.size w w' := by
  have IH := Lib.hid ih; clear ih
  have HE := Lib.hid he; clear he
  have hlI : (l.length : Int) ≤ 140737488355328 := by omega
  have HLL := Lib.hid hll; clear hll
  by_cases h1000 : l.length ≤ 1000
  · have g1 : decide ((1000 : Int) < (l.length : Int)) = false := by simp; omega
    have g1' : decide (l.length ≤ 1000) = true := by simpa using h1000
    have HG := Lib.hid g1'; clear g1'
    go_enter Tryd.func68, Tryd.ntmps68
    go_wp2
    go_loopw [12] (fun i wr => ∃ j : Nat, j ≤ l.length ∧ i = .int .i64 j ∧ validL (l.take j) m = true ∧ Below w.heap.size w wr) (fun i _ => l.length - (intOf i).toNat)
    case atStart => exact ⟨0, Nat.zero_le _, rfl, rfl, Below.refl _ _⟩
    case round =>
      obtain ⟨j, hj, rfl, hpl, hbx⟩ := hrel
      by_cases hlt : j < l.length
      · obtain ⟨b, off, sl, rfl, hb, h5, hy⟩ := HE.out j _ (List.getElem?_eq_getElem hlt)
        obtain ⟨A', cap', rfl⟩ := hy.slice
        have hnext : validL (l.take (j + 1)) m = validB l[j] m := by
          rw [take_next (List.getElem?_eq_getElem hlt), validL_append, hpl]
          simp [validL]
        have hno : validB l[j] m = false → validL l m = false := validL_of_not (List.getElem_mem hlt)
        have hcall := fun W (h : Below w.heap.size w W) => IH.out l[j] (List.getElem_mem hlt) W B _ (Nat.le_trans hB h.size) (hy.keep (h.mono hB))
        have a5 := h5.below (hbx.mono hB) hb
        have l0 := a5.c0
        have l1 := a5.c1
        have l2 := a5.c2
        have l3 := a5.c3
        have l4 := a5.c4
        generalize l[j] = y at *
        have HN := Lib.hid hnext; clear hnext
        have HO := Lib.hid hno; clear hno
        have HC := Lib.hid hcall; clear hcall
        have HB := Lib.hid hbx; clear hbx
        have HP := Lib.hid hpl; clear hpl
        simp only [itV] at HC
        clear a5 h5 hy
        go_wp2_with fail
        refine (HC.out _ (HB.out.alloc HB.out.size _)).mono ?_
        cases hp : validB y m
        · have HPY := Lib.hid hp; clear hp
          rintro e w' ⟨rfl, hb'⟩
          have hfin := (HB.out.alloc HB.out.size _).trans (hb'.mono (by have := HB.out.size; simp <;> omega))
          have HFIN := Lib.hid hfin; clear hfin
          go_wp2
          go_ret
          exact ⟨by rw [HO.out HPY.out, HG.out]; rfl, HFIN.out⟩
        · have HPY := Lib.hid hp; clear hp
          rintro e w' ⟨rfl, hb'⟩
          have hfin := (HB.out.alloc HB.out.size _).trans (hb'.mono (by have := HB.out.size; simp <;> omega))
          have HFIN := Lib.hid hfin; clear hfin
          go_wp2
          go_roundw
          case rel => exact ⟨j + 1, by omega, by go_num, HN.out.trans HPY.out, HFIN.out⟩
          case measure => simp [intOf]; omega
      · obtain rfl : j = l.length := by omega
        rw [List.take_length] at hpl
        have HPL := Lib.hid hpl; clear hpl
        go_wp2
        go_ret
        exact ⟨by rw [HPL.out, HG.out]; rfl, hbx⟩
  · have g1 : decide ((1000 : Int) < (l.length : Int)) = true := by simp; omega
    have g1' : decide (l.length ≤ 1000) = false := by simpa using h1000
    have HG := Lib.hid g1'; clear g1'
    go_enter Tryd.func68, Tryd.ntmps68
    go_wp2
    go_ret
    exact ⟨by rw [HG.out]; rfl, Below.refl _ _⟩

set_option maxHeartbeats 2000000 in
set_option maxRecDepth 100000 in
theorem valid_any (x : It) : ∀ (m : Nat) (w : World) (B : Nat) (v : Value), m ≤ 8 → B ≤ w.heap.size → Lies w B x v →
    Calls Tryd.prog 54 #[v, .int .i64 m] w fun e w' => e = .returned (.bool (validB x m)) ∧ Below w.heap.size w w' := by
  induction x using It.ind with
  | h k n s l o ih =>
  intro m w B v hm hB hx
  obtain ⟨A, cap, rfl, hf, he⟩ := hx.out
  have hll : l.length ≤ 140737488355328 := hf.l
  have hbb : ∀ o : Obj, Below w.heap.size w (w.alloc o) := fun o => (Below.refl _ _).alloc (Nat.le_refl _) o
  simp only [itV, It.kind, It.n, It.s, It.l, It.opn] at *
  have hlI : (l.length : Int) ≤ 140737488355328 := by omega
  have HBB := Lib.hid hbb; clear hbb
  rcases m with _ | m
  · clear ih he hx hf
    go_enter Tryd.func54, Tryd.ntmps54
    go_wp2
    go_ret
    exact ⟨rfl, HBB.out _⟩
  have hlist := fun W (h : Boxed w (.mk k n s l o) (.slice A l.length cap) W) => validList_any l m (fun x hx w B v => ih x hx m w B v (by omega)) W B A cap (Nat.le_trans hB (Nat.le_of_lt h.lt)) hll
    (fun i y hi => by
      obtain ⟨b, off, sl, h1, h2, h3, h4⟩ := he i y hi
      exact ⟨b, off, sl, h1, h2, h3.below (h.below.mono hB) h2, h4.keep (h.below.mono hB)⟩)
  obtain ⟨M, hM⟩ : ∃ M : Nat, M = m + 1 := ⟨_, rfl⟩
  rw [← hM]
  have gm : ((M : Int) == 0) = false := by simp; omega
  have gm0 : ¬ M = 0 := by omega
  have gm1 : (M : Int) - 1 = (m : Int) := by omega
  have hMI : (M : Int) ≤ 8 := by omega
  have hspec : validB (.mk k n s l o) M = (topB k n s l.length o && validL l m) := by rw [hM]; rfl
  have HS := Lib.hid hspec; clear hspec
  have HM := Lib.hid hM; clear hM
  have HL := Lib.hid hlist; clear hlist
  clear ih he hx hf
  by_cases k4 : k = 4
  · subst k4
    have hsp : validB (.mk 4 n s l o) M = (decide (n = 0) && decide (s.toList = []) && (decide (l.length ≤ 1000) && validL l m)) := by
      rw [HS.out]
      simp [topB, Bool.and_assoc]
    have HSP := Lib.hid hsp; clear hsp HS
    by_cases hn : n = 0
    · subst hn
      by_cases hs : s.toList = []
      · have hsp : validB (.mk 4 0 s l o) M = (decide (l.length ≤ 1000) && validL l m) := by rw [HSP.out]; simp [hs]
        have HS2 := Lib.hid hsp; clear hsp HSP
        go_enter Tryd.func54, Tryd.ntmps54
        go_wp2_with fail
        refine (HL.out _ (Boxed.new w _ _)).mono ?_
        rintro e w1 ⟨rfl, hb1⟩
        have hfin := ((Boxed.new w (.mk 4 0 s l o) (.slice A l.length cap)).next hb1).below
        have HFIN := Lib.hid hfin; clear hfin
        go_wp2
        go_ret
        exact ⟨by rw [HS2.out]; rfl, HFIN.out⟩
      · have hsp : validB (.mk 4 0 s l o) M = false := by rw [HSP.out]; simp [hs]
        have HS2 := Lib.hid hsp; clear hsp HSP
        go_enter Tryd.func54, Tryd.ntmps54
        go_wp2
        go_ret
        exact ⟨by rw [HS2.out]; rfl, HBB.out _⟩
    · have hsp : validB (.mk 4 n s l o) M = false := by rw [HSP.out]; simp [hn]
      have HS2 := Lib.hid hsp; clear hsp HSP
      go_enter Tryd.func54, Tryd.ntmps54
      go_wp2
      go_ret
      exact ⟨by rw [HS2.out]; rfl, HBB.out _⟩
  · have hleaf : ∀ c : Bool, topB k n s l.length o = c → validB (.mk k n s l o) M = c := by
      intro c hc
      rw [HS.out, hc]
      cases c
      · rfl
      · rw [Bool.true_and]
        have hl0 : l.length = 0 := by
          unfold topB at hc
          by_cases k0 : k = 0
          · simp [k0] at hc; simp [hc.1.2]
          · by_cases k23 : k = 2 ∨ k = 3
            · simp [k0, k23] at hc; simp [hc.1.2]
            · simp [k0, k23, k4] at hc
        rw [List.eq_nil_of_length_eq_zero hl0]
        rfl
    have HLF := Lib.hid hleaf; clear hleaf HS HL
    by_cases k0 : k = 0
    · subst k0
      go_enter Tryd.func54, Tryd.ntmps54
      go_wp2
      all_goals (go_ret; exact ⟨by rw [HLF.out _ rfl]; simp_all [topB], HBB.out _⟩)
    · by_cases k2 : k = 2
      · subst k2
        go_enter Tryd.func54, Tryd.ntmps54
        go_wp2
        all_goals (go_ret; exact ⟨by rw [HLF.out _ rfl]; simp_all [topB], HBB.out _⟩)
      · by_cases k3 : k = 3
        · subst k3
          go_enter Tryd.func54, Tryd.ntmps54
          go_wp2
          all_goals (go_ret; exact ⟨by rw [HLF.out _ rfl]; simp_all [topB], HBB.out _⟩)
        · have hsp : validB (.mk k n s l o) M = false := HLF.out _ (by simp [topB, k0, k2, k3, k4])
          have HS2 := Lib.hid hsp; clear hsp
          go_enter Tryd.func54, Tryd.ntmps54
          go_wp2
          go_ret
          exact ⟨by rw [HS2.out]; rfl, HBB.out _⟩

/-- item.Right. -/
theorem right_any (x : It) (w : World) (B : Nat) (v : Value) (hB : B ≤ w.heap.size) (hx : Lies w B x v) :
    Calls Tryd.prog 42 #[v] w fun e w' => e = .returned (.bool (validB x 8)) ∧ Below w.heap.size w w' := by
  obtain ⟨A, cap, rfl, hf, he⟩ := hx.out
  have hc := fun W (h : Boxed w x (.slice A x.l.length cap) W) => valid_any x 8 W B _ (by omega) (Nat.le_trans hB (Nat.le_of_lt h.lt)) (hx.keep (h.below.mono hB))
  have HC := Lib.hid hc; clear hc
  simp only [itV] at HC
  simp only [itV]
  clear he hf hx
  generalize validB x 8 = r at *
  go_enter Tryd.func42, Tryd.ntmps42
  go_wp2_with fail
  refine (HC.out _ (Boxed.new w _ _)).mono ?_
  rintro e w1 ⟨rfl, hb1⟩
  go_wp2
  go_ret
  exact ⟨rfl, ((Boxed.new w x (.slice A x.l.length cap)).next hb1).below⟩

/-- dromondref02.Right. -/
def rightB (x : It) : Bool := decide (deepOf x 9 ≤ 8) && plainB x

set_option maxHeartbeats 1000000 in
set_option maxRecDepth 100000 in
theorem refRight_any (x : It) (w : World) (B : Nat) (v : Value) (hB : B ≤ w.heap.size) (hx : Lies w B x v) :
    Calls Tryd.prog 14 #[v] w fun e w' => e = .returned (.bool (rightB x)) ∧ Below w.heap.size w w' := by
  have hd := deepOf_le x 9
  obtain ⟨A, cap, rfl, hf, he⟩ := hx.out
  have hc1 := fun W (h : Boxed w x (.slice A x.l.length cap) W) => deep_any x 9 W B _ (by omega) (Nat.le_trans hB (Nat.le_of_lt h.lt)) (hx.keep (h.below.mono hB))
  have hc2 := fun W (h : Boxed w x (.slice A x.l.length cap) W) => plain_any x W B _ (Nat.le_trans hB (Nat.le_of_lt h.lt)) (hx.keep (h.below.mono hB))
  clear he hf hx
  simp only [itV] at hc1 hc2
  have HC1 := Lib.hid hc1; clear hc1
  have HC2 := Lib.hid hc2; clear hc2
  unfold rightB
  generalize deepOf x 9 = p at *
  generalize plainB x = q at *
  simp only [itV]
  go_enter Tryd.func14, Tryd.ntmps14
  go_wp2_with fail
  refine (HC1.out _ (Boxed.new w _ _)).mono ?_
  rintro e w1 ⟨rfl, hb1⟩
  have hbx := (Boxed.new w x (.slice A x.l.length cap)).next hb1
  have c0 := hbx.c0
  have c1 := hbx.c1
  have c2 := hbx.c2
  have c3 := hbx.c3
  have c4 := hbx.c4
  have HB := Lib.hid hbx; clear hbx
  by_cases h9 : p ≤ 8
  · have g9 : decide ((p : Int) ≤ 8) = true := by simp; omega
    have g9' : decide (p ≤ 8) = true := by simpa using h9
    go_wp2_with fail
    refine (HC2.out _ HB.out).mono ?_
    rintro e w2 ⟨rfl, hb2⟩
    go_wp2
    go_ret
    exact ⟨by rw [g9']; rfl, (HB.out.next hb2).below⟩
  · have g9 : decide ((p : Int) ≤ 8) = false := by simp; omega
    have g9' : decide (p ≤ 8) = false := by simpa using h9
    go_wp2
    go_ret
    exact ⟨by rw [g9']; rfl, HB.out.below⟩

mutual
theorem valid_deep : ∀ (x : It) (m : Nat), validB x m = (decide (deepOf x m ≤ m) && plainB x)
  | .mk k n s l o, 0 => by simp [validB, deepOf]
  | .mk k n s l o, m + 1 => by
    simp only [validB, deepOf, plainB]
    rw [validL_deep l m]
    cases topB k n s l.length o <;> simp
theorem validL_deep : ∀ (l : List It) (m : Nat), validL l m = (decide (deepL l m ≤ m) && plainL l)
  | [], m => by simp [validL, deepL, plainL]
  | x :: r, m => by
    simp only [validL, deepL, plainL]
    rw [valid_deep x m, validL_deep r m]
    by_cases h1 : deepOf x m ≤ m <;> by_cases h2 : deepL r m ≤ m
    · have : max (deepOf x m) (deepL r m) ≤ m := by omega
      simp [h1, h2, this]
    · have : ¬ max (deepOf x m) (deepL r m) ≤ m := by omega
      simp [h2, this]
    · have : ¬ max (deepOf x m) (deepL r m) ≤ m := by omega
      simp [h1, this]
    · have : ¬ max (deepOf x m) (deepL r m) ≤ m := by omega
      simp [h1, this]
end

mutual
/-- As many levels as are looked at, or fewer: one level more tells nothing else. -/
theorem deep_more : ∀ (x : It) (m : Nat), deepOf x m ≤ m → deepOf x (m + 1) = deepOf x m
  | .mk k n s l o, 0, h => by simp [deepOf] at h
  | .mk k n s l o, m + 1, h => by
    simp only [deepOf] at h ⊢
    rw [deepL_more l m (by omega)]
theorem deepL_more : ∀ (l : List It) (m : Nat), deepL l m ≤ m → deepL l (m + 1) = deepL l m
  | [], m, h => rfl
  | x :: r, m, h => by
    simp only [deepL] at h ⊢
    rw [deep_more x m (by omega), deepL_more r m (by omega)]
end

mutual
theorem deep_mono : ∀ (x : It) (m : Nat), deepOf x m ≤ deepOf x (m + 1)
  | .mk k n s l o, 0 => by simp [deepOf]
  | .mk k n s l o, m + 1 => by
    simp only [deepOf]
    have := deepL_mono l m
    omega
theorem deepL_mono : ∀ (l : List It) (m : Nat), deepL l m ≤ deepL l (m + 1)
  | [], m => Nat.le_refl _
  | x :: r, m => by
    simp only [deepL]
    have := deep_mono x m
    have := deepL_mono r m
    omega
end

theorem right_valid (x : It) : rightB x = validB x 8 := by
  rw [valid_deep, rightB]
  by_cases h : deepOf x 8 ≤ 8
  · rw [deep_more x 8 h]
  · have hm : deepOf x 8 ≤ deepOf x 9 := deep_mono x 8
    have h' : ¬ deepOf x 9 ≤ 8 := by omega
    simp [h, h']

end Go.Proofs.YtmbmhblogjkflaaDoor
