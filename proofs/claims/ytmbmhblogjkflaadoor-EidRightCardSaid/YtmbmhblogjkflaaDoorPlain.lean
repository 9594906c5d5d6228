/-
  Contract of dromondref02.plain. Conditions: the item lies in memory.
-/
import Derived.Test.YtmbmhblogjkflaaDoorDeep
namespace Go.Proofs.YtmbmhblogjkflaaDoor
open Go.ChangeShapes Go.WideShapes Go.ChangeAt Go.RowKit
open Plain
set_option linter.unusedVariables false

/-- What the kinds allow. -/
def topB (k : Int) (n : Nat) (s : ByteArray) (len : Nat) (o : Bool) : Bool :=
  if k = 0 then decide (s.toList = []) && decide (len = 0) && !o
  else if k = 2 ∨ k = 3 then decide (n = 0) && decide (len = 0) && !o
  else if k = 4 then decide (n = 0) && decide (s.toList = []) && decide (len ≤ 1000)
  else false

mutual
/-- Is each what its kind may be? -/
def plainB : It → Bool
  | .mk k n s l o => topB k n s l.length o && plainL l
def plainL : List It → Bool
  | [] => true
  | x :: r => plainB x && plainL r
end

theorem plainL_append (a b : List It) : plainL (a ++ b) = (plainL a && plainL b) := by
  induction a with
  | nil => simp [plainL]
  | cons x r ih => simp [plainL, ih, Bool.and_assoc]

theorem plainL_of_not {l : List It} {y : It} (h : y ∈ l) (hp : plainB y = false) : plainL l = false := by
  induction l with
  | nil => cases h
  | cons x r ih =>
    rcases List.mem_cons.1 h with rfl | h'
    · simp [plainL, hp]
    · simp [plainL, ih h']

set_option maxHeartbeats 2000000 in
set_option maxRecDepth 100000 in
theorem plain_not (k : Int) (n : Nat) (s : ByteArray) (A : Option Addr) (len cap : Nat) (o : Bool) (w : World) (hl : (len : Int) ≤ 140737488355328) (ht : topB k n s len o = false) :
    Calls Tryd.prog 30 #[.agg #[.int .i64 k, .int .u64 n, .string s, .slice A len cap, .bool o]] w fun e w' => e = .returned (.bool false) ∧ Below w.heap.size w w' := by
  have hbb : ∀ o : Obj, Below w.heap.size w (w.alloc o) := fun o => (Below.refl _ _).alloc (Nat.le_refl _) o
  have HBB := Lib.hid hbb; clear hbb
  unfold topB at ht
  by_cases k0 : k = 0
  · subst k0
    simp only [if_true] at ht
    have HT := Lib.hid ht; clear ht
    go_enter Tryd.func30, Tryd.ntmps30
    go_wp2
    all_goals (first | (go_ret; exact ⟨rfl, HBB.out _⟩) | (exfalso; have := HT.out; simp_all))
  · simp only [if_neg k0] at ht
    by_cases k2 : k = 2
    · subst k2
      simp only [true_or, if_true] at ht
      have HT := Lib.hid ht; clear ht
      go_enter Tryd.func30, Tryd.ntmps30
      go_wp2
      all_goals (first | (go_ret; exact ⟨rfl, HBB.out _⟩) | (exfalso; have := HT.out; simp_all))
    · by_cases k3 : k = 3
      · subst k3
        simp only [or_true, if_true] at ht
        have HT := Lib.hid ht; clear ht
        go_enter Tryd.func30, Tryd.ntmps30
        go_wp2
        all_goals (first | (go_ret; exact ⟨rfl, HBB.out _⟩) | (exfalso; have := HT.out; simp_all))
      · by_cases k4 : k = 4
        · subst k4
          simp at ht
          have HT := Lib.hid ht; clear ht
          go_enter Tryd.func30, Tryd.ntmps30
          go_wp2
          all_goals (first | (go_ret; exact ⟨rfl, HBB.out _⟩) | (exfalso; have := HT.out; simp_all <;> omega))
        · have HT := Lib.hid ht; clear ht
          have g0 : (k == 0) = false := by simpa using k0
          have g2 : (k == 2) = false := by simpa using k2
          have g3 : (k == 3) = false := by simpa using k3
          have g4 : (k == 4) = false := by simpa using k4
          go_enter Tryd.func30, Tryd.ntmps30
          go_wp2
          go_ret
          exact ⟨rfl, HBB.out _⟩


set_option maxHeartbeats 1000000 in
set_option maxRecDepth 100000 in
theorem plain_leaf0 (n : Nat) (s : ByteArray) (A : Option Addr) (cap : Nat) (w : World) (hs : s.toList = []) :
    Calls Tryd.prog 30 #[.agg #[.int .i64 0, .int .u64 n, .string s, .slice A 0 cap, .bool false]] w fun e w' => e = .returned (.bool true) ∧ Below w.heap.size w w' := by
  by_cases hn : n = 0
  · subst hn
    go_enter Tryd.func30, Tryd.ntmps30
    go_wp2
    go_loopw [5] (fun i wr => i = .int .i64 0 ∧ Boxed w (.mk 0 0 s [] false) (.slice A 0 cap) wr) (fun i _ => 0)
    case atStart => exact ⟨rfl, Boxed.new w _ _⟩
    case round =>
      obtain ⟨rfl, hbx⟩ := hrel
      have c3 := hbx.c3
      go_wp2
      go_ret
      exact ⟨rfl, hbx.below⟩
  · skip
    go_enter Tryd.func30, Tryd.ntmps30
    go_wp2
    go_loopw [5] (fun i wr => i = .int .i64 0 ∧ Boxed w (.mk 0 n s [] false) (.slice A 0 cap) wr) (fun i _ => 0)
    case atStart => exact ⟨rfl, Boxed.new w _ _⟩
    case round =>
      obtain ⟨rfl, hbx⟩ := hrel
      have c3 := hbx.c3
      go_wp2
      go_ret
      exact ⟨rfl, hbx.below⟩

set_option maxHeartbeats 1000000 in
set_option maxRecDepth 100000 in
theorem plain_leaf2 (s : ByteArray) (A : Option Addr) (cap : Nat) (w : World) :
    Calls Tryd.prog 30 #[.agg #[.int .i64 2, .int .u64 0, .string s, .slice A 0 cap, .bool false]] w fun e w' => e = .returned (.bool true) ∧ Below w.heap.size w w' := by
  by_cases hs : s.toList = []
  · skip
    go_enter Tryd.func30, Tryd.ntmps30
    go_wp2
    go_loopw [5] (fun i wr => i = .int .i64 0 ∧ Boxed w (.mk 2 0 s [] false) (.slice A 0 cap) wr) (fun i _ => 0)
    case atStart => exact ⟨rfl, Boxed.new w _ _⟩
    case round =>
      obtain ⟨rfl, hbx⟩ := hrel
      have c3 := hbx.c3
      go_wp2
      go_ret
      exact ⟨rfl, hbx.below⟩
  · skip
    go_enter Tryd.func30, Tryd.ntmps30
    go_wp2
    go_loopw [5] (fun i wr => i = .int .i64 0 ∧ Boxed w (.mk 2 0 s [] false) (.slice A 0 cap) wr) (fun i _ => 0)
    case atStart => exact ⟨rfl, Boxed.new w _ _⟩
    case round =>
      obtain ⟨rfl, hbx⟩ := hrel
      have c3 := hbx.c3
      go_wp2
      go_ret
      exact ⟨rfl, hbx.below⟩

set_option maxHeartbeats 1000000 in
set_option maxRecDepth 100000 in
theorem plain_leaf3 (s : ByteArray) (A : Option Addr) (cap : Nat) (w : World) :
    Calls Tryd.prog 30 #[.agg #[.int .i64 3, .int .u64 0, .string s, .slice A 0 cap, .bool false]] w fun e w' => e = .returned (.bool true) ∧ Below w.heap.size w w' := by
  by_cases hs : s.toList = []
  · skip
    go_enter Tryd.func30, Tryd.ntmps30
    go_wp2
    go_loopw [5] (fun i wr => i = .int .i64 0 ∧ Boxed w (.mk 3 0 s [] false) (.slice A 0 cap) wr) (fun i _ => 0)
    case atStart => exact ⟨rfl, Boxed.new w _ _⟩
    case round =>
      obtain ⟨rfl, hbx⟩ := hrel
      have c3 := hbx.c3
      go_wp2
      go_ret
      exact ⟨rfl, hbx.below⟩
  · skip
    go_enter Tryd.func30, Tryd.ntmps30
    go_wp2
    go_loopw [5] (fun i wr => i = .int .i64 0 ∧ Boxed w (.mk 3 0 s [] false) (.slice A 0 cap) wr) (fun i _ => 0)
    case atStart => exact ⟨rfl, Boxed.new w _ _⟩
    case round =>
      obtain ⟨rfl, hbx⟩ := hrel
      have c3 := hbx.c3
      go_wp2
      go_ret
      exact ⟨rfl, hbx.below⟩

set_option maxHeartbeats 1000000 in
set_option maxRecDepth 100000 in
theorem plain_leaf4 (s : ByteArray) (o : Bool) (A : Option Addr) (cap : Nat) (w : World) (hs : s.toList = []) :
    Calls Tryd.prog 30 #[.agg #[.int .i64 4, .int .u64 0, .string s, .slice A 0 cap, .bool o]] w fun e w' => e = .returned (.bool true) ∧ Below w.heap.size w w' := by
  cases o
  · skip
    go_enter Tryd.func30, Tryd.ntmps30
    go_wp2
    go_loopw [5] (fun i wr => i = .int .i64 0 ∧ Boxed w (.mk 4 0 s [] false) (.slice A 0 cap) wr) (fun i _ => 0)
    case atStart => exact ⟨rfl, Boxed.new w _ _⟩
    case round =>
      obtain ⟨rfl, hbx⟩ := hrel
      have c3 := hbx.c3
      go_wp2
      go_ret
      exact ⟨rfl, hbx.below⟩
  · skip
    go_enter Tryd.func30, Tryd.ntmps30
    go_wp2
    go_loopw [5] (fun i wr => i = .int .i64 0 ∧ Boxed w (.mk 4 0 s [] true) (.slice A 0 cap) wr) (fun i _ => 0)
    case atStart => exact ⟨rfl, Boxed.new w _ _⟩
    case round =>
      obtain ⟨rfl, hbx⟩ := hrel
      have c3 := hbx.c3
      go_wp2
      go_ret
      exact ⟨rfl, hbx.below⟩

set_option maxHeartbeats 1000000 in
set_option maxRecDepth 100000 in
theorem plain_list (s : ByteArray) (l : List It) (o : Bool) (hs : s.toList = []) (h0 : ¬ l.length = 0) (h1000 : l.length ≤ 1000)
    (ih : ∀ x ∈ l, ∀ (w : World) (B : Nat) (v : Value), B ≤ w.heap.size → Lies w B x v → Calls Tryd.prog 30 #[v] w fun e w' => e = .returned (.bool (plainB x)) ∧ Below w.heap.size w w')
    (w : World) (B : Nat) (A : Option Addr) (cap : Nat) (hB : B ≤ w.heap.size) 
    (he : ∀ i y, l[i]? = some y → ∃ b off sl, A = some ⟨b, off, none⟩ ∧ b < B ∧ At5 w b (off + i * 5) y sl ∧ Lies w B y (itV y sl)) :
    Calls Tryd.prog 30 #[.agg #[.int .i64 4, .int .u64 0, .string s, .slice A l.length cap, .bool o]] w fun e w' => e = .returned (.bool (plainL l)) ∧ Below w.heap.size w w' := by
  have IH := Lib.hid ih; clear ih
  have HE := Lib.hid he; clear he
  have hlI : (l.length : Int) ≤ 1000 := by omega
  go_enter Tryd.func30, Tryd.ntmps30
  go_wp2
  go_loopw [5] (fun i wr => ∃ j : Nat, j ≤ l.length ∧ i = .int .i64 j ∧ plainL (l.take j) = true ∧ Boxed w (.mk 4 0 s l o) (.slice A l.length cap) wr) (fun i _ => l.length - (intOf i).toNat)
  case atStart => exact ⟨0, Nat.zero_le _, rfl, rfl, Boxed.new w _ _⟩
  case round =>
    obtain ⟨j, hj, rfl, hpl, hbx⟩ := hrel
    have c3 := hbx.c3
    by_cases hlt : j < l.length
    · obtain ⟨b, off, sl, rfl, hb, h5, hy⟩ := HE.out j _ (List.getElem?_eq_getElem hlt)
      have hnext : plainL (l.take (j + 1)) = plainB l[j] := by
        rw [take_next (List.getElem?_eq_getElem hlt), plainL_append, hpl]
        simp [plainL]
      have hno : plainB l[j] = false → plainL l = false := plainL_of_not (List.getElem_mem hlt)
      have hcall := fun W (h : Boxed w (.mk 4 0 s l o) (.slice (some ⟨b, off, none⟩) l.length cap) W) => IH.out l[j] (List.getElem_mem hlt) W B (itV l[j] sl) (Nat.le_trans hB (Nat.le_of_lt h.lt)) (hy.keep (h.below.mono hB))
      have a5 := h5.below (hbx.below.mono hB) hb
      have l0 := a5.c0
      have l1 := a5.c1
      have l2 := a5.c2
      have l3 := a5.c3
      have l4 := a5.c4
      generalize l[j] = y at *
      have HN := Lib.hid hnext; clear hnext
      have HO := Lib.hid hno; clear hno
      have HC := Lib.hid hcall; clear hcall
      have HB := Lib.hid hbx; clear hbx
      have HP := Lib.hid hpl; clear hpl
      simp only [itV] at HC
      clear a5 h5 hy
      go_wp2_with fail
      refine (HC.out _ HB.out).mono ?_
      cases hp : plainB y
      · have HPY := Lib.hid hp; clear hp
        rintro e w' ⟨rfl, hb'⟩
        go_wp2
        go_ret
        exact ⟨by rw [HO.out HPY.out]; rfl, (HB.out.next hb').below⟩
      · have HPY := Lib.hid hp; clear hp
        rintro e w' ⟨rfl, hb'⟩
        go_wp2
        go_roundw
        case rel => exact ⟨j + 1, by omega, by go_num, HN.out.trans HPY.out, HB.out.next hb'⟩
        case measure => simp [intOf]; omega
    · obtain rfl : j = l.length := by omega
      rw [List.take_length] at hpl
      have HPL := Lib.hid hpl; clear hpl
      go_wp2
      go_ret
      exact ⟨by rw [HPL.out]; rfl, hbx.below⟩

theorem plain_any (x : It) : ∀ (w : World) (B : Nat) (v : Value), B ≤ w.heap.size → Lies w B x v →
    Calls Tryd.prog 30 #[v] w fun e w' => e = .returned (.bool (plainB x)) ∧ Below w.heap.size w w' := by
  induction x using It.ind with
  | h k n s l o ih =>
  intro w B v hB hx
  obtain ⟨A, cap, rfl, hf, he⟩ := hx.out
  have hll : l.length ≤ 140737488355328 := hf.l
  simp only [itV, It.kind, It.n, It.s, It.l, It.opn] at *
  simp only [plainB]
  cases ht : topB k n s l.length o
  · exact plain_not k n s A l.length cap o w (by omega) ht
  · rw [Bool.true_and]
    unfold topB at ht
    by_cases k0 : k = 0
    · subst k0
      simp at ht
      obtain ⟨⟨h1, h2⟩, h3⟩ := ht
      subst h2 h3
      exact plain_leaf0 n s A cap w h1
    · simp only [if_neg k0] at ht
      by_cases k2 : k = 2
      · subst k2
        simp at ht
        obtain ⟨⟨h1, h2⟩, h3⟩ := ht
        subst h1 h2 h3
        exact plain_leaf2 s A cap w
      · by_cases k3 : k = 3
        · subst k3
          simp at ht
          obtain ⟨⟨h1, h2⟩, h3⟩ := ht
          subst h1 h2 h3
          exact plain_leaf3 s A cap w
        · by_cases k4 : k = 4
          · subst k4
            simp at ht
            obtain ⟨⟨h1, h2⟩, h3⟩ := ht
            subst h1
            by_cases h0 : l.length = 0
            · obtain rfl := List.eq_nil_of_length_eq_zero h0
              exact plain_leaf4 s o A cap w h2
            · exact plain_list s l o h2 h0 h3 ih w B A cap hB he
          · simp [k2, k3, k4] at ht

end Go.Proofs.YtmbmhblogjkflaaDoor
