/-
  Contract of dromondref02.Bytes. Conditions: the item lies in memory, is plain, and its bytes are at most 1000000.
-/
import Derived.Test.YtmbmhblogjkflaaDoorPlain
import Derived.Test.YtmbmhblogjkflaaDoorL
import Derived.Deep.RegionHeld3
import Derived.Deep.DeepCutAuto
import Derived.Deep.Light
namespace Go.Proofs.YtmbmhblogjkflaaDoor
open Go.ChangeShapes Go.WideShapes Go.ChangeAt Go.RowKit
open Plain
set_option linter.unusedVariables false

mutual
/-- An item's bytes. -/
def bytesOf : It → List UInt8
  | .mk k n s l o => if k = 0 then headOf 0 n else if k < 4 then headOf k.toNat s.size ++ s.data.toList else (if o then [159] else headOf 4 l.length) ++ bytesL l ++ (if o then [255] else [])
def bytesL : List It → List UInt8
  | [] => []
  | x :: r => bytesOf x ++ bytesL r
end

theorem bytesL_append (a b : List It) : bytesL (a ++ b) = bytesL a ++ bytesL b := by
  induction a with
  | nil => rfl
  | cons x r ih => simp [bytesL, ih]

theorem bytesL_mem {l : List It} {y : It} (h : y ∈ l) : (bytesOf y).length ≤ (bytesL l).length := by
  induction l with
  | nil => cases h
  | cons x r ih =>
    simp only [bytesL, List.length_append]
    rcases List.mem_cons.1 h with rfl | h'
    · omega
    · have := ih h'; omega

theorem bytesL_take (l : List It) (j : Nat) : (bytesL (l.take j)).length ≤ (bytesL l).length := by
  have h := bytesL_append (l.take j) (l.drop j)
  rw [List.take_append_drop] at h
  rw [h, List.length_append]
  omega

theorem plainL_mem {l : List It} {y : It} (h : y ∈ l) (hp : plainL l = true) : plainB y = true := by
  cases hb : plainB y
  · rw [plainL_of_not h hb] at hp; cases hp
  · rfl

theorem plain_parts {k : Int} {n : Nat} {s : ByteArray} {l : List It} {o : Bool} (h : plainB (.mk k n s l o) = true) :
    (k = 0 ∨ k = 2 ∨ k = 3 ∨ k = 4 ∧ l.length ≤ 1000 ∧ n = 0 ∧ s.toList = []) ∧ (k ≠ 4 → l = [] ∧ o = false) ∧ (k = 0 → s.toList = []) ∧ (k ≠ 0 → n = 0) ∧ plainL l = true := by
  simp only [plainB, Bool.and_eq_true] at h
  obtain ⟨ht, hl⟩ := h
  unfold topB at ht
  by_cases k0 : k = 0
  · simp [k0] at ht ⊢
    exact ⟨⟨ht.1.2, ht.2⟩, ht.1.1, hl⟩
  · by_cases k23 : k = 2 ∨ k = 3
    · simp [k0, k23] at ht
      have : k ≠ 4 := by omega
      refine ⟨by omega, fun _ => ⟨ht.1.2, ht.2⟩, fun h => absurd h k0, fun _ => ht.1.1, hl⟩
    · by_cases k4 : k = 4
      · simp [k4] at ht
        refine ⟨?_, fun h => absurd k4 h, fun h => absurd h k0, fun _ => ht.1.1, hl⟩
        exact .inr (.inr (.inr ⟨k4, ht.2, ht.1.1, ht.1.2⟩))
      · simp [k0, k23, k4] at ht

set_option maxHeartbeats 1000000 in
set_option maxRecDepth 100000 in
theorem refBytes_num (n : Nat) (s : ByteArray) (sl : Value) (A : Option Addr) (len cap : Nat) (o : Bool) (w : World) (hn : n < 18446744073709551616) :
    Calls Tryd.prog 15 #[.agg #[.int .i64 0, .int .u64 n, .string s, .slice A len cap, .bool o]] w fun e w' => e = .returned (.string ⟨(headOf 0 n).toArray⟩) ∧ Below w.heap.size w w' := by
  have HN := Lib.hid hn; clear hn
  go_enter Tryd.func15, Tryd.ntmps15
  go_wp2_with fail
  refine (refHead_any 0 n _ (by omega) HN.out).mono ?_
  rintro e w1 ⟨rfl, hb1⟩
  go_wp2
  go_ret
  exact ⟨rfl, ((Below.refl _ _).alloc (Nat.le_refl _) _).trans (hb1.mono (by simp))⟩

set_option maxHeartbeats 2000000 in
set_option maxRecDepth 100000 in
theorem refBytes_str (k : Nat) (hk : k = 2 ∨ k = 3) (s : ByteArray) (A : Option Addr) (len cap : Nat) (o : Bool) (w : World) (hs : s.size ≤ 1000000) :
    Calls Tryd.prog 15 #[.agg #[.int .i64 k, .int .u64 0, .string s, .slice A len cap, .bool o]] w fun e w' => e = .returned (.string (withHead k s)) ∧ Below w.heap.size w w' := by
  have hl := headOf_len k s.size
  have hsz : (⟨(headOf k s.size).toArray⟩ : ByteArray).size ≤ 9 := by
    show (headOf k s.size).toArray.size ≤ 9
    simpa using hl
  have HL := Lib.hid hl; clear hl
  have hsi : (s.size : Int) ≤ 1000000 := by omega
  have g0 : ((k : Int) == 0) = false := by simp; omega
  have g0' : ¬ k = 0 := by omega
  have g4 : decide ((k : Int) < 4) = true := by simp; omega
  have hwr : IntKind.u64.wrap (s.size : Int) = (s.size : Int) := by simp [IntKind.wrap, IntKind.bits, IntKind.signed]; omega
  have hcall := fun W => refHead_any k s.size W (by omega) (by omega)
  rw [← hwr] at hcall
  clear hwr
  rw [← withHead_eq]
  generalize hg : (⟨(headOf k s.size).toArray⟩ : ByteArray) = g at *
  have HG := Lib.hid hg; clear hg
  have hgi : (g.size : Int) ≤ 9 := by omega
  have hsum : g.size + s.size ≤ 9223372036854775807 := by omega
  have hadd : ∀ X : World, (Op.stringOp .add g s).run Tryd.prog X = .ok (.string (g ++ s)) X := fun X => run_string_add_sum X g s hsum
  have HK := Lib.hid hk; clear hk
  have HS := Lib.hid hs; clear hs
  have HC := Lib.hid hcall; clear hcall
  go_enter Tryd.func15, Tryd.ntmps15
  go_upto_region 4 with fail
  have hbx : Boxed w (.mk k 0 s [] o) (.slice A len cap) (w.alloc (.cells #[.int .i64 k, .int .u64 0, .string s, .slice A len cap, .bool o] 29)) := Boxed.new w (.mk k 0 s [] o) (.slice A len cap)
  generalize w.alloc (.cells #[.int .i64 k, .int .u64 0, .string s, .slice A len cap, .bool o] 29) = W at *
  have c0 := hbx.c0
  have c2 := hbx.c2
  simp only [It.kind, It.s] at c0 c2
  have hkp : ∀ X, Below W.heap.size W X → X.cell? ⟨w.heap.size, 0, none⟩ = some (.int .i64 k) ∧ X.cell? ⟨w.heap.size, 2, none⟩ = some (.string s) := fun X hX => ⟨(hX.cell (p := ⟨w.heap.size, 0, none⟩) hbx.lt).trans c0, (hX.cell (p := ⟨w.heap.size, 2, none⟩) hbx.lt).trans c2⟩
  have HKP := Lib.hid hkp; clear hkp
  have HB := Lib.hid hbx; clear hbx
  go_cut [2] (fun s2 wc => s2 = .string (g ++ s) ∧ Below w.heap.size w wc)
  case first =>
    go_region_held3 (fun X => X.cell? ⟨w.heap.size, 0, none⟩ = some (.int .i64 k) ∧ X.cell? ⟨w.heap.size, 2, none⟩ = some (.string s)) ((refine HKP.out _ ?_; first | (with_reducible assumption) | exact Below.refl _ _ | exact (Below.refl _ _).drew))
      (first | (go_at_call 31; refine (HC.out _).mono ?_; rintro e w' ⟨rfl, hb⟩; have hw : Below W.heap.size W w' := (Below.refl _ _).drew.trans hb))
    all_goals (go_wp2_with fail; go_meet)
    all_goals exact ⟨rfl, HB.out.below.trans (hw.mono (Nat.le_of_lt HB.out.lt))⟩
  case rest =>
    obtain ⟨rfl, hfin⟩ := hcut
    go_wp2
    go_ret
    exact ⟨rfl, hfin⟩

set_option maxHeartbeats 2000000 in
set_option maxRecDepth 100000 in
theorem refBytes_list_false (s : ByteArray) (l : List It) (hlen : l.length ≤ 1000) (hN : (bytesL l).length ≤ 1000000) (hp : plainL l = true)
    (ih : ∀ x ∈ l, ∀ (w : World) (B : Nat) (v : Value), B ≤ w.heap.size → Lies w B x v → plainB x = true → (bytesOf x).length ≤ 1000000 → Calls Tryd.prog 15 #[v] w fun e w' => e = .returned (.string ⟨(bytesOf x).toArray⟩) ∧ Below w.heap.size w w')
    (w : World) (B : Nat) (A : Option Addr) (cap : Nat) (hB : B ≤ w.heap.size)
    (he : ∀ i y, l[i]? = some y → ∃ b off sl, A = some ⟨b, off, none⟩ ∧ b < B ∧ At5 w b (off + i * 5) y sl ∧ Lies w B y (itV y sl)) :
    Calls Tryd.prog 15 #[.agg #[.int .i64 4, .int .u64 0, .string s, .slice A l.length cap, .bool false]] w fun e w' => e = .returned (.string ⟨(headOf 4 l.length ++ bytesL l).toArray⟩) ∧ Below w.heap.size w w' := by
  have IH := Lib.hid ih; clear ih
  have HE := Lib.hid he; clear he
  have hlI : (l.length : Int) ≤ 1000 := by omega
  have hpl : (headOf 4 l.length).length ≤ 9 := headOf_len 4 l.length
  have hcall := fun W => refHead_any 4 l.length W (by omega) (by omega)
  have HC := Lib.hid hcall; clear hcall
  have HP := Lib.hid hp; clear hp
  have HLEN := Lib.hid hlen; clear hlen
  have HNN := Lib.hid hN; clear hN
  obtain ⟨pre, hpre⟩ : ∃ pre : List UInt8, pre = headOf 4 l.length := ⟨_, rfl⟩
  have hprel : pre.length ≤ 9 := by rw [hpre]; first | exact hpl | simp
  rw [← hpre]
  rw [← hpre] at HC
  have HPRE := Lib.hid hpre; clear hpre
  have HPL := Lib.hid hpl; clear hpl
  have HPREL := Lib.hid hprel; clear hprel
  go_enter Tryd.func15, Tryd.ntmps15
  go_wp2_with fail
  refine (HC.out _).mono ?_
  rintro e w1 ⟨rfl, hb1⟩
  have hbx := (Boxed.new w (.mk 4 0 s l false) (.slice A l.length cap)).next hb1
  have c4 := hbx.c4
  simp only [It.opn] at c4
  have HB1 := Lib.hid hbx; clear hbx

  go_wp2
  go_loopw [3, 4] (fun t i wr => ∃ j : Nat, j ≤ l.length ∧ i = .int .i64 j ∧ t = .string ⟨(pre ++ bytesL (l.take j)).toArray⟩ ∧ Boxed w (.mk 4 0 s l false) (.slice A l.length cap) wr) (fun _ i _ => l.length - (intOf i).toNat)
  case atStart => exact ⟨0, Nat.zero_le _, rfl, by simp [bytesL], HB1.out⟩
  case round =>
    obtain ⟨j, hj, rfl, rfl, hbx⟩ := hrel
    have c3 := hbx.c3
    have c4 := hbx.c4
    simp only [It.opn] at c3 c4
    have htake := bytesL_take l j
    by_cases hlt : j < l.length
    · obtain ⟨b, off, sl, rfl, hb, h5, hy⟩ := HE.out j _ (List.getElem?_eq_getElem hlt)
      have hnext : bytesL (l.take (j + 1)) = bytesL (l.take j) ++ bytesOf l[j] := by
        rw [take_next (List.getElem?_eq_getElem hlt), bytesL_append]
        simp [bytesL]
      have htake2 := bytesL_take l (j + 1)
      rw [hnext, List.length_append] at htake2
      have hyl : (bytesOf l[j]).length ≤ 1000000 := by have := HNN.out; omega
      have hcall := fun W (h : Boxed w (.mk 4 0 s l false) (.slice (some ⟨b, off, none⟩) l.length cap) W) => IH.out l[j] (List.getElem_mem hlt) W B (itV l[j] sl) (Nat.le_trans hB (Nat.le_of_lt h.lt)) (hy.keep (h.below.mono hB)) (plainL_mem (List.getElem_mem hlt) HP.out) hyl
      have a5 := h5.below (hbx.below.mono hB) hb
      have l0 := a5.c0
      have l1 := a5.c1
      have l2 := a5.c2
      have l3 := a5.c3
      have l4 := a5.c4
      generalize l[j] = y at *
      have happ := bytes_append (pre ++ bytesL (l.take j)) (bytesOf y)
      rw [List.append_assoc, ← hnext] at happ
      have hsum : (⟨(pre ++ bytesL (l.take j)).toArray⟩ : ByteArray).size + (⟨(bytesOf y).toArray⟩ : ByteArray).size ≤ 9223372036854775807 := by
        show (pre ++ bytesL (l.take j)).toArray.size + (bytesOf y).toArray.size ≤ 9223372036854775807
        simp only [List.size_toArray, List.length_append]
        have := HPREL.out
        have := HNN.out
        omega
      have HN := Lib.hid hnext; clear hnext
      have HT := Lib.hid (And.intro htake htake2); clear htake htake2 hyl
      generalize (⟨(pre ++ bytesL (l.take j)).toArray⟩ : ByteArray) = G at *
      generalize (⟨(bytesOf y).toArray⟩ : ByteArray) = Y at *
      have HAPP := Lib.hid happ; clear happ
      have HC2 := Lib.hid hcall; clear hcall
      have HB := Lib.hid hbx; clear hbx
      simp only [itV] at HC2
      clear a5 h5 hy
      go_wp2_with fail
      refine (HC2.out _ HB.out).mono ?_
      rintro e w' ⟨rfl, hb'⟩
      go_wp2
      go_roundw
      case rel => exact ⟨j + 1, by omega, by go_num, by rw [HAPP.out], HB.out.next hb'⟩
      case measure => simp [intOf]; omega
    · obtain rfl : j = l.length := by omega
      rw [List.take_length]
      have HB := Lib.hid hbx; clear hbx
      go_wp2
      go_ret
      exact ⟨rfl, HB.out.below⟩

set_option maxHeartbeats 2000000 in
set_option maxRecDepth 100000 in
theorem refBytes_list_true (s : ByteArray) (l : List It) (hlen : l.length ≤ 1000) (hN : (bytesL l).length ≤ 1000000) (hp : plainL l = true)
    (ih : ∀ x ∈ l, ∀ (w : World) (B : Nat) (v : Value), B ≤ w.heap.size → Lies w B x v → plainB x = true → (bytesOf x).length ≤ 1000000 → Calls Tryd.prog 15 #[v] w fun e w' => e = .returned (.string ⟨(bytesOf x).toArray⟩) ∧ Below w.heap.size w w')
    (w : World) (B : Nat) (A : Option Addr) (cap : Nat) (hB : B ≤ w.heap.size)
    (he : ∀ i y, l[i]? = some y → ∃ b off sl, A = some ⟨b, off, none⟩ ∧ b < B ∧ At5 w b (off + i * 5) y sl ∧ Lies w B y (itV y sl)) :
    Calls Tryd.prog 15 #[.agg #[.int .i64 4, .int .u64 0, .string s, .slice A l.length cap, .bool true]] w fun e w' => e = .returned (.string ⟨([159] ++ bytesL l ++ [255]).toArray⟩) ∧ Below w.heap.size w w' := by
  have IH := Lib.hid ih; clear ih
  have HE := Lib.hid he; clear he
  have hlI : (l.length : Int) ≤ 1000 := by omega
  have hpl : (headOf 4 l.length).length ≤ 9 := headOf_len 4 l.length
  have hcall := fun W => refHead_any 4 l.length W (by omega) (by omega)
  have HC := Lib.hid hcall; clear hcall
  have HP := Lib.hid hp; clear hp
  have HLEN := Lib.hid hlen; clear hlen
  have HNN := Lib.hid hN; clear hN
  obtain ⟨pre, hpre⟩ : ∃ pre : List UInt8, pre = [159] := ⟨_, rfl⟩
  have hprel : pre.length ≤ 9 := by rw [hpre]; first | exact hpl | simp
  rw [← hpre]
  have HPRE := Lib.hid hpre; clear hpre
  have HPL := Lib.hid hpl; clear hpl
  have HPREL := Lib.hid hprel; clear hprel
  go_enter Tryd.func15, Tryd.ntmps15
  go_wp2_with fail
  refine (HC.out _).mono ?_
  rintro e w1 ⟨rfl, hb1⟩
  have hbx := (Boxed.new w (.mk 4 0 s l true) (.slice A l.length cap)).next hb1
  have c4 := hbx.c4
  simp only [It.opn] at c4
  have HB1 := Lib.hid hbx; clear hbx

  go_wp2
  go_loopw [3, 4] (fun t i wr => ∃ j : Nat, j ≤ l.length ∧ i = .int .i64 j ∧ t = .string ⟨(pre ++ bytesL (l.take j)).toArray⟩ ∧ Boxed w (.mk 4 0 s l true) (.slice A l.length cap) wr) (fun _ i _ => l.length - (intOf i).toNat)
  case atStart => exact ⟨0, Nat.zero_le _, rfl, by rw [HPRE.out]; simp [bytesL], HB1.out⟩
  case round =>
    obtain ⟨j, hj, rfl, rfl, hbx⟩ := hrel
    have c3 := hbx.c3
    have c4 := hbx.c4
    simp only [It.opn] at c3 c4
    have htake := bytesL_take l j
    by_cases hlt : j < l.length
    · obtain ⟨b, off, sl, rfl, hb, h5, hy⟩ := HE.out j _ (List.getElem?_eq_getElem hlt)
      have hnext : bytesL (l.take (j + 1)) = bytesL (l.take j) ++ bytesOf l[j] := by
        rw [take_next (List.getElem?_eq_getElem hlt), bytesL_append]
        simp [bytesL]
      have htake2 := bytesL_take l (j + 1)
      rw [hnext, List.length_append] at htake2
      have hyl : (bytesOf l[j]).length ≤ 1000000 := by have := HNN.out; omega
      have hcall := fun W (h : Boxed w (.mk 4 0 s l true) (.slice (some ⟨b, off, none⟩) l.length cap) W) => IH.out l[j] (List.getElem_mem hlt) W B (itV l[j] sl) (Nat.le_trans hB (Nat.le_of_lt h.lt)) (hy.keep (h.below.mono hB)) (plainL_mem (List.getElem_mem hlt) HP.out) hyl
      have a5 := h5.below (hbx.below.mono hB) hb
      have l0 := a5.c0
      have l1 := a5.c1
      have l2 := a5.c2
      have l3 := a5.c3
      have l4 := a5.c4
      generalize l[j] = y at *
      have happ := bytes_append (pre ++ bytesL (l.take j)) (bytesOf y)
      rw [List.append_assoc, ← hnext] at happ
      have hsum : (⟨(pre ++ bytesL (l.take j)).toArray⟩ : ByteArray).size + (⟨(bytesOf y).toArray⟩ : ByteArray).size ≤ 9223372036854775807 := by
        show (pre ++ bytesL (l.take j)).toArray.size + (bytesOf y).toArray.size ≤ 9223372036854775807
        simp only [List.size_toArray, List.length_append]
        have := HPREL.out
        have := HNN.out
        omega
      have HN := Lib.hid hnext; clear hnext
      have HT := Lib.hid (And.intro htake htake2); clear htake htake2 hyl
      generalize (⟨(pre ++ bytesL (l.take j)).toArray⟩ : ByteArray) = G at *
      generalize (⟨(bytesOf y).toArray⟩ : ByteArray) = Y at *
      have HAPP := Lib.hid happ; clear happ
      have HC2 := Lib.hid hcall; clear hcall
      have HB := Lib.hid hbx; clear hbx
      simp only [itV] at HC2
      clear a5 h5 hy
      go_wp2_with fail
      refine (HC2.out _ HB.out).mono ?_
      rintro e w' ⟨rfl, hb'⟩
      go_wp2
      go_roundw
      case rel => exact ⟨j + 1, by omega, by go_num, by rw [HAPP.out], HB.out.next hb'⟩
      case measure => simp [intOf]; omega
    · obtain rfl : j = l.length := by omega
      rw [List.take_length]
      have happ := bytes_append (pre ++ bytesL l) [255]
      have hsum : (⟨(pre ++ bytesL l).toArray⟩ : ByteArray).size + 1 ≤ 9223372036854775807 := by
        show (pre ++ bytesL l).toArray.size + 1 ≤ 9223372036854775807
        simp only [List.size_toArray, List.length_append]
        have := HPREL.out
        have := HNN.out
        omega
      generalize (⟨(pre ++ bytesL l).toArray⟩ : ByteArray) = G at *
      have HAPP := Lib.hid happ; clear happ
      have HB := Lib.hid hbx; clear hbx
      go_wp2
      go_ret
      exact ⟨by rw [← HAPP.out]; rfl, HB.out.below⟩

/-- dromondref02.Bytes. -/
theorem bytesR_any (x : It) : ∀ (w : World) (B : Nat) (v : Value), B ≤ w.heap.size → Lies w B x v → plainB x = true → (bytesOf x).length ≤ 1000000 →
    Calls Tryd.prog 15 #[v] w fun e w' => e = .returned (.string ⟨(bytesOf x).toArray⟩) ∧ Below w.heap.size w w' := by
  induction x using It.ind with
  | h k n s l o ih =>
  intro w B v hB hx hp hN
  obtain ⟨A, cap, rfl, hf, he⟩ := hx.out
  have hn : n ≤ 18446744073709551615 := hf.n
  obtain ⟨hk, h4, h0, hnz, hpl⟩ := plain_parts hp
  simp only [itV, It.kind, It.n, It.s, It.l, It.opn] at *
  rcases hk with rfl | rfl | rfl | ⟨rfl, hlen, rfl, hs⟩
  · simp only [bytesOf, if_true]
    exact refBytes_num n s (.slice A l.length cap) A l.length cap o w (by omega)
  · have hnn := hnz (by decide)
    subst hnn
    simp [bytesOf] at hN
    simp [bytesOf]
    exact refBytes_str 2 (.inl rfl) s A l.length cap o w (by have : s.data.size = s.size := rfl; omega)
  · have hnn := hnz (by decide)
    subst hnn
    simp [bytesOf] at hN
    simp [bytesOf]
    exact refBytes_str 3 (.inr rfl) s A l.length cap o w (by have : s.data.size = s.size := rfl; omega)
  · cases o
    · simp [bytesOf] at hN ⊢
      have := refBytes_list_false s l hlen (by omega) hpl ih w B A cap hB he
      simpa using this
    · simp [bytesOf] at hN ⊢
      have := refBytes_list_true s l hlen (by omega) hpl ih w B A cap hB he
      simpa using this

end Go.Proofs.YtmbmhblogjkflaaDoor
