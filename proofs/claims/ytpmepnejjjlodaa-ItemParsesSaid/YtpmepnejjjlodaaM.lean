/-
  The contract of dromondref01.Read: the head with which bytes begin. Conditions: the string is no longer than memory allows.
-/
import Derived.Test.YtpmepnejjjlodaaJ
import Derived.Deep.RegionWith
namespace Go.Proofs.Ytpmepnejjjlodaa
open Go.ChangeShapes Go.WideShapes Go.ChangeAt Go.RowKit
open Plain
set_option linter.unusedVariables false

/-- What Read answers. -/
def gotV (x : Option Hd) : Value := match x with
  | some x => .agg #[.int .i64 x.size, .int .i64 x.major, .int .u64 x.n, .bool x.op]
  | none => .agg #[.int .i64 0, .int .i64 0, .int .u64 0, .bool false]

theorem read_empty (s : ByteArray) (w : World) (h0 : s.size = 0) : Calls Try.prog 33 #[.string s] w fun e w' => e = .returned (gotV (headL s.data.toList)) ∧ Below w.heap.size w w' := by
  have hl : s.data.toList = [] := List.eq_nil_of_length_eq_zero (by rw [size_list]; exact h0)
  have he : s.toList.isEmpty = true := by rw [Lib.toList_data, hl]; rfl
  have hv : gotV (headL s.data.toList) = .agg #[.int .i64 0, .int .i64 0, .int .u64 0, .bool false] := by rw [hl]; rfl
  have HV := Lib.hid hv; clear hl h0 hv
  go_enter Try.func33, Try.ntmps33
  go_wp2
  rw [HV.out]
  refine bodyPost_ret (v := .agg #[.int .i64 0, .int .i64 0, .int .u64 0, .bool false]) (by simp [results, Try.results33, go_sem]) rfl ⟨rfl, (Below.refl _ _).alloc (Nat.le_refl _) _⟩

theorem tdiv_bits (x : Nat) (h : x < 256) : wrap64 ((wrap64 (x : Int)).tdiv 32) = ((x / 32 : Nat) : Int) := by
  rw [wrap64_of (x := (x : Int)) (by omega) (by omega), Int.tdiv_eq_ediv_of_nonneg (by omega), wrap64_of (by omega) (by omega)]
  omega

theorem tmod_bits (x : Nat) (h : x < 256) : (wrap64 (x : Int)).tmod 32 = ((x % 32 : Nat) : Int) := by
  rw [wrap64_of (x := (x : Int)) (by omega) (by omega), Int.tmod_eq_emod_of_nonneg (by omega)]
  omega

/-- The first byte of a string, taken apart. -/
structure Cut (s : ByteArray) (h0 : 0 < s.size) (m low : Nat) : Prop where
  list : s.data.toList = s[0] :: s.data.toList.drop 1
  major : s[0].toNat / 32 = m
  lower : s[0].toNat % 32 = low

theorem cut_of (s : ByteArray) (h0 : 0 < s.size) : Cut s h0 (s[0].toNat / 32) (s[0].toNat % 32) := ⟨by
  have := list_cons s h0
  rw [Lib.extract_to_end] at this
  exact this, rfl, rfl⟩

section
variable {s : ByteArray} {h0 : 0 < s.size} {m low : Nat}
theorem Cut.div (h : Cut s h0 m low) : wrap64 ((wrap64 (s[0].toNat : Int)).tdiv 32) = (m : Int) := by
  rw [tdiv_bits _ (by have := s[0].toNat_lt; omega), h.major]
theorem Cut.mod (h : Cut s h0 m low) : (wrap64 (s[0].toNat : Int)).tmod 32 = (low : Int) := by
  rw [tmod_bits _ (by have := s[0].toNat_lt; omega), h.lower]
theorem Cut.m7 (h : Cut s h0 m low) : m ≤ 7 := by have := s[0].toNat_lt; have := h.major; omega
theorem Cut.l32 (h : Cut s h0 m low) : low < 32 := by have := h.lower; omega
theorem Cut.head (h : Cut s h0 m low) : headL s.data.toList =
    if low = 31 then (if opens ((m : Nat) : Int) then some ⟨m, 0, true, 1⟩ else none)
    else match argOf low (s.data.toList.drop 1) with
      | some (n, k) => some ⟨m, n, false, 1 + k⟩
      | none => none := by
  rw [h.list]
  simp only [headL, List.drop_succ_cons, List.drop_zero, h.major, h.lower]
  rfl
end

/-- The number that k bytes behind the first spell. -/
def restVal (s : ByteArray) (k : Nat) : Nat := val ((s.data.toList.drop 1).take k)

/-- One byte more, as the reference adds it. -/
theorem restVal_succ (s : ByteArray) (k : Nat) (h : k + 1 < s.size) : restVal s (k + 1) = restVal s k * 256 + s[k + 1].toNat := by
  have hl : k < (s.data.toList.drop 1).length := by rw [List.length_drop, size_list]; omega
  unfold restVal
  rw [List.take_succ_eq_append_getElem hl, val_snoc]
  have : (s.data.toList.drop 1)[k] = s[k + 1] := by
    rw [List.getElem_drop]
    simp only [Nat.add_comm 1 k]
    rfl
  rw [this]

theorem restVal_lt (s : ByteArray) (k : Nat) : restVal s k < 256 ^ k :=
  Nat.lt_of_lt_of_le (val_lt _) (Nat.pow_le_pow_right (by omega) (by rw [List.length_take]; omega))

set_option maxHeartbeats 400000 in
theorem read_small (s : ByteArray) (w : World) (hs : s.size ≤ maxLen) (h0 : 0 < s.size) (m low : Nat) (hc : Cut s h0 m low) (hlow : low < 24) :
    Calls Try.prog 33 #[.string s] w fun e w' => e = .returned (gotV (headL s.data.toList)) ∧ Below w.heap.size w w' := by
  have he : s.toList.isEmpty = false := by rw [Lib.toList_data, hc.list]; rfl
  have hd := hc.div
  have hm := hc.mod
  have h7 := hc.m7
  have hv : gotV (headL s.data.toList) = .agg #[.int .i64 1, .int .i64 m, .int .u64 low, .bool false] := by
    rw [hc.head, if_neg (by omega)]
    unfold argOf
    rw [if_pos hlow]
    rfl
  have HV := Lib.hid hv; clear hv hc
  unfold maxLen at hs
  have g : decide ((low : Int) < 24) = true := by simp; omega
  go_enter Try.func33, Try.ntmps33
  go_wp2
  go_region
  go_wp2
  rw [HV.out]
  refine bodyPost_ret (v := .agg #[.int .i64 1, .int .i64 m, .int .u64 low, .bool false]) (by simp [results, Try.results33, go_sem]) rfl ⟨rfl, ((Below.refl _ _).alloc (Nat.le_refl _) _).drew⟩

set_option maxHeartbeats 400000 in
theorem read_open (s : ByteArray) (w : World) (hs : s.size ≤ maxLen) (h0 : 0 < s.size) (m : Nat) (hc : Cut s h0 m 31) (ho : opens (m : Int) = true) :
    Calls Try.prog 33 #[.string s] w fun e w' => e = .returned (gotV (headL s.data.toList)) ∧ Below w.heap.size w w' := by
  have he : s.toList.isEmpty = false := by rw [Lib.toList_data, hc.list]; rfl
  have hd := hc.div
  have hm := hc.mod
  have h7 := hc.m7
  have hv : gotV (headL s.data.toList) = .agg #[.int .i64 1, .int .i64 m, .int .u64 0, .bool true] := by
    rw [hc.head, if_pos rfl, if_pos ho]
    rfl
  have HV := Lib.hid hv; clear hv hc
  have hmm : (2 ≤ (m : Int) ∧ (m : Int) ≤ 5) ∨ (m : Int) = 7 := by simpa [opens] using ho
  have HO := Lib.hid ho; clear ho
  unfold maxLen at hs
  have g1 : ((m : Int) != 0) = true := by simp; omega
  have g2 : ((m : Int) != 1) = true := by simp; omega
  have g3 : ((m : Int) != 6) = true := by simp; omega
  have HMM := Lib.hid hmm; clear hmm
  go_enter Try.func33, Try.ntmps33
  go_wp2
  go_region
  go_wp2
  rw [HV.out]
  refine bodyPost_ret (v := .agg #[.int .i64 1, .int .i64 m, .int .u64 0, .bool true]) (by simp [results, Try.results33, go_sem]) rfl ⟨rfl, ((Below.refl _ _).alloc (Nat.le_refl _) _).drew⟩

set_option maxHeartbeats 400000 in
theorem read_closed (s : ByteArray) (w : World) (hs : s.size ≤ maxLen) (h0 : 0 < s.size) (m : Nat) (hc : Cut s h0 m 31) (ho : opens (m : Int) = false) :
    Calls Try.prog 33 #[.string s] w fun e w' => e = .returned (gotV (headL s.data.toList)) ∧ Below w.heap.size w w' := by
  have he : s.toList.isEmpty = false := by rw [Lib.toList_data, hc.list]; rfl
  have hd := hc.div
  have hm := hc.mod
  have h7 := hc.m7
  have hv : gotV (headL s.data.toList) = .agg #[.int .i64 0, .int .i64 0, .int .u64 0, .bool false] := by
    rw [hc.head, if_pos rfl, if_neg (by rw [ho]; simp)]
    rfl
  have HV := Lib.hid hv; clear hv hc
  have hmm : ¬ ((2 ≤ (m : Int) ∧ (m : Int) ≤ 5) ∨ (m : Int) = 7) := by simpa only [opens, decide_eq_false_iff_not] using ho
  have HO := Lib.hid ho; clear ho
  unfold maxLen at hs
  rcases (show m = 0 ∨ m = 1 ∨ m = 6 from by omega) with rfl | rfl | rfl
  all_goals
    clear hmm
    go_enter Try.func33, Try.ntmps33
    go_wp2
    go_region
    go_wp2
    rw [HV.out]
    refine bodyPost_ret (v := .agg #[.int .i64 0, .int .i64 0, .int .u64 0, .bool false]) (by simp [results, Try.results33, go_sem]) rfl ⟨rfl, ((Below.refl _ _).alloc (Nat.le_refl _) _).drew⟩

set_option maxHeartbeats 400000 in
theorem refRead_bad (s : ByteArray) (w : World) (hs : s.size ≤ maxLen) (h0 : 0 < s.size) (m low : Nat) (hc : Cut s h0 m low) (hlow : 28 ≤ low) (hlow' : low < 31) :
    Calls Try.prog 33 #[.string s] w fun e w' => e = .returned (gotV (headL s.data.toList)) ∧ Below w.heap.size w w' := by
  have he : s.toList.isEmpty = false := by rw [Lib.toList_data, hc.list]; rfl
  have hd := hc.div
  have hm := hc.mod
  have h7 := hc.m7
  have hv : gotV (headL s.data.toList) = .agg #[.int .i64 0, .int .i64 0, .int .u64 0, .bool false] := by
    rw [hc.head, if_neg (by omega)]
    unfold argOf
    rw [if_neg (by omega), if_neg (by omega), if_neg (by omega), if_neg (by omega), if_neg (by omega)]
    rfl
  have HV := Lib.hid hv; clear hv hc
  unfold maxLen at hs
  rcases (show low = 28 ∨ low = 29 ∨ low = 30 from by omega) with rfl | rfl | rfl
  all_goals
    go_enter Try.func33, Try.ntmps33
    go_wp2
    go_region
    go_wp2
    rw [HV.out]
    refine bodyPost_ret (v := .agg #[.int .i64 0, .int .i64 0, .int .u64 0, .bool false]) (by simp [results, Try.results33, go_sem]) rfl ⟨rfl, ((Below.refl _ _).alloc (Nat.le_refl _) _).drew⟩

theorem rest_step (s : ByteArray) (k : Nat) (hk : k < 8) (h : k + 1 < s.size) :
    Value.int .u64 (IntKind.u64.wrap ((restVal s k : Int) * 256 + IntKind.u64.wrap (s[k + 1].toNat : Int))) = .int .u64 (restVal s (k + 1) : Int) := by
  have hb := s[k + 1].toNat_lt
  have hv : restVal s k < 256 ^ 7 := Nat.lt_of_lt_of_le (restVal_lt s k) (Nat.pow_le_pow_right (by omega) (by omega))
  rw [restVal_succ s k h]
  generalize restVal s k = v at *
  generalize s[k + 1].toNat = b at *
  rw [show IntKind.u64.wrap (b : Int) = (b : Int) from by simp only [IntKind.wrap, IntKind.signed, IntKind.bits]; simp; omega]
  rw [show IntKind.u64.wrap ((v : Int) * 256 + (b : Int)) = ((v * 256 + b : Nat) : Int) from by simp only [IntKind.wrap, IntKind.signed, IntKind.bits]; simp; omega]

/-- The cells of what Read answers. -/
def gotC (z m n : Int) (o : Bool) : Array Value := #[.int .i64 z, .int .i64 m, .int .u64 n, .bool o]

theorem got4 {w : World} {g : Nat} {a b c : Int} {d : Bool} (h : w.heap[g]? = some (.cells (gotC a b c d) 61 (0, 0))) :
    w.cell? ⟨g, 0, none⟩ = some (.int .i64 a) ∧ w.cell? ⟨g, 1, none⟩ = some (.int .i64 b) ∧ w.cell? ⟨g, 2, none⟩ = some (.int .u64 c) ∧ w.cell? ⟨g, 3, none⟩ = some (.bool d) :=
  ⟨cell_of_row w g 0 _ 61 (0, 0) h, cell_of_row w g 1 _ 61 (0, 0) h, cell_of_row w g 2 _ 61 (0, 0) h, cell_of_row w g 3 _ 61 (0, 0) h⟩

/-- The result's block behind the call of the reference's Head. -/
theorem got_kept {w w' : World} (hb : Below (w.alloc (.cells (gotC 0 0 0 false) 61)).drew.drew.heap.size (w.alloc (.cells (gotC 0 0 0 false) 61)).drew.drew w') :
    w'.heap[w.heap.size]? = some (.cells (gotC 0 0 0 false) 61 (0, 0)) ∧ Below w.heap.size w w' := by
  refine ⟨?_, ?_⟩
  · rw [hb.block _ (by simp)]
    exact heap_alloc_new w _
  · exact ((((Below.refl w.heap.size w).alloc (Nat.le_refl _) _).drew).drew).trans (hb.mono (by simp))

theorem head_short {m n k : Nat} (h : n < 256 ^ k) (hk : k = 1 ∧ n < 24 ∨ k = 2 ∧ n < 256 ∨ k = 4 ∧ n < 65536 ∨ k = 8 ∧ n < 4294967296) : (headOf m n).length ≤ k := by
  unfold headOf
  repeat' split
  all_goals simp [be_length]
  all_goals omega

theorem extract_front (s : ByteArray) (k : Nat) : (s.extract 0 k).data.toList = s.data.toList.take k := by
  rw [Lib.extract_data, List.drop_zero, Nat.sub_zero]

set_option maxHeartbeats 400000 in
theorem read_short_1 (s : ByteArray) (w : World) (h0 : 0 < s.size) (m : Nat) (hc : Cut s h0 m 24) (hlen : s.size < 2) :
    Calls Try.prog 33 #[.string s] w fun e w' => e = .returned (gotV (headL s.data.toList)) ∧ Below w.heap.size w w' := by
  have he : s.toList.isEmpty = false := by rw [Lib.toList_data, hc.list]; rfl
  have hd := hc.div
  have hm := hc.mod
  have h7 := hc.m7
  have hv : gotV (headL s.data.toList) = .agg #[.int .i64 0, .int .i64 0, .int .u64 0, .bool false] := by
    rw [hc.head, if_neg (by omega), show argOf 24 (s.data.toList.drop 1) = numOf 1 24 (s.data.toList.drop 1) from rfl]
    unfold numOf
    rw [if_pos (by rw [List.length_drop, size_list]; omega)]
    rfl
  have HV := Lib.hid hv; clear hv hc
  have g : decide ((s.size : Int) < 2) = true := by simp; omega
  go_enter Try.func33, Try.ntmps33
  go_wp2
  go_region
  go_wp2
  rw [HV.out]
  refine bodyPost_ret (v := .agg #[.int .i64 0, .int .i64 0, .int .u64 0, .bool false]) (by simp [results, Try.results33, go_sem]) rfl ⟨rfl, ((Below.refl _ _).alloc (Nat.le_refl _) _).drew⟩

/-- What the two sides of the comparison come to. -/
theorem read_facts_1 (s : ByteArray) (h0 : 0 < s.size) (m : Nat) (hc : Cut s h0 m 24) (hlen : 2 ≤ s.size) (hq : 24 ≤ restVal s 1) :
    (⟨(headOf m (restVal s 1)).toArray⟩ : ByteArray) = s.extract 0 2 ∧ gotV (headL s.data.toList) = .agg #[.int .i64 2, .int .i64 m, .int .u64 (restVal s 1), .bool false] := by
  have hlt := restVal_lt s 1
  have hle : 1 ≤ (s.data.toList.drop 1).length := by rw [List.length_drop, size_list]; omega
  refine ⟨?_, ?_⟩
  · have e : headOf m (restVal s 1) = s.data.toList.take 2 := by
      unfold headOf
      rw [if_neg (by omega), if_pos (by omega)]
      have hf := first_of s[0]
      rw [hc.major, hc.lower] at hf
      rw [hf, hc.list, List.take_succ_cons]
      congr 1
      unfold restVal
      exact be_val 1 _ (by rw [List.length_take]; omega)
    rw [e, ← extract_front]
  · rw [hc.head, if_neg (by omega), show argOf 24 (s.data.toList.drop 1) = numOf 1 24 (s.data.toList.drop 1) from rfl]
    unfold numOf
    rw [if_neg (by omega), if_pos (show _ ≤ val _ from hq)]
    rfl

theorem read_misses_1 (s : ByteArray) (h0 : 0 < s.size) (m : Nat) (hc : Cut s h0 m 24) (hlen : 2 ≤ s.size) (hq : restVal s 1 < 24) :
    ((⟨(headOf m (restVal s 1)).toArray⟩ : ByteArray).toList == (s.extract 0 2).toList) = false ∧ gotV (headL s.data.toList) = .agg #[.int .i64 0, .int .i64 0, .int .u64 0, .bool false] := by
  have hlt := restVal_lt s 1
  have hle : 1 ≤ (s.data.toList.drop 1).length := by rw [List.length_drop, size_list]; omega
  refine ⟨?_, ?_⟩
  · rw [beq_eq_false_iff_ne]
    intro h
    have hl := congrArg List.length h
    rw [Lib.toList_data, Lib.toList_data, extract_front] at hl
    have h1 := head_short (m := m) hlt (Or.inl ⟨rfl, hq⟩)
    simp only [List.length_take] at hl
    have h2 := size_list s
    rw [h2] at hl
    have h3 : (headOf m (restVal s 1)).toArray.toList.length ≤ 1 := h1
    omega
  · rw [hc.head, if_neg (by omega), show argOf 24 (s.data.toList.drop 1) = numOf 1 24 (s.data.toList.drop 1) from rfl]
    unfold numOf
    rw [if_neg (by omega), if_neg (by unfold restVal at hq; omega)]
    rfl

set_option maxHeartbeats 400000 in
theorem read_short_2 (s : ByteArray) (w : World) (h0 : 0 < s.size) (m : Nat) (hc : Cut s h0 m 25) (hlen : s.size < 3) :
    Calls Try.prog 33 #[.string s] w fun e w' => e = .returned (gotV (headL s.data.toList)) ∧ Below w.heap.size w w' := by
  have he : s.toList.isEmpty = false := by rw [Lib.toList_data, hc.list]; rfl
  have hd := hc.div
  have hm := hc.mod
  have h7 := hc.m7
  have hv : gotV (headL s.data.toList) = .agg #[.int .i64 0, .int .i64 0, .int .u64 0, .bool false] := by
    rw [hc.head, if_neg (by omega), show argOf 25 (s.data.toList.drop 1) = numOf 2 256 (s.data.toList.drop 1) from rfl]
    unfold numOf
    rw [if_pos (by rw [List.length_drop, size_list]; omega)]
    rfl
  have HV := Lib.hid hv; clear hv hc
  have g : decide ((s.size : Int) < 3) = true := by simp; omega
  go_enter Try.func33, Try.ntmps33
  go_wp2
  go_region
  go_wp2
  rw [HV.out]
  refine bodyPost_ret (v := .agg #[.int .i64 0, .int .i64 0, .int .u64 0, .bool false]) (by simp [results, Try.results33, go_sem]) rfl ⟨rfl, ((Below.refl _ _).alloc (Nat.le_refl _) _).drew⟩

/-- What the two sides of the comparison come to. -/
theorem read_facts_2 (s : ByteArray) (h0 : 0 < s.size) (m : Nat) (hc : Cut s h0 m 25) (hlen : 3 ≤ s.size) (hq : 256 ≤ restVal s 2) :
    (⟨(headOf m (restVal s 2)).toArray⟩ : ByteArray) = s.extract 0 3 ∧ gotV (headL s.data.toList) = .agg #[.int .i64 3, .int .i64 m, .int .u64 (restVal s 2), .bool false] := by
  have hlt := restVal_lt s 2
  have hle : 2 ≤ (s.data.toList.drop 1).length := by rw [List.length_drop, size_list]; omega
  refine ⟨?_, ?_⟩
  · have e : headOf m (restVal s 2) = s.data.toList.take 3 := by
      unfold headOf
      rw [if_neg (by omega), if_neg (by omega), if_pos (by omega)]
      have hf := first_of s[0]
      rw [hc.major, hc.lower] at hf
      rw [hf, hc.list, List.take_succ_cons]
      congr 1
      unfold restVal
      exact be_val 2 _ (by rw [List.length_take]; omega)
    rw [e, ← extract_front]
  · rw [hc.head, if_neg (by omega), show argOf 25 (s.data.toList.drop 1) = numOf 2 256 (s.data.toList.drop 1) from rfl]
    unfold numOf
    rw [if_neg (by omega), if_pos (show _ ≤ val _ from hq)]
    rfl

theorem read_misses_2 (s : ByteArray) (h0 : 0 < s.size) (m : Nat) (hc : Cut s h0 m 25) (hlen : 3 ≤ s.size) (hq : restVal s 2 < 256) :
    ((⟨(headOf m (restVal s 2)).toArray⟩ : ByteArray).toList == (s.extract 0 3).toList) = false ∧ gotV (headL s.data.toList) = .agg #[.int .i64 0, .int .i64 0, .int .u64 0, .bool false] := by
  have hlt := restVal_lt s 2
  have hle : 2 ≤ (s.data.toList.drop 1).length := by rw [List.length_drop, size_list]; omega
  refine ⟨?_, ?_⟩
  · rw [beq_eq_false_iff_ne]
    intro h
    have hl := congrArg List.length h
    rw [Lib.toList_data, Lib.toList_data, extract_front] at hl
    have h1 := head_short (m := m) hlt (Or.inr (Or.inl ⟨rfl, hq⟩))
    simp only [List.length_take] at hl
    have h2 := size_list s
    rw [h2] at hl
    have h3 : (headOf m (restVal s 2)).toArray.toList.length ≤ 2 := h1
    omega
  · rw [hc.head, if_neg (by omega), show argOf 25 (s.data.toList.drop 1) = numOf 2 256 (s.data.toList.drop 1) from rfl]
    unfold numOf
    rw [if_neg (by omega), if_neg (by unfold restVal at hq; omega)]
    rfl

set_option maxHeartbeats 400000 in
theorem read_short_4 (s : ByteArray) (w : World) (h0 : 0 < s.size) (m : Nat) (hc : Cut s h0 m 26) (hlen : s.size < 5) :
    Calls Try.prog 33 #[.string s] w fun e w' => e = .returned (gotV (headL s.data.toList)) ∧ Below w.heap.size w w' := by
  have he : s.toList.isEmpty = false := by rw [Lib.toList_data, hc.list]; rfl
  have hd := hc.div
  have hm := hc.mod
  have h7 := hc.m7
  have hv : gotV (headL s.data.toList) = .agg #[.int .i64 0, .int .i64 0, .int .u64 0, .bool false] := by
    rw [hc.head, if_neg (by omega), show argOf 26 (s.data.toList.drop 1) = numOf 4 65536 (s.data.toList.drop 1) from rfl]
    unfold numOf
    rw [if_pos (by rw [List.length_drop, size_list]; omega)]
    rfl
  have HV := Lib.hid hv; clear hv hc
  have g : decide ((s.size : Int) < 5) = true := by simp; omega
  go_enter Try.func33, Try.ntmps33
  go_wp2
  go_region
  go_wp2
  rw [HV.out]
  refine bodyPost_ret (v := .agg #[.int .i64 0, .int .i64 0, .int .u64 0, .bool false]) (by simp [results, Try.results33, go_sem]) rfl ⟨rfl, ((Below.refl _ _).alloc (Nat.le_refl _) _).drew⟩

/-- What the two sides of the comparison come to. -/
theorem read_facts_4 (s : ByteArray) (h0 : 0 < s.size) (m : Nat) (hc : Cut s h0 m 26) (hlen : 5 ≤ s.size) (hq : 65536 ≤ restVal s 4) :
    (⟨(headOf m (restVal s 4)).toArray⟩ : ByteArray) = s.extract 0 5 ∧ gotV (headL s.data.toList) = .agg #[.int .i64 5, .int .i64 m, .int .u64 (restVal s 4), .bool false] := by
  have hlt := restVal_lt s 4
  have hle : 4 ≤ (s.data.toList.drop 1).length := by rw [List.length_drop, size_list]; omega
  refine ⟨?_, ?_⟩
  · have e : headOf m (restVal s 4) = s.data.toList.take 5 := by
      unfold headOf
      rw [if_neg (by omega), if_neg (by omega), if_neg (by omega), if_pos (by omega)]
      have hf := first_of s[0]
      rw [hc.major, hc.lower] at hf
      rw [hf, hc.list, List.take_succ_cons]
      congr 1
      unfold restVal
      exact be_val 4 _ (by rw [List.length_take]; omega)
    rw [e, ← extract_front]
  · rw [hc.head, if_neg (by omega), show argOf 26 (s.data.toList.drop 1) = numOf 4 65536 (s.data.toList.drop 1) from rfl]
    unfold numOf
    rw [if_neg (by omega), if_pos (show _ ≤ val _ from hq)]
    rfl

theorem read_misses_4 (s : ByteArray) (h0 : 0 < s.size) (m : Nat) (hc : Cut s h0 m 26) (hlen : 5 ≤ s.size) (hq : restVal s 4 < 65536) :
    ((⟨(headOf m (restVal s 4)).toArray⟩ : ByteArray).toList == (s.extract 0 5).toList) = false ∧ gotV (headL s.data.toList) = .agg #[.int .i64 0, .int .i64 0, .int .u64 0, .bool false] := by
  have hlt := restVal_lt s 4
  have hle : 4 ≤ (s.data.toList.drop 1).length := by rw [List.length_drop, size_list]; omega
  refine ⟨?_, ?_⟩
  · rw [beq_eq_false_iff_ne]
    intro h
    have hl := congrArg List.length h
    rw [Lib.toList_data, Lib.toList_data, extract_front] at hl
    have h1 := head_short (m := m) hlt (Or.inr (Or.inr (Or.inl ⟨rfl, hq⟩)))
    simp only [List.length_take] at hl
    have h2 := size_list s
    rw [h2] at hl
    have h3 : (headOf m (restVal s 4)).toArray.toList.length ≤ 4 := h1
    omega
  · rw [hc.head, if_neg (by omega), show argOf 26 (s.data.toList.drop 1) = numOf 4 65536 (s.data.toList.drop 1) from rfl]
    unfold numOf
    rw [if_neg (by omega), if_neg (by unfold restVal at hq; omega)]
    rfl

set_option maxHeartbeats 400000 in
theorem read_short_8 (s : ByteArray) (w : World) (h0 : 0 < s.size) (m : Nat) (hc : Cut s h0 m 27) (hlen : s.size < 9) :
    Calls Try.prog 33 #[.string s] w fun e w' => e = .returned (gotV (headL s.data.toList)) ∧ Below w.heap.size w w' := by
  have he : s.toList.isEmpty = false := by rw [Lib.toList_data, hc.list]; rfl
  have hd := hc.div
  have hm := hc.mod
  have h7 := hc.m7
  have hv : gotV (headL s.data.toList) = .agg #[.int .i64 0, .int .i64 0, .int .u64 0, .bool false] := by
    rw [hc.head, if_neg (by omega), show argOf 27 (s.data.toList.drop 1) = numOf 8 4294967296 (s.data.toList.drop 1) from rfl]
    unfold numOf
    rw [if_pos (by rw [List.length_drop, size_list]; omega)]
    rfl
  have HV := Lib.hid hv; clear hv hc
  have g : decide ((s.size : Int) < 9) = true := by simp; omega
  go_enter Try.func33, Try.ntmps33
  go_wp2
  go_region
  go_wp2
  rw [HV.out]
  refine bodyPost_ret (v := .agg #[.int .i64 0, .int .i64 0, .int .u64 0, .bool false]) (by simp [results, Try.results33, go_sem]) rfl ⟨rfl, ((Below.refl _ _).alloc (Nat.le_refl _) _).drew⟩

/-- What the two sides of the comparison come to. -/
theorem read_facts_8 (s : ByteArray) (h0 : 0 < s.size) (m : Nat) (hc : Cut s h0 m 27) (hlen : 9 ≤ s.size) (hq : 4294967296 ≤ restVal s 8) :
    (⟨(headOf m (restVal s 8)).toArray⟩ : ByteArray) = s.extract 0 9 ∧ gotV (headL s.data.toList) = .agg #[.int .i64 9, .int .i64 m, .int .u64 (restVal s 8), .bool false] := by
  have hlt := restVal_lt s 8
  have hle : 8 ≤ (s.data.toList.drop 1).length := by rw [List.length_drop, size_list]; omega
  refine ⟨?_, ?_⟩
  · have e : headOf m (restVal s 8) = s.data.toList.take 9 := by
      unfold headOf
      rw [if_neg (by omega), if_neg (by omega), if_neg (by omega), if_neg (by omega)]
      have hf := first_of s[0]
      rw [hc.major, hc.lower] at hf
      rw [hf, hc.list, List.take_succ_cons]
      congr 1
      unfold restVal
      exact be_val 8 _ (by rw [List.length_take]; omega)
    rw [e, ← extract_front]
  · rw [hc.head, if_neg (by omega), show argOf 27 (s.data.toList.drop 1) = numOf 8 4294967296 (s.data.toList.drop 1) from rfl]
    unfold numOf
    rw [if_neg (by omega), if_pos (show _ ≤ val _ from hq)]
    rfl

theorem read_misses_8 (s : ByteArray) (h0 : 0 < s.size) (m : Nat) (hc : Cut s h0 m 27) (hlen : 9 ≤ s.size) (hq : restVal s 8 < 4294967296) :
    ((⟨(headOf m (restVal s 8)).toArray⟩ : ByteArray).toList == (s.extract 0 9).toList) = false ∧ gotV (headL s.data.toList) = .agg #[.int .i64 0, .int .i64 0, .int .u64 0, .bool false] := by
  have hlt := restVal_lt s 8
  have hle : 8 ≤ (s.data.toList.drop 1).length := by rw [List.length_drop, size_list]; omega
  refine ⟨?_, ?_⟩
  · rw [beq_eq_false_iff_ne]
    intro h
    have hl := congrArg List.length h
    rw [Lib.toList_data, Lib.toList_data, extract_front] at hl
    have h1 := head_short (m := m) hlt (Or.inr (Or.inr (Or.inr ⟨rfl, hq⟩)))
    simp only [List.length_take] at hl
    have h2 := size_list s
    rw [h2] at hl
    have h3 : (headOf m (restVal s 8)).toArray.toList.length ≤ 8 := h1
    omega
  · rw [hc.head, if_neg (by omega), show argOf 27 (s.data.toList.drop 1) = numOf 8 4294967296 (s.data.toList.drop 1) from rfl]
    unfold numOf
    rw [if_neg (by omega), if_neg (by unfold restVal at hq; omega)]
    rfl

end Go.Proofs.Ytpmepnejjjlodaa
