/-
  The walk of AesUndoes. Conditions: the key's and the block's numbers are bytes.
-/
import Derived.Test.YtbocfmedkkgheaaDa
namespace Go.Proofs.Ytbocfmedkkgheaa
namespace Aes
open Go.ChangeShapes Go.WideShapes Go.ChangeAt Go.RowKit Go.Great Go.ChangeMaps
open Gf
set_option linter.unusedVariables false

theorem doneTo_same {w s t : Nat → Nat} {n : Nat} (h : Same s t) (r : Nat) : Same (doneTo w n s r) (doneTo w n t r) := by
  induction r with
  | zero => exact added_same h
  | succ r ih => exact roundOf_same ih
theorem undoneTo_same {w s t : Nat → Nat} {n : Nat} (h : Same s t) (k : Nat) : Same (undoneTo w n s k) (undoneTo w n t k) := by
  induction k with
  | zero => exact h
  | succ k ih => exact unroundOf_same ih
theorem done_same {w s t : Nat → Nat} {n : Nat} (h : Same s t) : Same (done w n s) (done w n t) := doneTo_same h n
theorem undone_same {w s t : Nat → Nat} {n : Nat} (h : Same s t) : Same (undone w n s) (undone w n t) := added_same (undoneTo_same h n)

theorem byteAt_toB {F : Nat → Nat} (hF : Bytes F) : Same (byteAt (toB (allF F 16))) F := fun i hi => by
  unfold byteAt
  rw [nums_toB _ (fun c hc => by
    obtain ⟨j, hj, rfl⟩ := List.mem_map.1 hc
    exact hF j (List.mem_range.1 hj)), List.getD_eq_getElem?_getD, allF_get F 16 i hi]
  rfl
theorem toB_byteAt (b : ByteArray) (hb : b.size = 16) : toB (allF (byteAt b) 16) = b := by
  have e : allF (byteAt b) 16 = nums b := by
    apply List.ext_getElem?
    intro i
    by_cases hi : i < 16
    · rw [allF_get _ _ _ hi, nums_get b i (by omega), byteAt_get b i (by omega)]
    · rw [List.getElem?_eq_none (by rw [allF_length]; omega), List.getElem?_eq_none (by rw [nums_length]; omega)]
  rw [e, toB_nums]

theorem undone_done_B (n : Nat) (key b : ByteArray) (hb : b.size = 16) : undoneB n key (doneB n key b) = b := by
  have hk := wordAt_keys (n := n) (nums_lt key)
  have hbb : Bytes (byteAt b) := fun i _ => byteAt_lt b i
  have hd : Bytes (done (wordAt n (nums key)) (n + 6) (byteAt b)) := doneTo_bytes hk hbb (n + 6) (Nat.le_refl _)
  unfold undoneB doneB
  rw [allF_congr ((undone_same (byteAt_toB hd)).trans (undone_done hk hbb)), toB_byteAt b hb]
theorem done_undone_B (n : Nat) (key b : ByteArray) (hb : b.size = 16) : doneB n key (undoneB n key b) = b := by
  have hk := wordAt_keys (n := n) (nums_lt key)
  have hbb : Bytes (byteAt b) := fun i _ => byteAt_lt b i
  have hu : Bytes (undone (wordAt n (nums key)) (n + 6) (byteAt b)) := added_bytes hk (Nat.zero_le _) (undoneTo_bytes hk hbb _)
  unfold undoneB doneB
  rw [allF_congr ((done_same (byteAt_toB hu)).trans (done_undone hk hbb)), toB_byteAt b hb]

/-- A row of bytes turned into a text. -/
theorem row_back {T : TypeId} {g : Nat} {l : List Nat} {X : World} (h : Wd .u8 T g l X) (hl : ∀ c ∈ l, c < 256) (n : Nat) (hn : n = l.length) :
    (convert 38 9 (.slice (some ⟨g, 0, none⟩) n n)).run Try.prog X = .ok (.string (toB l)) X := by
  have e : n = (l.map UInt8.ofNat).length := by rw [List.length_map]; exact hn
  conv => lhs; rw [show Value.slice (some ⟨g, 0, none⟩) n n = Value.slice (some ⟨g, 0, none⟩) (l.map UInt8.ofNat).length n by rw [← e]]
  refine run_convert_bytes_back X 38 9 5 _ n (l.map UInt8.ofNat) Try.underlying38 Try.underlying5 Try.underlying9 fun j hj => ?_
  have hj' : j < l.length := by rw [List.length_map] at hj; exact hj
  have ea : (⟨g, 0, none⟩ : Addr).add j = ⟨g, j, none⟩ := by unfold Addr.add; split <;> simp_all
  rw [ea, h.cell (List.getElem?_eq_getElem hj')]
  have hc := hl l[j] (List.getElem_mem hj')
  simp [Nat.mod_eq_of_lt hc]

set_option maxHeartbeats 4000000 in
theorem undoes_long (kl bl : List Nat) (w : World) (hk : kl.length = 32) (hkb : ∀ c ∈ kl, c < 256) (hb : bl.length = 16) (hbb : ∀ c ∈ bl, c < 256) :
    Calls Try.prog 8 #[.agg (valsK .u8 kl), .bool true, .agg (valsK .u8 bl)] w fun e w' => e = .returned (.bool true) ∧ Below w.heap.size w w' := by
  obtain ⟨w0, hw0⟩ : ∃ X, X = (w.alloc (.cells (valsK .u8 kl) 36)).alloc (.cells (valsK .u8 bl) 37) := ⟨_, rfl⟩
  have hkr : Wd .u8 36 w.heap.size kl w0 := by rw [hw0]; exact keepAlloc (heap_alloc_new w _) _
  have hbr : Wd .u8 37 (w.heap.size + 1) bl w0 := by
    have := heap_alloc_new (w.alloc (.cells (valsK .u8 kl) 36)) (.cells (valsK .u8 bl) 37)
    rw [alloc_size] at this
    rw [hw0]; exact this
  have hb0 : Below w.heap.size w w0 := by rw [hw0]; exact below_alloc ((Below.refl _ _).alloc (Nat.le_refl _) _) _
  have hsz : w0.heap.size = w.heap.size + 1 + 1 := by rw [hw0, alloc_size, alloc_size]
  obtain ⟨K0, hK0⟩ : ∃ K, K = toB kl := ⟨_, rfl⟩
  have hK0s : K0.size = 32 := by rw [hK0, toB_size, hk]
  obtain ⟨K, hK⟩ : ∃ K, K = K0 := ⟨_, rfl⟩
  obtain ⟨S, hS⟩ : ∃ S, S = toB bl := ⟨_, rfl⟩
  have hKs : K.size = 4 * 8 := by rw [hK, hK0s]
  have hSs : S.size = 16 := by rw [hS, toB_size, hb]
  have ck := row_back hkr hkb 32 hk.symm
  rw [← hK0, hw0] at ck
  have HB := Lib.hid hb0
  have HBR := Lib.hid (And.intro hbr hbb)
  have HBL := Lib.hid hb
  have HNW := Lib.hid (fun X => new_ok K 8 X (by decide) hKs)
  rw [hK] at HNW
  obtain ⟨D, hD⟩ : ∃ D, D = doneB 8 K S := ⟨_, rfl⟩
  obtain ⟨U, hU⟩ : ∃ U, U = undoneB 8 K S := ⟨_, rfl⟩
  have HD1 : Hid (∀ g X, Key g 8 K X → Calls Try.prog 16 #[.pointer (some ⟨g, 0, none⟩), .string S] X fun e w' => e = .returned (.string D) ∧ Below X.heap.size X w') := Lib.hid (fun g X h => by rw [hD]; exact do_key g 8 K S X (by decide) hSs h)
  have HU1 : Hid (∀ g X, Key g 8 K X → Calls Try.prog 17 #[.pointer (some ⟨g, 0, none⟩), .string D] X fun e w' => e = .returned (.string S) ∧ Below X.heap.size X w') := Lib.hid (fun g X h => by
    have := undo_key g 8 K D X (by decide) (by rw [hD, doneB_size]) h
    rw [hD, undone_done_B 8 K S hSs, ← hD] at this
    exact this)
  have HU2 : Hid (∀ g X, Key g 8 K X → Calls Try.prog 17 #[.pointer (some ⟨g, 0, none⟩), .string S] X fun e w' => e = .returned (.string U) ∧ Below X.heap.size X w') := Lib.hid (fun g X h => by rw [hU]; exact undo_key g 8 K S X (by decide) hSs h)
  have HD2 : Hid (∀ g X, Key g 8 K X → Calls Try.prog 16 #[.pointer (some ⟨g, 0, none⟩), .string U] X fun e w' => e = .returned (.string S) ∧ Below X.heap.size X w') := Lib.hid (fun g X h => by
    have := do_key g 8 K U X (by decide) (by rw [hU, undoneB_size]) h
    rw [hU, done_undone_B 8 K S hSs, ← hU] at this
    exact this)
  have HS := Lib.hid hS
  have HW0 := Lib.hid (And.intro hw0 hsz)
  have HKK := Lib.hid hK
  clear hkr hbr hb0 hK0 hK hS hKs hSs hk hkb hb hbb hD hU hw0 hsz hK0s
  go_enter Try.func8, Try.ntmps8
  go_wp2_with fail
  refine (HNW.out _).mono ?_
  rintro e w1 ⟨rfl, hc, hb1⟩
  rw [← HW0.out.1] at hb1 hc
  rw [← HKK.out, HW0.out.2] at hc
  have HB1 := Lib.hid (below_link HB.out hb1)
  have hbr1 := keepBlock HBR.out.1 hb1
  have HBR1 := Lib.hid hbr1
  have HC1 := Lib.hid (show Key (w.heap.size + 1 + 1) 8 K w1 from hc)
  clear hb1 hc hbr1 ck
  go_wp2_with fail
  refine (awake_any _).mono ?_
  rintro e w2 ⟨rfl, hb2⟩
  have HB2 := Lib.hid (below_link HB1.out hb2)
  have HC2 := Lib.hid (HC1.out.next hb2)
  have cb2 := row_back (keepBlock HBR1.out hb2) HBR.out.2 16 HBL.out.symm
  rw [← HS.out] at cb2
  clear hb2
  go_wp2_with fail
  refine (HD1.out _ _ HC2.out).mono ?_
  rintro e w3 ⟨rfl, hb3⟩
  have HB3 := Lib.hid (below_link HB2.out hb3)
  have HC3 := Lib.hid (HC2.out.next hb3)
  clear hb3
  go_wp2_with fail
  refine (HU1.out _ _ HC3.out).mono ?_
  rintro e w4 ⟨rfl, hb4⟩
  have HB4 := Lib.hid (below_link HB3.out hb4)
  have HC4 := Lib.hid (HC3.out.next hb4)
  clear hb4
  go_wp2_with fail
  refine (HU2.out _ _ HC4.out).mono ?_
  rintro e w5 ⟨rfl, hb5⟩
  have HB5 := Lib.hid (below_link HB4.out hb5)
  have HC5 := Lib.hid (HC4.out.next hb5)
  clear hb5
  go_wp2_with fail
  refine (HD2.out _ _ HC5.out).mono ?_
  rintro e w6 ⟨rfl, hb6⟩
  have HB6 := Lib.hid (below_link HB5.out hb6)
  clear hb6
  go_wp2
  go_ret
  exact ⟨rfl, HB6.out⟩

set_option maxHeartbeats 4000000 in
theorem undoes_short (kl bl : List Nat) (w : World) (hk : kl.length = 32) (hkb : ∀ c ∈ kl, c < 256) (hb : bl.length = 16) (hbb : ∀ c ∈ bl, c < 256) :
    Calls Try.prog 8 #[.agg (valsK .u8 kl), .bool false, .agg (valsK .u8 bl)] w fun e w' => e = .returned (.bool true) ∧ Below w.heap.size w w' := by
  obtain ⟨w0, hw0⟩ : ∃ X, X = (w.alloc (.cells (valsK .u8 kl) 36)).alloc (.cells (valsK .u8 bl) 37) := ⟨_, rfl⟩
  have hkr : Wd .u8 36 w.heap.size kl w0 := by rw [hw0]; exact keepAlloc (heap_alloc_new w _) _
  have hbr : Wd .u8 37 (w.heap.size + 1) bl w0 := by
    have := heap_alloc_new (w.alloc (.cells (valsK .u8 kl) 36)) (.cells (valsK .u8 bl) 37)
    rw [alloc_size] at this
    rw [hw0]; exact this
  have hb0 : Below w.heap.size w w0 := by rw [hw0]; exact below_alloc ((Below.refl _ _).alloc (Nat.le_refl _) _) _
  have hsz : w0.heap.size = w.heap.size + 1 + 1 := by rw [hw0, alloc_size, alloc_size]
  obtain ⟨K0, hK0⟩ : ∃ K, K = toB kl := ⟨_, rfl⟩
  have hK0s : K0.size = 32 := by rw [hK0, toB_size, hk]
  obtain ⟨K, hK⟩ : ∃ K, K = K0.extract 16 K0.size := ⟨_, rfl⟩
  obtain ⟨S, hS⟩ : ∃ S, S = toB bl := ⟨_, rfl⟩
  have hKs : K.size = 4 * 4 := by rw [hK]; simp; omega
  have hSs : S.size = 16 := by rw [hS, toB_size, hb]
  have ck := row_back hkr hkb 32 hk.symm
  rw [← hK0, hw0] at ck
  have HB := Lib.hid hb0
  have HBR := Lib.hid (And.intro hbr hbb)
  have HBL := Lib.hid hb
  have HNW := Lib.hid (fun X => new_ok K 4 X (by decide) hKs)
  rw [hK] at HNW
  obtain ⟨D, hD⟩ : ∃ D, D = doneB 4 K S := ⟨_, rfl⟩
  obtain ⟨U, hU⟩ : ∃ U, U = undoneB 4 K S := ⟨_, rfl⟩
  have HD1 : Hid (∀ g X, Key g 4 K X → Calls Try.prog 16 #[.pointer (some ⟨g, 0, none⟩), .string S] X fun e w' => e = .returned (.string D) ∧ Below X.heap.size X w') := Lib.hid (fun g X h => by rw [hD]; exact do_key g 4 K S X (by decide) hSs h)
  have HU1 : Hid (∀ g X, Key g 4 K X → Calls Try.prog 17 #[.pointer (some ⟨g, 0, none⟩), .string D] X fun e w' => e = .returned (.string S) ∧ Below X.heap.size X w') := Lib.hid (fun g X h => by
    have := undo_key g 4 K D X (by decide) (by rw [hD, doneB_size]) h
    rw [hD, undone_done_B 4 K S hSs, ← hD] at this
    exact this)
  have HU2 : Hid (∀ g X, Key g 4 K X → Calls Try.prog 17 #[.pointer (some ⟨g, 0, none⟩), .string S] X fun e w' => e = .returned (.string U) ∧ Below X.heap.size X w') := Lib.hid (fun g X h => by rw [hU]; exact undo_key g 4 K S X (by decide) hSs h)
  have HD2 : Hid (∀ g X, Key g 4 K X → Calls Try.prog 16 #[.pointer (some ⟨g, 0, none⟩), .string U] X fun e w' => e = .returned (.string S) ∧ Below X.heap.size X w') := Lib.hid (fun g X h => by
    have := do_key g 4 K U X (by decide) (by rw [hU, undoneB_size]) h
    rw [hU, done_undone_B 4 K S hSs, ← hU] at this
    exact this)
  have HS := Lib.hid hS
  have HW0 := Lib.hid (And.intro hw0 hsz)
  have HKK := Lib.hid hK
  have k32 : (K0.size : Int) = 32 := by omega
  clear hkr hbr hb0 hK0 hK hS hKs hSs hk hkb hb hbb hD hU hw0 hsz hK0s
  go_enter Try.func8, Try.ntmps8
  go_wp2_with fail
  refine (HNW.out _).mono ?_
  rintro e w1 ⟨rfl, hc, hb1⟩
  rw [← HW0.out.1] at hb1 hc
  rw [← HKK.out, HW0.out.2] at hc
  have HB1 := Lib.hid (below_link HB.out hb1)
  have hbr1 := keepBlock HBR.out.1 hb1
  have HBR1 := Lib.hid hbr1
  have HC1 := Lib.hid (show Key (w.heap.size + 1 + 1) 4 K w1 from hc)
  clear hb1 hc hbr1 ck
  go_wp2_with fail
  refine (awake_any _).mono ?_
  rintro e w2 ⟨rfl, hb2⟩
  have HB2 := Lib.hid (below_link HB1.out hb2)
  have HC2 := Lib.hid (HC1.out.next hb2)
  have cb2 := row_back (keepBlock HBR1.out hb2) HBR.out.2 16 HBL.out.symm
  rw [← HS.out] at cb2
  clear hb2
  go_wp2_with fail
  refine (HD1.out _ _ HC2.out).mono ?_
  rintro e w3 ⟨rfl, hb3⟩
  have HB3 := Lib.hid (below_link HB2.out hb3)
  have HC3 := Lib.hid (HC2.out.next hb3)
  clear hb3
  go_wp2_with fail
  refine (HU1.out _ _ HC3.out).mono ?_
  rintro e w4 ⟨rfl, hb4⟩
  have HB4 := Lib.hid (below_link HB3.out hb4)
  have HC4 := Lib.hid (HC3.out.next hb4)
  clear hb4
  go_wp2_with fail
  refine (HU2.out _ _ HC4.out).mono ?_
  rintro e w5 ⟨rfl, hb5⟩
  have HB5 := Lib.hid (below_link HB4.out hb5)
  have HC5 := Lib.hid (HC4.out.next hb5)
  clear hb5
  go_wp2_with fail
  refine (HD2.out _ _ HC5.out).mono ?_
  rintro e w6 ⟨rfl, hb6⟩
  have HB6 := Lib.hid (below_link HB5.out hb6)
  clear hb6
  go_wp2
  go_ret
  exact ⟨rfl, HB6.out⟩

theorem walk_undoes (kl : List Nat) (b : Bool) (bl : List Nat) (w : World) (hk : kl.length = 32) (hkb : ∀ c ∈ kl, c < 256) (hb : bl.length = 16) (hbb : ∀ c ∈ bl, c < 256) :
    Calls Try.prog 8 #[.agg (valsK .u8 kl), .bool b, .agg (valsK .u8 bl)] w fun e w' => e = .returned (.bool true) ∧ Below w.heap.size w w' := by
  cases b
  · exact undoes_short kl bl w hk hkb hb hbb
  · exact undoes_long kl bl w hk hkb hb hbb

end Aes
end Go.Proofs.Ytbocfmedkkgheaa
