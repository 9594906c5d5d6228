/-
  Joined: Sf. Conditions: as each part says.
-/
import Derived.Test.YtedoggejbhbebaaJ17
import Derived.ChangeMaps5

/-
  Rows of bytes in memory, and the contract of sha.padding. Conditions: the text is shorter than 2^40 bytes.
-/
namespace Go.Proofs.Ytedoggejbhbebaa
namespace Dg
open Go.ChangeShapes Go.WideShapes Go.ChangeAt Go.RowKit Go.Great Go.ChangeMaps
open Sha
set_option linter.unusedVariables false
set_option maxRecDepth 100000

theorem infoByte : (Try.prog.info? 5).map (fun i => (i.zero, i.size, i.bytes)) = some (some (.int .u8 0), 1, 1) := by kernel_rfl

/-- Bytes as a text. -/
def toB (l : List Nat) : ByteArray := ⟨(l.map UInt8.ofNat).toArray⟩
theorem toB_size (l : List Nat) : (toB l).size = l.length := by
  show (l.map UInt8.ofNat).toArray.size = _
  simp
theorem nums_toB (l : List Nat) (h : ∀ c ∈ l, c < 256) : nums (toB l) = l := by
  show ((l.map UInt8.ofNat).map UInt8.toNat) = l
  rw [List.map_map, List.map_congr_left (g := id), List.map_id]
  intro z hz
  simp [Nat.mod_eq_of_lt (h z hz)]

/-- A row of bytes. -/
abbrev By (g : Nat) (l : List Nat) (w : World) : Prop := Wd .u8 5 g l w

theorem By.back {g : Nat} {l : List Nat} {w : World} (h : By g l w) (n cap : Nat) (hn : n = l.length) (hl : ∀ c ∈ l, c < 256) :
    (convert 97 9 (.slice (some ⟨g, 0, none⟩) n cap)).run Try.prog w = .ok (.string (toB l)) w := by
  have e : n = (l.map UInt8.ofNat).length := by rw [List.length_map]; exact hn
  rw [e]
  refine run_convert_bytes_back w 97 9 5 _ cap (l.map UInt8.ofNat) Try.underlying97 Try.underlying5 Try.underlying9 fun j hj => ?_
  have ea : (⟨g, 0, none⟩ : Addr).add j = ⟨g, j, none⟩ := by unfold Addr.add; split <;> simp_all
  have hj' : j < l.length := by rw [List.length_map] at hj; exact hj
  rw [ea, h.cell (List.getElem?_eq_getElem hj')]
  have hc := hl l[j] (List.getElem_mem hj')
  simp [Nat.mod_eq_of_lt hc]

theorem By.made {w w' : World} {n : Nat} (hown : w'.ownsRow w.heap.size 5 1 (.slice (some ⟨w.heap.size, 0, none⟩) n n) n (madeCells (Value.int .u8 0).cells (n * 1)).toList) (hgrow : w.grownBy w' none) :
    By w.heap.size (List.replicate n 0) w' ∧ Below w.heap.size w w' := by
  refine ⟨?_, (Below.refl _ _).grown hgrow (Nat.le_refl _) (fun k hk => by cases hk)⟩
  obtain ⟨hl, h⟩ := hown
  have e : (Value.int .u8 0).cells = #[.int .u8 0] := rfl
  rw [e, toList_madeCells_one, Nat.mul_one] at h
  rcases h with ⟨h, -⟩ | ⟨g, cap, cur, h, -, hc, -, -, hs, ht⟩
  · cases h
  · cases h
    rw [Nat.mul_one] at hs
    rw [List.take_of_length_le (by simp [hs])] at ht
    show w'.heap[w.heap.size]? = _
    rw [hc]
    unfold valsK
    rw [List.map_replicate, List.map_replicate]
    show _ = some (Obj.cells (List.replicate n (Value.int .u8 0)).toArray _ _)
    rw [← ht]

/-! ### What follows a text -/

/-- What follows a text of n bytes. -/
def padL (w n : Nat) : List Nat := 128 :: (List.replicate (gap w n + (w / 4 - 8)) 0 ++ beBytes (8 * n) 8)

theorem padded_eq (w : Nat) (s : List Nat) : padded w s = s ++ padL w s.length := rfl
theorem padL_length (w n : Nat) (hw : w = 32 ∨ w = 64) : (padL w n).length = 1 + gap w n + w / 4 := by
  unfold padL
  rw [List.length_cons, List.length_append, List.length_replicate, beBytes_length]
  rcases hw with rfl | rfl <;> omega

theorem beBytes_get (n k t : Nat) (h : t < k) : (beBytes n k)[t]? = some (n / 256 ^ (k - 1 - t) % 256) := by
  induction k generalizing t with
  | zero => omega
  | succ k ih =>
    unfold beBytes
    cases t with
    | zero => simp
    | succ t =>
      rw [List.getElem?_cons_succ, ih t (by omega), show k + 1 - 1 - (t + 1) = k - 1 - t by omega]

theorem small_div (x k : Nat) (hx : x < 256 ^ 8) (hk : 8 ≤ k) : x / 256 ^ k = 0 :=
  Nat.div_eq_of_lt (Nat.lt_of_lt_of_le hx (Nat.pow_le_pow_right (by decide) hk))

/-- The byte at place j of so many. -/
theorem padL_get (w n T j : Nat) (hw : w = 32 ∨ w = 64) (hT : T = 1 + gap w n + w / 4) (hx : 8 * n < 256 ^ 8) (hj : j < T) :
    (padL w n)[j]? = some (if j = 0 then 128 else 8 * n / 256 ^ (T - 1 - j) % 256) := by
  unfold padL
  cases j with
  | zero => rfl
  | succ j =>
    rw [List.getElem?_cons_succ, if_neg (by omega)]
    by_cases h : j < gap w n + (w / 4 - 8)
    · rw [List.getElem?_append_left (by rw [List.length_replicate]; exact h), List.getElem?_replicate, if_pos h, small_div _ _ hx (by rcases hw with rfl | rfl <;> omega)]
    · rw [List.getElem?_append_right (by rw [List.length_replicate]; omega), List.length_replicate, beBytes_get _ _ _ (by rcases hw with rfl | rfl <;> omega)]
      congr 4
      rcases hw with rfl | rfl <;> omega

theorem padL_lt (w n : Nat) : ∀ c ∈ padL w n, c < 256 := by
  intro c hc
  unfold padL at hc
  rcases List.mem_cons.1 hc with rfl | hc
  · decide
  rcases List.mem_append.1 hc with hc | hc
  · rw [List.eq_of_mem_replicate hc]; decide
  · revert hc
    generalize 8 * n = m
    generalize 8 = k
    induction k with
    | zero => intro hc; simp [beBytes] at hc
    | succ k ih =>
      intro hc
      rcases List.mem_cons.1 hc with rfl | hc
      · exact Nat.mod_lt _ (by decide)
      · exact ih hc

/-- The row with k bytes of the number written from the end. -/
def padK (T n k : Nat) : List Nat := (List.range T).map fun j => if j = 0 then 128 else if T - 1 - j < k then 8 * n / 256 ^ (T - 1 - j) % 256 else 0
theorem padK_length (T n k : Nat) : (padK T n k).length = T := by simp [padK]
theorem padK_get (T n k j : Nat) (h : j < T) : (padK T n k)[j]? = some (if j = 0 then 128 else if T - 1 - j < k then 8 * n / 256 ^ (T - 1 - j) % 256 else 0) := by
  unfold padK
  rw [List.getElem?_map, List.getElem?_range h]
  rfl
theorem padK_start (T n : Nat) (hT : 0 < T) : (List.replicate T 0).set 0 128 = padK T n 0 := by
  apply List.ext_getElem?
  intro j
  rw [List.getElem?_set]
  by_cases h : j < T
  · rw [padK_get _ _ _ _ h]
    by_cases e : j = 0
    · subst e; simp [hT]
    · rw [if_neg (fun x => e x.symm), if_neg e, if_neg (by omega), List.getElem?_replicate, if_pos h]
  · rw [List.getElem?_eq_none (l := padK T n 0) (by rw [padK_length]; omega)]
    rw [if_neg (by omega), List.getElem?_replicate, if_neg h]
theorem padK_step (T n k i : Nat) (hi : i = T - 1 - k) (hk : k + 1 < T) : (padK T n k).set i (8 * n / 256 ^ k % 256) = padK T n (k + 1) := by
  apply List.ext_getElem?
  intro j
  rw [List.getElem?_set]
  by_cases h : j < T
  · rw [padK_get _ _ _ _ h, padK_get _ _ _ _ h, padK_length]
    by_cases e : i = j
    · rw [if_pos e, if_pos (by omega), if_neg (by omega), if_pos (by omega), show T - 1 - j = k by omega]
    · rw [if_neg e]
      by_cases e0 : j = 0
      · rw [if_pos e0, if_pos e0]
      · rw [if_neg e0, if_neg e0]
        have : (T - 1 - j < k + 1) = (T - 1 - j < k) := by apply propext; omega
        simp only [this]
  · rw [List.getElem?_eq_none (l := padK T n (k + 1)) (by rw [padK_length]; omega), if_neg (by omega), List.getElem?_eq_none (by rw [padK_length]; omega)]
theorem padK_all (w n T k : Nat) (hw : w = 32 ∨ w = 64) (hT : T = 1 + gap w n + w / 4) (hx : 8 * n < 256 ^ 8) (hk : 8 * n / 256 ^ k = 0) : padK T n k = padL w n := by
  apply List.ext_getElem?
  intro j
  by_cases h : j < T
  · rw [padK_get _ _ _ _ h, padL_get w n T j hw hT hx h]
    congr 1
    by_cases e0 : j = 0
    · rw [if_pos e0, if_pos e0]
    · rw [if_neg e0, if_neg e0]
      by_cases e : T - 1 - j < k
      · rw [if_pos e]
      · rw [if_neg e]
        have : 256 ^ k ≤ 256 ^ (T - 1 - j) := Nat.pow_le_pow_right (by decide) (by omega)
        have h2 : 8 * n < 256 ^ k := Nat.lt_of_not_le fun hle => by
          have := Nat.div_pos hle (Nat.pow_pos (by decide)); omega
        rw [Nat.div_eq_of_lt (Nat.lt_of_lt_of_le h2 this)]
  · rw [List.getElem?_eq_none (by rw [padK_length]; omega), List.getElem?_eq_none (by rw [padL_length w n hw]; omega)]

/-- The memory of padding. -/
structure Pad32 (w : World) (l : List Nat) (X : World) : Prop where
  row : By w.heap.size l X
  below : Below w.heap.size w X
theorem Pad32.step {w X : World} {l : List Nat} (h : Pad32 w l X) (j v : Nat) : Pad32 w (l.set j v) (X.setCell ⟨w.heap.size, j, none⟩ (.int .u8 (v : Nat))) where
  row := by unfold By Wd; rw [heap_setCell_same _ _ _ _ _ _ h.row, valsK_set]
  below := h.below.setCell (Nat.le_refl _) _
theorem Pad32.drewN {w X : World} {l : List Nat} (h : Pad32 w l X) (n : Nat) : Pad32 w l (X.drewN n) := ⟨h.row, below_link h.below (below_drewN X n)⟩

theorem pad_len_32 (n r z T : Nat) (hn : n < 1099511627776) (hr : r = (n + 4 * 2) % 64) (hz : 64 - 1 - r = z) (hT : T = 1 + z + 8) :
    wrap64 (wrap64 (1 + wrap64 (63 - (wrap64 ((n : Int) + 8)).tmod 64)) + 8) = (T : Int) := by
  have h1 : ((n : Int) + 8) % 64 = (r : Int) := by omega
  have h2 : (63 : Int) - (r : Int) = (z : Int) := by omega
  have h3 : r < 64 := by omega
  rw [IntWalk.wrap64_in ((n : Int) + 8) (by omega), Int.tmod_eq_emod_of_nonneg (by omega), h1, IntWalk.wrap64_in (63 - (r : Int)) (by omega), h2, IntWalk.wrap64_in (1 + (z : Int)) (by omega), IntWalk.wrap64_in (1 + (z : Int) + 8) (by omega)]
  omega

set_option maxHeartbeats 400000 in
theorem padding_32 (n : Nat) (w : World) (hn : n < 1099511627776) :
    Calls Try.prog 87 #[.int .i64 n, .int .i64 64] w fun e w' => e = .returned (.string (toB (padL 32 n))) ∧ Below w.heap.size w w' := by
  obtain ⟨i0, hi, hz0, hz1, hz2⟩ := info_parts infoByte
  obtain ⟨r, hr⟩ : ∃ r, r = (n + 4 * 2) % 64 := ⟨_, rfl⟩
  obtain ⟨z, hz⟩ : ∃ z, z = gap 32 n := ⟨_, rfl⟩
  obtain ⟨T, hT⟩ : ∃ T, T = 1 + gap 32 n + 32 / 4 := ⟨_, rfl⟩
  have hrz : 64 - 1 - r = z := by rw [hr, hz]; unfold gap; omega
  have hrl : r < 64 := by rw [hr]; exact Nat.mod_lt _ (by decide)
  have x1 : ((n : Int) + 8) % 64 = (r : Int) := by omega
  have x2 : (63 : Int) - (r : Int) = (z : Int) := by omega
  have HALL := Lib.hid (fun k h => padK_all 32 n T k (by decide) hT (by omega) h)
  have HG := Lib.hid hz.symm
  have HT := Lib.hid (show T = 1 + z + 8 by rw [hT, hz])
  have x3 : (1 : Int) + (z : Int) + 8 = (T : Int) := by have := HT.out; omega
  have hTl : T ≤ 200 := by have := HT.out; omega
  have hT9 : 9 ≤ T := by have := HT.out; omega
  have x4 : IntKind.u64.wrap (n : Int) = (n : Int) := by rw [IntKind.wrap_u64]; omega
  have x5 : IntKind.u64.wrap (8 * (n : Int)) = ((8 * n : Nat) : Int) := by rw [IntKind.wrap_u64]; omega
  have HN := Lib.hid (show 8 * n < 256 ^ 8 by omega)
  have xm := pad_len_32 n r z T hn hr (by omega) HT.out
  clear hT hr hz hrz hn hrl
  go_enter Try.func87, Try.ntmps87
  go_wp2_with (at_make; refine wpList_make_full _ rfl _ _ 97 rfl w.heap.size 5 i0 (.int .u8 0) 1 Try.underlying97 hi hz0 hz1 _ _ _ _ T rfl rfl xm xm (by rw [hz2]; omega) (by unfold maxLen; omega) (Nat.le_refl _) ?_; intro w2 hown hgrow; have hrow := By.made hown hgrow; have c0 := hrow.1.cell (j := 0) (x := 0) (by rw [List.getElem?_replicate, if_pos (by omega)]); have f0 := hrow.1.frozen 0; have HR := Lib.hid (show Pad32 w (padK T n 0) (w2.setCell ⟨w.heap.size, 0, none⟩ (.int .u8 (128 : Nat))) by rw [← padK_start T n (by omega)]; exact Pad32.step ⟨hrow.1, hrow.2⟩ 0 128); clear hrow hown hgrow)
  go_loopw [8, 9] (fun x y wr => ∃ k : Nat, k ≤ 8 ∧ x = .int .u64 (8 * n / 256 ^ k : Nat) ∧ y = .int .i64 (T - 1 - k : Nat) ∧ Pad32 w (padK T n k) wr) (fun x _ _ => (intOf x).toNat)
  case atStart => exact ⟨0, Nat.zero_le _, by simp, by go_num, HR.out⟩
  case round =>
    obtain ⟨k, hk, rfl, rfl, hP⟩ := hrel
    obtain ⟨q, hq⟩ : ∃ q, q = 8 * n / 256 ^ k := ⟨_, rfl⟩
    have hq2 : 8 * n / 256 ^ (k + 1) = q / 256 := by rw [hq, Nat.div_div_eq_div_mul, Nat.pow_succ]
    by_cases h0 : q = 0
    · have hall := HALL.out k (by rw [← hq]; exact h0)
      rw [← hq, h0]
      rw [hall] at hP
      have hb := hP.row.back T T (by rw [padL_length _ _ (by decide), HG.out]; exact HT.out) (padL_lt _ _)
      have HB := Lib.hid hP.below
      clear hP hall hq hq2
      go_wp2
      go_ret
      exact ⟨rfl, HB.out⟩
    · have hk8 : k < 8 := Nat.lt_of_not_le fun hle => h0 (by rw [hq]; exact small_div _ _ HN.out hle)
      obtain ⟨i, hi2⟩ : ∃ i, i = T - 1 - k := ⟨_, rfl⟩
      have hst := padK_step T n k i hi2 (by omega)
      rw [← hq] at hst ⊢
      rw [← hi2]
      obtain ⟨u, hu⟩ : ∃ u, u = q % 256 := ⟨_, rfl⟩
      rw [← hu] at hst
      have y1 : IntKind.u8.wrap (q : Int) = (u : Int) := by rw [IntKind.wrap_u8]; omega
      have y2 : (0 : Int) < (q : Int) := by omega
      have y3 : (i : Int) < (T : Int) := by omega
      have y4 : (i : Int) - 1 = ((T - 1 - (k + 1) : Nat) : Int) := by omega
      have c0 := hP.row.cell (j := i) (padK_get T n k i (by omega))
      have f0 := hP.row.frozen i
      have HP := Lib.hid (hP.step i u); clear hP
      have HST := Lib.hid hst; clear hst
      have HQ := Lib.hid hq2
      clear hq hq2 hu hi2
      generalize (if i = 0 then 128 else if T - 1 - i < k then 8 * n / 256 ^ (T - 1 - i) % 256 else 0) = old at c0
      go_wp2
      go_roundw
      case rel => exact ⟨k + 1, by omega, by rw [HQ.out]; rfl, by go_num, by rw [← HST.out]; exact HP.out⟩
      case measure => simp [intOf]; omega

/-- The memory of padding. -/
structure Pad64 (w : World) (l : List Nat) (X : World) : Prop where
  row : By w.heap.size l X
  below : Below w.heap.size w X
theorem Pad64.step {w X : World} {l : List Nat} (h : Pad64 w l X) (j v : Nat) : Pad64 w (l.set j v) (X.setCell ⟨w.heap.size, j, none⟩ (.int .u8 (v : Nat))) where
  row := by unfold By Wd; rw [heap_setCell_same _ _ _ _ _ _ h.row, valsK_set]
  below := h.below.setCell (Nat.le_refl _) _
theorem Pad64.drewN {w X : World} {l : List Nat} (h : Pad64 w l X) (n : Nat) : Pad64 w l (X.drewN n) := ⟨h.row, below_link h.below (below_drewN X n)⟩

theorem pad_len_64 (n r z T : Nat) (hn : n < 1099511627776) (hr : r = (n + 8 * 2) % 128) (hz : 128 - 1 - r = z) (hT : T = 1 + z + 16) :
    wrap64 (wrap64 (1 + wrap64 (127 - (wrap64 ((n : Int) + 16)).tmod 128)) + 16) = (T : Int) := by
  have h1 : ((n : Int) + 16) % 128 = (r : Int) := by omega
  have h2 : (127 : Int) - (r : Int) = (z : Int) := by omega
  have h3 : r < 128 := by omega
  rw [IntWalk.wrap64_in ((n : Int) + 16) (by omega), Int.tmod_eq_emod_of_nonneg (by omega), h1, IntWalk.wrap64_in (127 - (r : Int)) (by omega), h2, IntWalk.wrap64_in (1 + (z : Int)) (by omega), IntWalk.wrap64_in (1 + (z : Int) + 16) (by omega)]
  omega

set_option maxHeartbeats 400000 in
theorem padding_64 (n : Nat) (w : World) (hn : n < 1099511627776) :
    Calls Try.prog 87 #[.int .i64 n, .int .i64 128] w fun e w' => e = .returned (.string (toB (padL 64 n))) ∧ Below w.heap.size w w' := by
  obtain ⟨i0, hi, hz0, hz1, hz2⟩ := info_parts infoByte
  obtain ⟨r, hr⟩ : ∃ r, r = (n + 8 * 2) % 128 := ⟨_, rfl⟩
  obtain ⟨z, hz⟩ : ∃ z, z = gap 64 n := ⟨_, rfl⟩
  obtain ⟨T, hT⟩ : ∃ T, T = 1 + gap 64 n + 64 / 4 := ⟨_, rfl⟩
  have hrz : 128 - 1 - r = z := by rw [hr, hz]; unfold gap; omega
  have hrl : r < 128 := by rw [hr]; exact Nat.mod_lt _ (by decide)
  have x1 : ((n : Int) + 16) % 128 = (r : Int) := by omega
  have x2 : (127 : Int) - (r : Int) = (z : Int) := by omega
  have HALL := Lib.hid (fun k h => padK_all 64 n T k (by decide) hT (by omega) h)
  have HG := Lib.hid hz.symm
  have HT := Lib.hid (show T = 1 + z + 16 by rw [hT, hz])
  have x3 : (1 : Int) + (z : Int) + 16 = (T : Int) := by have := HT.out; omega
  have hTl : T ≤ 200 := by have := HT.out; omega
  have hT9 : 9 ≤ T := by have := HT.out; omega
  have x4 : IntKind.u64.wrap (n : Int) = (n : Int) := by rw [IntKind.wrap_u64]; omega
  have x5 : IntKind.u64.wrap (8 * (n : Int)) = ((8 * n : Nat) : Int) := by rw [IntKind.wrap_u64]; omega
  have HN := Lib.hid (show 8 * n < 256 ^ 8 by omega)
  have xm := pad_len_64 n r z T hn hr (by omega) HT.out
  clear hT hr hz hrz hn hrl
  go_enter Try.func87, Try.ntmps87
  go_wp2_with (at_make; refine wpList_make_full _ rfl _ _ 97 rfl w.heap.size 5 i0 (.int .u8 0) 1 Try.underlying97 hi hz0 hz1 _ _ _ _ T rfl rfl xm xm (by rw [hz2]; omega) (by unfold maxLen; omega) (Nat.le_refl _) ?_; intro w2 hown hgrow; have hrow := By.made hown hgrow; have c0 := hrow.1.cell (j := 0) (x := 0) (by rw [List.getElem?_replicate, if_pos (by omega)]); have f0 := hrow.1.frozen 0; have HR := Lib.hid (show Pad64 w (padK T n 0) (w2.setCell ⟨w.heap.size, 0, none⟩ (.int .u8 (128 : Nat))) by rw [← padK_start T n (by omega)]; exact Pad64.step ⟨hrow.1, hrow.2⟩ 0 128); clear hrow hown hgrow)
  go_loopw [8, 9] (fun x y wr => ∃ k : Nat, k ≤ 8 ∧ x = .int .u64 (8 * n / 256 ^ k : Nat) ∧ y = .int .i64 (T - 1 - k : Nat) ∧ Pad64 w (padK T n k) wr) (fun x _ _ => (intOf x).toNat)
  case atStart => exact ⟨0, Nat.zero_le _, by simp, by go_num, HR.out⟩
  case round =>
    obtain ⟨k, hk, rfl, rfl, hP⟩ := hrel
    obtain ⟨q, hq⟩ : ∃ q, q = 8 * n / 256 ^ k := ⟨_, rfl⟩
    have hq2 : 8 * n / 256 ^ (k + 1) = q / 256 := by rw [hq, Nat.div_div_eq_div_mul, Nat.pow_succ]
    by_cases h0 : q = 0
    · have hall := HALL.out k (by rw [← hq]; exact h0)
      rw [← hq, h0]
      rw [hall] at hP
      have hb := hP.row.back T T (by rw [padL_length _ _ (by decide), HG.out]; exact HT.out) (padL_lt _ _)
      have HB := Lib.hid hP.below
      clear hP hall hq hq2
      go_wp2
      go_ret
      exact ⟨rfl, HB.out⟩
    · have hk8 : k < 8 := Nat.lt_of_not_le fun hle => h0 (by rw [hq]; exact small_div _ _ HN.out hle)
      obtain ⟨i, hi2⟩ : ∃ i, i = T - 1 - k := ⟨_, rfl⟩
      have hst := padK_step T n k i hi2 (by omega)
      rw [← hq] at hst ⊢
      rw [← hi2]
      obtain ⟨u, hu⟩ : ∃ u, u = q % 256 := ⟨_, rfl⟩
      rw [← hu] at hst
      have y1 : IntKind.u8.wrap (q : Int) = (u : Int) := by rw [IntKind.wrap_u8]; omega
      have y2 : (0 : Int) < (q : Int) := by omega
      have y3 : (i : Int) < (T : Int) := by omega
      have y4 : (i : Int) - 1 = ((T - 1 - (k + 1) : Nat) : Int) := by omega
      have c0 := hP.row.cell (j := i) (padK_get T n k i (by omega))
      have f0 := hP.row.frozen i
      have HP := Lib.hid (hP.step i u); clear hP
      have HST := Lib.hid hst; clear hst
      have HQ := Lib.hid hq2
      clear hq hq2 hu hi2
      generalize (if i = 0 then 128 else if T - 1 - i < k then 8 * n / 256 ^ (T - 1 - i) % 256 else 0) = old at c0
      go_wp2
      go_roundw
      case rel => exact ⟨k + 1, by omega, by rw [HQ.out]; rfl, by go_num, by rw [← HST.out]; exact HP.out⟩
      case measure => simp [intOf]; omega

end Dg
end Go.Proofs.Ytedoggejbhbebaa
