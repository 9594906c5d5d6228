/-
  Joined: Sh. Conditions: as each part says.
-/
import Derived.Test.YtedoggejbhbebaaJ18
import Derived.Test.YtedoggejbhbebaaJ21

/-
  Contracts of sha.Block, Size, digest and Sum. Conditions: the text is shorter than 2^30 bytes; the table of round constants holds eighty words.
-/
namespace Go.Proofs.Ytedoggejbhbebaa
namespace Dg
open Go.ChangeShapes Go.WideShapes Go.ChangeAt Go.RowKit Go.Great Go.ChangeMaps
open Sha
set_option linter.unusedVariables false
set_option maxRecDepth 100000
variable {KQ : KTab}

theorem block_256 (w : World) : Calls Try.prog 56 #[.int .i64 256] w fun e w' => e = .returned (.int .i64 64) ∧ w' = w := by
  go_enter Try.func56, Try.ntmps56
  go_wp2
  go_ret
  exact ⟨rfl, rfl⟩
theorem size_256 (w : World) : Calls Try.prog 22 #[.int .i64 256] w fun e w' => e = .returned (.int .i64 32) ∧ w' = w := by
  go_enter Try.func22, Try.ntmps22
  go_wp2
  go_ret
  exact ⟨rfl, rfl⟩

theorem block_384 (w : World) : Calls Try.prog 56 #[.int .i64 384] w fun e w' => e = .returned (.int .i64 128) ∧ w' = w := by
  go_enter Try.func56, Try.ntmps56
  go_wp2
  go_ret
  exact ⟨rfl, rfl⟩
theorem size_384 (w : World) : Calls Try.prog 22 #[.int .i64 384] w fun e w' => e = .returned (.int .i64 48) ∧ w' = w := by
  go_enter Try.func22, Try.ntmps22
  go_wp2
  go_ret
  exact ⟨rfl, rfl⟩

theorem block_512 (w : World) : Calls Try.prog 56 #[.int .i64 512] w fun e w' => e = .returned (.int .i64 128) ∧ w' = w := by
  go_enter Try.func56, Try.ntmps56
  go_wp2
  go_ret
  exact ⟨rfl, rfl⟩
theorem size_512 (w : World) : Calls Try.prog 22 #[.int .i64 512] w fun e w' => e = .returned (.int .i64 64) ∧ w' = w := by
  go_enter Try.func22, Try.ntmps22
  go_wp2
  go_ret
  exact ⟨rfl, rfl⟩

theorem nums_append (a b : ByteArray) : nums (a ++ b) = nums a ++ nums b := by
  unfold nums
  rw [ByteArray.data_append, Array.toList_append, List.map_append]
theorem nums_extract (t : ByteArray) (i j : Nat) : nums (t.extract i j) = ((nums t).drop i).take (j - i) := by
  unfold nums
  rw [ByteArray.data_extract, Array.toList_extract, List.extract_eq_take_drop, List.map_take, List.map_drop]
theorem extract_size (t : ByteArray) (i j : Nat) (h : j ≤ t.size) : (t.extract i j).size = j - i := by
  rw [ByteArray.size_extract]; omega
theorem toB_nums (b : ByteArray) : toB (nums b) = b := by
  unfold toB nums
  apply ByteArray.ext
  rw [List.map_map, List.map_congr_left (g := id), List.map_id]
  intro x _
  simp
theorem toB_take (l : List Nat) (n : Nat) : (toB l).extract 0 n = toB (l.take n) := by
  unfold toB
  apply ByteArray.ext
  rw [ByteArray.data_extract]
  simp [List.map_take]

/-- The whole text. -/
def textOf (W : Nat) (b : ByteArray) : ByteArray := b ++ toB (padL W b.size)
theorem nums_text (W : Nat) (b : ByteArray) : nums (textOf W b) = padded W (nums b) := by
  unfold textOf
  rw [nums_append, nums_toB _ (padL_lt _ _), padded_eq, nums_length]

/-- The memory of digest. -/
structure Dg32 (KQ : KTab) (w : World) (P H : Nat) (v : St) (X : World) : Prop where
  hp : X.heap[P]? = some (.cells plan32 129 (0, 0))
  hh : Wd .u32 131 H v.list X
  hk : Kon KQ X
  lo : w.heap.size ≤ P
  lt : P < H
  below : Below w.heap.size w X
theorem Dg32.next {w X Y : World} {P H : Nat} {v : St} (h : Dg32 KQ w P H v X) (hb : Below X.heap.size X Y) : Dg32 KQ w P H v Y :=
  ⟨keepBlock h.hp hb, keepBlock h.hh hb, h.hk.next hb, h.lo, h.lt, below_link h.below hb⟩
theorem Dg32.drew {w X : World} {P H : Nat} {v : St} (h : Dg32 KQ w P H v X) : Dg32 KQ w P H v X.drew := ⟨h.hp, h.hh, h.hk, h.lo, h.lt, h.below.drew⟩
theorem Dg32.set {w X : World} {P H : Nat} {v : St} (h : Dg32 KQ w P H v X) (t : St) : Dg32 KQ w P H t (X.setRow H (valsK .u32 t.list)) where
  hp := by have := h.lt; rw [setRow_other _ _ _ _ (by omega)]; exact h.hp
  hh := setRow_heap _ _ _ _ _ _ h.hh
  hk := h.hk.of_heap (by have := h.lt; exact setRow_other _ _ _ _ (by omega))
  lo := h.lo
  lt := h.lt
  below := below_setRow h.below (by have := h.lo; have := h.lt; omega) _
theorem Dg32.plan {w X : World} {P H : Nat} {v : St} (h : Dg32 KQ w P H v X) (j : Nat) : X.cell? ⟨P, j, none⟩ = plan32[j]? := cell_of_row _ _ _ _ _ _ h.hp

theorem text_size_32 (b : ByteArray) : ∃ n, (textOf 32 b).size = 64 * n ∧ n = (padded 32 (nums b)).length / 64 := by
  have h1 := padded_length 32 (nums b) (by decide)
  have h2 : (textOf 32 b).size = (padded 32 (nums b)).length := by rw [← nums_text, nums_length]
  refine ⟨_, ?_, rfl⟩
  rw [h2]
  omega
theorem blocks_small_32 {s : St} (k : Nat → Nat) (b : List Nat) (hs : s.Small 32) (n : Nat) : (Sha.blocks 32 k s b n).Small 32 := by
  cases n with
  | zero => exact hs
  | succ n => exact add_small _ _ _

/-- The memory of digest. -/
structure Dg64 (KQ : KTab) (w : World) (P H : Nat) (v : St) (X : World) : Prop where
  hp : X.heap[P]? = some (.cells plan64 129 (0, 0))
  hh : Wd .u64 136 H v.list X
  hk : Kon KQ X
  lo : w.heap.size ≤ P
  lt : P < H
  below : Below w.heap.size w X
theorem Dg64.next {w X Y : World} {P H : Nat} {v : St} (h : Dg64 KQ w P H v X) (hb : Below X.heap.size X Y) : Dg64 KQ w P H v Y :=
  ⟨keepBlock h.hp hb, keepBlock h.hh hb, h.hk.next hb, h.lo, h.lt, below_link h.below hb⟩
theorem Dg64.drew {w X : World} {P H : Nat} {v : St} (h : Dg64 KQ w P H v X) : Dg64 KQ w P H v X.drew := ⟨h.hp, h.hh, h.hk, h.lo, h.lt, h.below.drew⟩
theorem Dg64.set {w X : World} {P H : Nat} {v : St} (h : Dg64 KQ w P H v X) (t : St) : Dg64 KQ w P H t (X.setRow H (valsK .u64 t.list)) where
  hp := by have := h.lt; rw [setRow_other _ _ _ _ (by omega)]; exact h.hp
  hh := setRow_heap _ _ _ _ _ _ h.hh
  hk := h.hk.of_heap (by have := h.lt; exact setRow_other _ _ _ _ (by omega))
  lo := h.lo
  lt := h.lt
  below := below_setRow h.below (by have := h.lo; have := h.lt; omega) _
theorem Dg64.plan {w X : World} {P H : Nat} {v : St} (h : Dg64 KQ w P H v X) (j : Nat) : X.cell? ⟨P, j, none⟩ = plan64[j]? := cell_of_row _ _ _ _ _ _ h.hp

theorem text_size_64 (b : ByteArray) : ∃ n, (textOf 64 b).size = 128 * n ∧ n = (padded 64 (nums b)).length / 128 := by
  have h1 := padded_length 64 (nums b) (by decide)
  have h2 : (textOf 64 b).size = (padded 64 (nums b)).length := by rw [← nums_text, nums_length]
  refine ⟨_, ?_, rfl⟩
  rw [h2]
  omega
theorem blocks_small_64 {s : St} (k : Nat → Nat) (b : List Nat) (hs : s.Small 64) (n : Nat) : (Sha.blocks 64 k s b n).Small 64 := by
  cases n with
  | zero => exact hs
  | succ n => exact add_small _ _ _

set_option maxRecDepth 10000 in
set_option maxHeartbeats 4000000 in
theorem digest_256 (b : ByteArray) (w : World) (hb : b.size < 1073741824) (hk : Kon KQ w) :
    Calls Try.prog 68 #[.int .i64 256, .string b] w fun e w' => e = .returned (.string (toB (Sha.digest 32 256 (kAt KQ 32) ini256 (nums b)))) ∧ Below w.heap.size w w' := by
  have HK := Lib.hid hk; clear hk
  have HPAD := Lib.hid (fun X => padding_32 b.size X (by omega))
  obtain ⟨n, hn, hn2⟩ := text_size_32 b
  have hts : (textOf 32 b).size < 1073742848 := by
    unfold textOf
    rw [ByteArray.size_append, toB_size, padL_length _ _ (by decide)]
    have := gap_lt 32 b.size (by decide)
    omega
  have hcat : ¬ 9223372036854775807 < b.size + (toB (padL 32 b.size)).size := by
    have : (textOf 32 b).size = b.size + (toB (padL 32 b.size)).size := ByteArray.size_append
    omega
  have HN2 := Lib.hid hn2; clear hn2
  have hb2 : (b.size : Int) ≤ 1073741823 := by omega
  go_enter Try.func68, Try.ntmps68
  go_wp2_with fail
  refine (plan256 _).mono ?_
  rintro e w1 ⟨rfl, hb1⟩
  have HB1 := Lib.hid hb1; clear hb1
  unfold plan32
  go_wp2_with fail
  refine (init_256 _).mono ?_
  rintro e w2 ⟨rfl, hb2'⟩
  have q0 : w2.heap[w1.heap.size]? = some (.cells plan32 129 (0, 0)) := keepBlock (heap_alloc_new w1 _) hb2'
  have q1 : Kon KQ w2 := ((HK.out.next HB1.out).alloc _).next hb2'
  have q2 : Below w.heap.size w w2 := below_link (below_alloc HB1.out _) hb2'
  have HD0 := Lib.hid (show Dg32 KQ w w1.heap.size w2.heap.size ini256 (w2.alloc (.cells (valsK .u32 ini256.list) 131)) from
    ⟨keepAlloc q0 _, heap_alloc_new w2 _, q1.alloc _, HB1.out.size, (Array.getElem?_eq_some_iff.1 q0).1, below_alloc q2 _⟩)
  have st1 := storeNew w2 131 #[.int .u32 0, .int .u32 0, .int .u32 0, .int .u32 0, .int .u32 0, .int .u32 0, .int .u32 0, .int .u32 0] (valsK .u32 ini256.list) size8_32 rfl (valsK_one _ _)
  clear q0 q1 q2 hb2'
  go_wp2_with fail
  refine (block_256 _).mono ?_
  rintro e w3 ⟨rfl, rfl⟩
  go_wp2_with fail
  refine (HPAD.out _).mono ?_
  rintro e w4 ⟨rfl, hb4⟩
  have HD1 := Lib.hid (HD0.out.next hb4); clear hb4 st1
  obtain ⟨P, hP⟩ : ∃ P, P = w1.heap.size := ⟨_, rfl⟩
  obtain ⟨H, hH⟩ : ∃ H, H = w2.heap.size := ⟨_, rfl⟩
  have htx : b ++ toB (padL 32 b.size) = textOf 32 b := rfl
  obtain ⟨t, ht⟩ : ∃ t, t = textOf 32 b := ⟨_, rfl⟩
  have hnt := nums_text 32 b
  rw [← ht] at hn hts htx hnt
  have HNT := Lib.hid hnt; clear hnt ht
  go_wp2_with fail
  have hse := blocks_small_32 (kAt KQ 32) (padded 32 (nums b)) ini256_small
  have HSE := Lib.hid hse; clear hse
  have HTS := Lib.hid hts
  clear hb hcat hb2 hP hH P H
  generalize w1.heap.size = P at *
  generalize w2.heap.size = H at *
  go_loopw [9] (fun x wr => ∃ i : Nat, i ≤ n ∧ x = .int .i64 (64 * i : Nat) ∧ Dg32 KQ w P H (Sha.blocks 32 (kAt KQ 32) ini256 (padded 32 (nums b)) i) wr) (fun x _ => 64 * n - (intOf x).toNat)
  case atStart => exact ⟨0, Nat.zero_le _, rfl, HD1.out⟩
  case round =>
    obtain ⟨i, hi, rfl, hD⟩ := hrel
    obtain ⟨v, hv⟩ : ∃ v, v = Sha.blocks 32 (kAt KQ 32) ini256 (padded 32 (nums b)) i := ⟨_, rfl⟩
    have hvs : v.Small 32 := by rw [hv]; exact HSE.out i
    obtain ⟨a, ha⟩ : ∃ a, a = 64 * i := ⟨_, rfl⟩
    rw [← hv] at hD
    rw [← ha]
    by_cases hlt : i < n
    · obtain ⟨c, hc⟩ : ∃ c, c = t.extract a (a + 64) := ⟨_, rfl⟩
      have hcs : c.size = 64 := by rw [hc, extract_size _ _ _ (by omega)]; omega
      have hnx : Sha.blocks 32 (kAt KQ 32) ini256 (padded 32 (nums b)) (i + 1) = Sha.block 32 (kAt KQ 32) v (nums c) := by
        rw [hc, nums_extract, HNT.out, hv, ha, Nat.add_sub_cancel_left]; rfl
      have HRN := Lib.hid (fun X (h : Kon KQ X) => rounds_32 c X v hvs hcs h)
      obtain ⟨u, hu⟩ : ∃ u, u = Sha.block 32 (kAt KQ 32) v (nums c) := ⟨_, rfl⟩
      rw [← hu] at HRN hnx
      have HNX := Lib.hid hnx; clear hnx hu hcs
      have g1 : decide ((a : Int) < (t.size : Int)) = true := by simp; omega
      have g2 : IntKind.i64.wrap ((a : Int) + 64) = ((a + 64 : Nat) : Int) := by rw [IntKind.wrap_i64]; omega
      have g3 : ((a + 64 : Nat) : Int) ≤ (t.size : Int) := by omega
      have g4 : (a : Int) ≤ ((a + 64 : Nat) : Int) := by omega
      have HA := Lib.hid (show a + 64 = 64 * (i + 1) ∧ a + 64 ≤ 64 * n ∧ a < 64 * n by omega)
      have p0 : wr.cell? ⟨P, 0, none⟩ = some (.int .i64 32) := hD.plan 0
      have p1 : wr.cell? ⟨P, 1, none⟩ = some (.int .i64 64) := hD.plan 1
      have p2 : wr.cell? ⟨P, 2, none⟩ = some (.int .i64 2) := hD.plan 2
      have p3 : wr.cell? ⟨P, 3, none⟩ = some (.int .i64 13) := hD.plan 3
      have p4 : wr.cell? ⟨P, 4, none⟩ = some (.int .i64 22) := hD.plan 4
      have p5 : wr.cell? ⟨P, 5, none⟩ = some (.int .i64 6) := hD.plan 5
      have p6 : wr.cell? ⟨P, 6, none⟩ = some (.int .i64 11) := hD.plan 6
      have p7 : wr.cell? ⟨P, 7, none⟩ = some (.int .i64 25) := hD.plan 7
      have p8 : wr.cell? ⟨P, 8, none⟩ = some (.int .i64 7) := hD.plan 8
      have p9 : wr.cell? ⟨P, 9, none⟩ = some (.int .i64 18) := hD.plan 9
      have p10 : wr.cell? ⟨P, 10, none⟩ = some (.int .i64 3) := hD.plan 10
      have p11 : wr.cell? ⟨P, 11, none⟩ = some (.int .i64 17) := hD.plan 11
      have p12 : wr.cell? ⟨P, 12, none⟩ = some (.int .i64 19) := hD.plan 12
      have p13 : wr.cell? ⟨P, 13, none⟩ = some (.int .i64 10) := hD.plan 13
      have v0 := hD.hh.cell (j := 0) (x := v.a) rfl
      have v1 := hD.hh.cell (j := 1) (x := v.b) rfl
      have v2 := hD.hh.cell (j := 2) (x := v.c) rfl
      have v3 := hD.hh.cell (j := 3) (x := v.d) rfl
      have v4 := hD.hh.cell (j := 4) (x := v.e) rfl
      have v5 := hD.hh.cell (j := 5) (x := v.f) rfl
      have v6 := hD.hh.cell (j := 6) (x := v.g) rfl
      have v7 := hD.hh.cell (j := 7) (x := v.h) rfl
      have HD := Lib.hid hD; clear hD
      have HC := Lib.hid hc.symm
      clear hv ha hlt hts hn hvs hc
      go_wp2
      go_region_with (go_at_call 88; rw [HC.out]; refine (HRN.out _ ?_).mono ?_; exact HD.out.hk; rintro e' w' ⟨rfl, hbw⟩; have hD' := Dg32.next HD.out.drew hbw; have st := storeOld w' H 131 (valsK .u32 v.list) (valsK .u32 u.list) hD'.hh rfl (valsK_one _ _); have HD' := Lib.hid hD'; clear hD' hbw)
      all_goals (go_wp2; go_roundw)
      all_goals first
        | exact ⟨i + 1, by have := HA.out; omega, by have := HA.out.1; congr 1; omega, by rw [HNX.out]; exact HD'.out.set u⟩
        | exact ⟨i + 1, by have := HA.out; omega, by have := HA.out.1; congr 1; omega, by rw [HNX.out]; exact (HD'.out.set u).drew⟩
        | (have := HA.out; simp [intOf]; omega)
    · obtain rfl : i = n := by omega
      have g1 : decide ((a : Int) < (t.size : Int)) = false := by simp; omega
      have g1n : ¬ a < t.size := by omega
      have g1i : ¬ (a : Int) < (t.size : Int) := by omega
      have hsp : (spelled 32 v.list).length = 32 := by rw [spelled_length]; have : v.list.length = 8 := rfl; rw [this]
      have g5 : (toB (spelled 32 v.list)).size = 32 := by rw [toB_size, hsp]
      have hdg : Sha.digest 32 256 (kAt KQ 32) ini256 (nums b) = (spelled 32 v.list).take 32 := by rw [hv, HN2.out]; rfl
      have hex := toB_take (spelled 32 v.list) 32
      rw [← hdg] at hex
      obtain ⟨R, hRR⟩ : ∃ R, R = toB (Sha.digest 32 256 (kAt KQ 32) ini256 (nums b)) := ⟨_, rfl⟩
      rw [← hRR] at hex
      have HRR := Lib.hid hRR; clear hRR
      have HSP := Lib.hid (fun X => spell_32 v X)
      generalize toB (spelled 32 v.list) = Z at *
      have g6 : (Z.size : Int) = 32 := by omega
      have p0 : wr.cell? ⟨P, 0, none⟩ = some (.int .i64 32) := hD.plan 0
      have v0 := hD.hh.cell (j := 0) (x := v.a) rfl
      have v1 := hD.hh.cell (j := 1) (x := v.b) rfl
      have v2 := hD.hh.cell (j := 2) (x := v.c) rfl
      have v3 := hD.hh.cell (j := 3) (x := v.d) rfl
      have v4 := hD.hh.cell (j := 4) (x := v.e) rfl
      have v5 := hD.hh.cell (j := 5) (x := v.f) rfl
      have v6 := hD.hh.cell (j := 6) (x := v.g) rfl
      have v7 := hD.hh.cell (j := 7) (x := v.h) rfl
      have HD := Lib.hid hD; clear hD
      clear hv ha hts hn hvs hdg hsp hlt
      go_wp2_with fail
      refine (HSP.out _).mono ?_
      rintro e w5 ⟨rfl, hb5⟩
      have HB5 := Lib.hid (below_link HD.out.below hb5); clear hb5
      go_wp2_with fail
      refine (size_256 _).mono ?_
      rintro e w6 ⟨rfl, rfl⟩
      go_wp2
      go_ret
      exact ⟨congrArg (fun r => Ending.returned (.string r)) HRR.out, HB5.out⟩

set_option maxRecDepth 10000 in
set_option maxHeartbeats 4000000 in
theorem digest_384 (b : ByteArray) (w : World) (hb : b.size < 1073741824) (hk : Kon KQ w) :
    Calls Try.prog 69 #[.int .i64 384, .string b] w fun e w' => e = .returned (.string (toB (Sha.digest 64 384 (kAt KQ 64) ini384 (nums b)))) ∧ Below w.heap.size w w' := by
  have HK := Lib.hid hk; clear hk
  have HPAD := Lib.hid (fun X => padding_64 b.size X (by omega))
  obtain ⟨n, hn, hn2⟩ := text_size_64 b
  have hts : (textOf 64 b).size < 1073742848 := by
    unfold textOf
    rw [ByteArray.size_append, toB_size, padL_length _ _ (by decide)]
    have := gap_lt 64 b.size (by decide)
    omega
  have hcat : ¬ 9223372036854775807 < b.size + (toB (padL 64 b.size)).size := by
    have : (textOf 64 b).size = b.size + (toB (padL 64 b.size)).size := ByteArray.size_append
    omega
  have HN2 := Lib.hid hn2; clear hn2
  have hb2 : (b.size : Int) ≤ 1073741823 := by omega
  go_enter Try.func69, Try.ntmps69
  go_wp2_with fail
  refine (plan384 _).mono ?_
  rintro e w1 ⟨rfl, hb1⟩
  have HB1 := Lib.hid hb1; clear hb1
  unfold plan64
  go_wp2_with fail
  refine (init_384 _).mono ?_
  rintro e w2 ⟨rfl, hb2'⟩
  have q0 : w2.heap[w1.heap.size]? = some (.cells plan64 129 (0, 0)) := keepBlock (heap_alloc_new w1 _) hb2'
  have q1 : Kon KQ w2 := ((HK.out.next HB1.out).alloc _).next hb2'
  have q2 : Below w.heap.size w w2 := below_link (below_alloc HB1.out _) hb2'
  have HD0 := Lib.hid (show Dg64 KQ w w1.heap.size w2.heap.size ini384 (w2.alloc (.cells (valsK .u64 ini384.list) 136)) from
    ⟨keepAlloc q0 _, heap_alloc_new w2 _, q1.alloc _, HB1.out.size, (Array.getElem?_eq_some_iff.1 q0).1, below_alloc q2 _⟩)
  have st1 := storeNew w2 136 #[.int .u64 0, .int .u64 0, .int .u64 0, .int .u64 0, .int .u64 0, .int .u64 0, .int .u64 0, .int .u64 0] (valsK .u64 ini384.list) size8_64 rfl (valsK_one _ _)
  clear q0 q1 q2 hb2'
  go_wp2_with fail
  refine (block_384 _).mono ?_
  rintro e w3 ⟨rfl, rfl⟩
  go_wp2_with fail
  refine (HPAD.out _).mono ?_
  rintro e w4 ⟨rfl, hb4⟩
  have HD1 := Lib.hid (HD0.out.next hb4); clear hb4 st1
  obtain ⟨P, hP⟩ : ∃ P, P = w1.heap.size := ⟨_, rfl⟩
  obtain ⟨H, hH⟩ : ∃ H, H = w2.heap.size := ⟨_, rfl⟩
  have htx : b ++ toB (padL 64 b.size) = textOf 64 b := rfl
  obtain ⟨t, ht⟩ : ∃ t, t = textOf 64 b := ⟨_, rfl⟩
  have hnt := nums_text 64 b
  rw [← ht] at hn hts htx hnt
  have HNT := Lib.hid hnt; clear hnt ht
  go_wp2_with fail
  have hse := blocks_small_64 (kAt KQ 64) (padded 64 (nums b)) ini384_small
  have HSE := Lib.hid hse; clear hse
  have HTS := Lib.hid hts
  clear hb hcat hb2 hP hH P H
  generalize w1.heap.size = P at *
  generalize w2.heap.size = H at *
  go_loopw [9] (fun x wr => ∃ i : Nat, i ≤ n ∧ x = .int .i64 (128 * i : Nat) ∧ Dg64 KQ w P H (Sha.blocks 64 (kAt KQ 64) ini384 (padded 64 (nums b)) i) wr) (fun x _ => 128 * n - (intOf x).toNat)
  case atStart => exact ⟨0, Nat.zero_le _, rfl, HD1.out⟩
  case round =>
    obtain ⟨i, hi, rfl, hD⟩ := hrel
    obtain ⟨v, hv⟩ : ∃ v, v = Sha.blocks 64 (kAt KQ 64) ini384 (padded 64 (nums b)) i := ⟨_, rfl⟩
    have hvs : v.Small 64 := by rw [hv]; exact HSE.out i
    obtain ⟨a, ha⟩ : ∃ a, a = 128 * i := ⟨_, rfl⟩
    rw [← hv] at hD
    rw [← ha]
    by_cases hlt : i < n
    · obtain ⟨c, hc⟩ : ∃ c, c = t.extract a (a + 128) := ⟨_, rfl⟩
      have hcs : c.size = 128 := by rw [hc, extract_size _ _ _ (by omega)]; omega
      have hnx : Sha.blocks 64 (kAt KQ 64) ini384 (padded 64 (nums b)) (i + 1) = Sha.block 64 (kAt KQ 64) v (nums c) := by
        rw [hc, nums_extract, HNT.out, hv, ha, Nat.add_sub_cancel_left]; rfl
      have HRN := Lib.hid (fun X (h : Kon KQ X) => rounds_64 c X v hvs hcs h)
      obtain ⟨u, hu⟩ : ∃ u, u = Sha.block 64 (kAt KQ 64) v (nums c) := ⟨_, rfl⟩
      rw [← hu] at HRN hnx
      have HNX := Lib.hid hnx; clear hnx hu hcs
      have g1 : decide ((a : Int) < (t.size : Int)) = true := by simp; omega
      have g2 : IntKind.i64.wrap ((a : Int) + 128) = ((a + 128 : Nat) : Int) := by rw [IntKind.wrap_i64]; omega
      have g3 : ((a + 128 : Nat) : Int) ≤ (t.size : Int) := by omega
      have g4 : (a : Int) ≤ ((a + 128 : Nat) : Int) := by omega
      have HA := Lib.hid (show a + 128 = 128 * (i + 1) ∧ a + 128 ≤ 128 * n ∧ a < 128 * n by omega)
      have p0 : wr.cell? ⟨P, 0, none⟩ = some (.int .i64 64) := hD.plan 0
      have p1 : wr.cell? ⟨P, 1, none⟩ = some (.int .i64 80) := hD.plan 1
      have p2 : wr.cell? ⟨P, 2, none⟩ = some (.int .i64 28) := hD.plan 2
      have p3 : wr.cell? ⟨P, 3, none⟩ = some (.int .i64 34) := hD.plan 3
      have p4 : wr.cell? ⟨P, 4, none⟩ = some (.int .i64 39) := hD.plan 4
      have p5 : wr.cell? ⟨P, 5, none⟩ = some (.int .i64 14) := hD.plan 5
      have p6 : wr.cell? ⟨P, 6, none⟩ = some (.int .i64 18) := hD.plan 6
      have p7 : wr.cell? ⟨P, 7, none⟩ = some (.int .i64 41) := hD.plan 7
      have p8 : wr.cell? ⟨P, 8, none⟩ = some (.int .i64 1) := hD.plan 8
      have p9 : wr.cell? ⟨P, 9, none⟩ = some (.int .i64 8) := hD.plan 9
      have p10 : wr.cell? ⟨P, 10, none⟩ = some (.int .i64 7) := hD.plan 10
      have p11 : wr.cell? ⟨P, 11, none⟩ = some (.int .i64 19) := hD.plan 11
      have p12 : wr.cell? ⟨P, 12, none⟩ = some (.int .i64 61) := hD.plan 12
      have p13 : wr.cell? ⟨P, 13, none⟩ = some (.int .i64 6) := hD.plan 13
      have v0 := hD.hh.cell (j := 0) (x := v.a) rfl
      have v1 := hD.hh.cell (j := 1) (x := v.b) rfl
      have v2 := hD.hh.cell (j := 2) (x := v.c) rfl
      have v3 := hD.hh.cell (j := 3) (x := v.d) rfl
      have v4 := hD.hh.cell (j := 4) (x := v.e) rfl
      have v5 := hD.hh.cell (j := 5) (x := v.f) rfl
      have v6 := hD.hh.cell (j := 6) (x := v.g) rfl
      have v7 := hD.hh.cell (j := 7) (x := v.h) rfl
      have HD := Lib.hid hD; clear hD
      have HC := Lib.hid hc.symm
      clear hv ha hlt hts hn hvs hc
      go_wp2
      go_region_with (go_at_call 91; rw [HC.out]; refine (HRN.out _ ?_).mono ?_; exact HD.out.hk; rintro e' w' ⟨rfl, hbw⟩; have hD' := Dg64.next HD.out.drew hbw; have st := storeOld w' H 136 (valsK .u64 v.list) (valsK .u64 u.list) hD'.hh rfl (valsK_one _ _); have HD' := Lib.hid hD'; clear hD' hbw)
      all_goals (go_wp2; go_roundw)
      all_goals first
        | exact ⟨i + 1, by have := HA.out; omega, by have := HA.out.1; congr 1; omega, by rw [HNX.out]; exact HD'.out.set u⟩
        | exact ⟨i + 1, by have := HA.out; omega, by have := HA.out.1; congr 1; omega, by rw [HNX.out]; exact (HD'.out.set u).drew⟩
        | (have := HA.out; simp [intOf]; omega)
    · obtain rfl : i = n := by omega
      have g1 : decide ((a : Int) < (t.size : Int)) = false := by simp; omega
      have g1n : ¬ a < t.size := by omega
      have g1i : ¬ (a : Int) < (t.size : Int) := by omega
      have hsp : (spelled 64 v.list).length = 64 := by rw [spelled_length]; have : v.list.length = 8 := rfl; rw [this]
      have g5 : (toB (spelled 64 v.list)).size = 64 := by rw [toB_size, hsp]
      have hdg : Sha.digest 64 384 (kAt KQ 64) ini384 (nums b) = (spelled 64 v.list).take 48 := by rw [hv, HN2.out]; rfl
      have hex := toB_take (spelled 64 v.list) 48
      rw [← hdg] at hex
      obtain ⟨R, hRR⟩ : ∃ R, R = toB (Sha.digest 64 384 (kAt KQ 64) ini384 (nums b)) := ⟨_, rfl⟩
      rw [← hRR] at hex
      have HRR := Lib.hid hRR; clear hRR
      have HSP := Lib.hid (fun X => spell_64 v X)
      generalize toB (spelled 64 v.list) = Z at *
      have g6 : (Z.size : Int) = 64 := by omega
      have p0 : wr.cell? ⟨P, 0, none⟩ = some (.int .i64 64) := hD.plan 0
      have v0 := hD.hh.cell (j := 0) (x := v.a) rfl
      have v1 := hD.hh.cell (j := 1) (x := v.b) rfl
      have v2 := hD.hh.cell (j := 2) (x := v.c) rfl
      have v3 := hD.hh.cell (j := 3) (x := v.d) rfl
      have v4 := hD.hh.cell (j := 4) (x := v.e) rfl
      have v5 := hD.hh.cell (j := 5) (x := v.f) rfl
      have v6 := hD.hh.cell (j := 6) (x := v.g) rfl
      have v7 := hD.hh.cell (j := 7) (x := v.h) rfl
      have HD := Lib.hid hD; clear hD
      clear hv ha hts hn hvs hdg hsp hlt
      go_wp2_with fail
      refine (HSP.out _).mono ?_
      rintro e w5 ⟨rfl, hb5⟩
      have HB5 := Lib.hid (below_link HD.out.below hb5); clear hb5
      go_wp2_with fail
      refine (size_384 _).mono ?_
      rintro e w6 ⟨rfl, rfl⟩
      go_wp2
      go_ret
      exact ⟨congrArg (fun r => Ending.returned (.string r)) HRR.out, HB5.out⟩

set_option maxRecDepth 10000 in
set_option maxHeartbeats 4000000 in
theorem digest_512 (b : ByteArray) (w : World) (hb : b.size < 1073741824) (hk : Kon KQ w) :
    Calls Try.prog 69 #[.int .i64 512, .string b] w fun e w' => e = .returned (.string (toB (Sha.digest 64 512 (kAt KQ 64) ini512 (nums b)))) ∧ Below w.heap.size w w' := by
  have HK := Lib.hid hk; clear hk
  have HPAD := Lib.hid (fun X => padding_64 b.size X (by omega))
  obtain ⟨n, hn, hn2⟩ := text_size_64 b
  have hts : (textOf 64 b).size < 1073742848 := by
    unfold textOf
    rw [ByteArray.size_append, toB_size, padL_length _ _ (by decide)]
    have := gap_lt 64 b.size (by decide)
    omega
  have hcat : ¬ 9223372036854775807 < b.size + (toB (padL 64 b.size)).size := by
    have : (textOf 64 b).size = b.size + (toB (padL 64 b.size)).size := ByteArray.size_append
    omega
  have HN2 := Lib.hid hn2; clear hn2
  have hb2 : (b.size : Int) ≤ 1073741823 := by omega
  go_enter Try.func69, Try.ntmps69
  go_wp2_with fail
  refine (plan512 _).mono ?_
  rintro e w1 ⟨rfl, hb1⟩
  have HB1 := Lib.hid hb1; clear hb1
  unfold plan64
  go_wp2_with fail
  refine (init_512 _).mono ?_
  rintro e w2 ⟨rfl, hb2'⟩
  have q0 : w2.heap[w1.heap.size]? = some (.cells plan64 129 (0, 0)) := keepBlock (heap_alloc_new w1 _) hb2'
  have q1 : Kon KQ w2 := ((HK.out.next HB1.out).alloc _).next hb2'
  have q2 : Below w.heap.size w w2 := below_link (below_alloc HB1.out _) hb2'
  have HD0 := Lib.hid (show Dg64 KQ w w1.heap.size w2.heap.size ini512 (w2.alloc (.cells (valsK .u64 ini512.list) 136)) from
    ⟨keepAlloc q0 _, heap_alloc_new w2 _, q1.alloc _, HB1.out.size, (Array.getElem?_eq_some_iff.1 q0).1, below_alloc q2 _⟩)
  have st1 := storeNew w2 136 #[.int .u64 0, .int .u64 0, .int .u64 0, .int .u64 0, .int .u64 0, .int .u64 0, .int .u64 0, .int .u64 0] (valsK .u64 ini512.list) size8_64 rfl (valsK_one _ _)
  clear q0 q1 q2 hb2'
  go_wp2_with fail
  refine (block_512 _).mono ?_
  rintro e w3 ⟨rfl, rfl⟩
  go_wp2_with fail
  refine (HPAD.out _).mono ?_
  rintro e w4 ⟨rfl, hb4⟩
  have HD1 := Lib.hid (HD0.out.next hb4); clear hb4 st1
  obtain ⟨P, hP⟩ : ∃ P, P = w1.heap.size := ⟨_, rfl⟩
  obtain ⟨H, hH⟩ : ∃ H, H = w2.heap.size := ⟨_, rfl⟩
  have htx : b ++ toB (padL 64 b.size) = textOf 64 b := rfl
  obtain ⟨t, ht⟩ : ∃ t, t = textOf 64 b := ⟨_, rfl⟩
  have hnt := nums_text 64 b
  rw [← ht] at hn hts htx hnt
  have HNT := Lib.hid hnt; clear hnt ht
  go_wp2_with fail
  have hse := blocks_small_64 (kAt KQ 64) (padded 64 (nums b)) ini512_small
  have HSE := Lib.hid hse; clear hse
  have HTS := Lib.hid hts
  clear hb hcat hb2 hP hH P H
  generalize w1.heap.size = P at *
  generalize w2.heap.size = H at *
  go_loopw [9] (fun x wr => ∃ i : Nat, i ≤ n ∧ x = .int .i64 (128 * i : Nat) ∧ Dg64 KQ w P H (Sha.blocks 64 (kAt KQ 64) ini512 (padded 64 (nums b)) i) wr) (fun x _ => 128 * n - (intOf x).toNat)
  case atStart => exact ⟨0, Nat.zero_le _, rfl, HD1.out⟩
  case round =>
    obtain ⟨i, hi, rfl, hD⟩ := hrel
    obtain ⟨v, hv⟩ : ∃ v, v = Sha.blocks 64 (kAt KQ 64) ini512 (padded 64 (nums b)) i := ⟨_, rfl⟩
    have hvs : v.Small 64 := by rw [hv]; exact HSE.out i
    obtain ⟨a, ha⟩ : ∃ a, a = 128 * i := ⟨_, rfl⟩
    rw [← hv] at hD
    rw [← ha]
    by_cases hlt : i < n
    · obtain ⟨c, hc⟩ : ∃ c, c = t.extract a (a + 128) := ⟨_, rfl⟩
      have hcs : c.size = 128 := by rw [hc, extract_size _ _ _ (by omega)]; omega
      have hnx : Sha.blocks 64 (kAt KQ 64) ini512 (padded 64 (nums b)) (i + 1) = Sha.block 64 (kAt KQ 64) v (nums c) := by
        rw [hc, nums_extract, HNT.out, hv, ha, Nat.add_sub_cancel_left]; rfl
      have HRN := Lib.hid (fun X (h : Kon KQ X) => rounds_64 c X v hvs hcs h)
      obtain ⟨u, hu⟩ : ∃ u, u = Sha.block 64 (kAt KQ 64) v (nums c) := ⟨_, rfl⟩
      rw [← hu] at HRN hnx
      have HNX := Lib.hid hnx; clear hnx hu hcs
      have g1 : decide ((a : Int) < (t.size : Int)) = true := by simp; omega
      have g2 : IntKind.i64.wrap ((a : Int) + 128) = ((a + 128 : Nat) : Int) := by rw [IntKind.wrap_i64]; omega
      have g3 : ((a + 128 : Nat) : Int) ≤ (t.size : Int) := by omega
      have g4 : (a : Int) ≤ ((a + 128 : Nat) : Int) := by omega
      have HA := Lib.hid (show a + 128 = 128 * (i + 1) ∧ a + 128 ≤ 128 * n ∧ a < 128 * n by omega)
      have p0 : wr.cell? ⟨P, 0, none⟩ = some (.int .i64 64) := hD.plan 0
      have p1 : wr.cell? ⟨P, 1, none⟩ = some (.int .i64 80) := hD.plan 1
      have p2 : wr.cell? ⟨P, 2, none⟩ = some (.int .i64 28) := hD.plan 2
      have p3 : wr.cell? ⟨P, 3, none⟩ = some (.int .i64 34) := hD.plan 3
      have p4 : wr.cell? ⟨P, 4, none⟩ = some (.int .i64 39) := hD.plan 4
      have p5 : wr.cell? ⟨P, 5, none⟩ = some (.int .i64 14) := hD.plan 5
      have p6 : wr.cell? ⟨P, 6, none⟩ = some (.int .i64 18) := hD.plan 6
      have p7 : wr.cell? ⟨P, 7, none⟩ = some (.int .i64 41) := hD.plan 7
      have p8 : wr.cell? ⟨P, 8, none⟩ = some (.int .i64 1) := hD.plan 8
      have p9 : wr.cell? ⟨P, 9, none⟩ = some (.int .i64 8) := hD.plan 9
      have p10 : wr.cell? ⟨P, 10, none⟩ = some (.int .i64 7) := hD.plan 10
      have p11 : wr.cell? ⟨P, 11, none⟩ = some (.int .i64 19) := hD.plan 11
      have p12 : wr.cell? ⟨P, 12, none⟩ = some (.int .i64 61) := hD.plan 12
      have p13 : wr.cell? ⟨P, 13, none⟩ = some (.int .i64 6) := hD.plan 13
      have v0 := hD.hh.cell (j := 0) (x := v.a) rfl
      have v1 := hD.hh.cell (j := 1) (x := v.b) rfl
      have v2 := hD.hh.cell (j := 2) (x := v.c) rfl
      have v3 := hD.hh.cell (j := 3) (x := v.d) rfl
      have v4 := hD.hh.cell (j := 4) (x := v.e) rfl
      have v5 := hD.hh.cell (j := 5) (x := v.f) rfl
      have v6 := hD.hh.cell (j := 6) (x := v.g) rfl
      have v7 := hD.hh.cell (j := 7) (x := v.h) rfl
      have HD := Lib.hid hD; clear hD
      have HC := Lib.hid hc.symm
      clear hv ha hlt hts hn hvs hc
      go_wp2
      go_region_with (go_at_call 91; rw [HC.out]; refine (HRN.out _ ?_).mono ?_; exact HD.out.hk; rintro e' w' ⟨rfl, hbw⟩; have hD' := Dg64.next HD.out.drew hbw; have st := storeOld w' H 136 (valsK .u64 v.list) (valsK .u64 u.list) hD'.hh rfl (valsK_one _ _); have HD' := Lib.hid hD'; clear hD' hbw)
      all_goals (go_wp2; go_roundw)
      all_goals first
        | exact ⟨i + 1, by have := HA.out; omega, by have := HA.out.1; congr 1; omega, by rw [HNX.out]; exact HD'.out.set u⟩
        | exact ⟨i + 1, by have := HA.out; omega, by have := HA.out.1; congr 1; omega, by rw [HNX.out]; exact (HD'.out.set u).drew⟩
        | (have := HA.out; simp [intOf]; omega)
    · obtain rfl : i = n := by omega
      have g1 : decide ((a : Int) < (t.size : Int)) = false := by simp; omega
      have g1n : ¬ a < t.size := by omega
      have g1i : ¬ (a : Int) < (t.size : Int) := by omega
      have hsp : (spelled 64 v.list).length = 64 := by rw [spelled_length]; have : v.list.length = 8 := rfl; rw [this]
      have g5 : (toB (spelled 64 v.list)).size = 64 := by rw [toB_size, hsp]
      have hdg : Sha.digest 64 512 (kAt KQ 64) ini512 (nums b) = (spelled 64 v.list).take 64 := by rw [hv, HN2.out]; rfl
      have hex := toB_take (spelled 64 v.list) 64
      rw [← hdg] at hex
      obtain ⟨R, hRR⟩ : ∃ R, R = toB (Sha.digest 64 512 (kAt KQ 64) ini512 (nums b)) := ⟨_, rfl⟩
      rw [← hRR] at hex
      have HRR := Lib.hid hRR; clear hRR
      have HSP := Lib.hid (fun X => spell_64 v X)
      generalize toB (spelled 64 v.list) = Z at *
      have g6 : (Z.size : Int) = 64 := by omega
      have p0 : wr.cell? ⟨P, 0, none⟩ = some (.int .i64 64) := hD.plan 0
      have v0 := hD.hh.cell (j := 0) (x := v.a) rfl
      have v1 := hD.hh.cell (j := 1) (x := v.b) rfl
      have v2 := hD.hh.cell (j := 2) (x := v.c) rfl
      have v3 := hD.hh.cell (j := 3) (x := v.d) rfl
      have v4 := hD.hh.cell (j := 4) (x := v.e) rfl
      have v5 := hD.hh.cell (j := 5) (x := v.f) rfl
      have v6 := hD.hh.cell (j := 6) (x := v.g) rfl
      have v7 := hD.hh.cell (j := 7) (x := v.h) rfl
      have HD := Lib.hid hD; clear hD
      clear hv ha hts hn hvs hdg hsp hlt
      go_wp2_with fail
      refine (HSP.out _).mono ?_
      rintro e w5 ⟨rfl, hb5⟩
      have HB5 := Lib.hid (below_link HD.out.below hb5); clear hb5
      go_wp2_with fail
      refine (size_512 _).mono ?_
      rintro e w6 ⟨rfl, rfl⟩
      go_wp2
      go_ret
      exact ⟨congrArg (fun r => Ending.returned (.string r)) HRR.out, HB5.out⟩

end Dg
end Go.Proofs.Ytedoggejbhbebaa
