/-
  The walk of HmacKeys. Conditions: the table of round constants holds the standard's numbers.
-/
import Derived.Test.YtfahmbkeibeceaaDoorHc
namespace Go.Proofs.YtfahmbkeibeceaaDoor
open Go.ChangeShapes Go.WideShapes Go.ChangeAt Go.RowKit Go.Great Go.ChangeMaps
open Sha
set_option linter.unusedVariables false

/-- The cells of a list of one part. -/
abbrev One (t : ByteArray) : Obj := .cells #[.string t] 9
/-- A row of zeros. -/
abbrev Zr (k : Nat) : Obj := .cells (valsK .u8 (List.replicate k 0)) 5

/-- A key with zeros behind it. -/
def longer (key : ByteArray) (k : Nat) : ByteArray := key ++ toB (List.replicate k 0)
theorem longer_size (key : ByteArray) (k : Nat) : (longer key k).size = key.size + k := by
  unfold longer; rw [ByteArray.size_append, toB_size, List.length_replicate]
theorem nums_longer (key : ByteArray) (k : Nat) : nums (longer key k) = nums key ++ List.replicate k 0 := by
  have h : nums (key ++ toB (List.replicate k 0)) = nums key ++ nums (toB (List.replicate k 0)) := by
    show (key ++ toB (List.replicate k 0)).data.toList.map UInt8.toNat = _
    rw [ByteArray.data_append, Array.toList_append, List.map_append]; rfl
  unfold longer
  rw [h, nums_toB _ (fun c hc => by rw [List.eq_of_mem_replicate hc]; decide)]
theorem mask_longer (n m k : Nat) (l : List Nat) : maskL n m (l ++ List.replicate k 0) = maskL n m l := by
  unfold maskL
  apply List.map_congr_left
  intro i _
  have e : (l ++ List.replicate k 0).getD i 0 = l.getD i 0 := by
    rw [List.getD_eq_getElem?_getD, List.getD_eq_getElem?_getD]
    by_cases h : i < l.length
    · rw [List.getElem?_append_left h]
    · rw [List.getElem?_append_right (by omega), List.getElem?_eq_none (l := l) (by omega), List.getElem?_replicate]
      split <;> rfl
  rw [e]
theorem same_code (Z : Int) (B k : Nat) (key text : ByteArray) (h : key.size + k ≤ B) : hmacOf Z B (longer key k) text = hmacOf Z B key text := by
  unfold hmacOf keyOf
  rw [if_neg (by rw [longer_size]; omega), if_neg (by omega), nums_longer, mask_longer, mask_longer]

theorem hq0 (Y : World) (o : Obj) : (Y.alloc o).heap[Y.heap.size]? = some o := heap_alloc_new Y o
theorem hq0a (Y : World) (o a : Obj) : ((Y.alloc o).alloc a).heap[Y.heap.size]? = some o := keepAlloc (heap_alloc_new Y o) a
theorem hq0b (Y : World) (o a b : Obj) : (((Y.alloc o).alloc a).alloc b).heap[Y.heap.size]? = some o := keepAlloc (keepAlloc (heap_alloc_new Y o) a) b
theorem hq1 (Y : World) (a o : Obj) : ((Y.alloc a).alloc o).heap[Y.heap.size + 1]? = some o := by
  have := heap_alloc_new (Y.alloc a) o
  rwa [alloc_size] at this
theorem hq1a (Y : World) (a o b : Obj) : (((Y.alloc a).alloc o).alloc b).heap[Y.heap.size + 1]? = some o := keepAlloc (hq1 Y a o) b
theorem hq2 (Y : World) (a b o : Obj) : (((Y.alloc a).alloc b).alloc o).heap[Y.heap.size + 1 + 1]? = some o := by
  have := heap_alloc_new ((Y.alloc a).alloc b) o
  rwa [alloc_size, alloc_size] at this
theorem hd0 (Y : World) (o : Obj) : (Y.alloc o).drew.heap[Y.heap.size]? = some o := hq0 Y o
theorem hd0a (Y : World) (o a : Obj) : ((Y.alloc o).alloc a).drew.heap[Y.heap.size]? = some o := hq0a Y o a
theorem hd0b (Y : World) (o a b : Obj) : (((Y.alloc o).alloc a).alloc b).drew.heap[Y.heap.size]? = some o := hq0b Y o a b
theorem hd1 (Y : World) (a o : Obj) : ((Y.alloc a).alloc o).drew.heap[Y.heap.size + 1]? = some o := hq1 Y a o
theorem hd1a (Y : World) (a o b : Obj) : (((Y.alloc a).alloc o).alloc b).drew.heap[Y.heap.size + 1]? = some o := hq1a Y a o b
theorem hd2 (Y : World) (a b o : Obj) : (((Y.alloc a).alloc b).alloc o).drew.heap[Y.heap.size + 1 + 1]? = some o := hq2 Y a b o
theorem bd1 (Y : World) (a : Obj) : Below Y.heap.size Y (Y.alloc a).drew := (below_alloc (Below.refl _ _) a).drew
theorem bd2 (Y : World) (a b : Obj) : Below Y.heap.size Y ((Y.alloc a).alloc b).drew := (below_alloc (below_alloc (Below.refl _ _) a) b).drew
theorem bd3 (Y : World) (a b c : Obj) : Below Y.heap.size Y (((Y.alloc a).alloc b).alloc c).drew := (below_alloc (below_alloc (below_alloc (Below.refl _ _) a) b) c).drew

theorem one_at {X : World} {g : Nat} {t : ByteArray} (h : X.heap[g]? = some (One t)) : Joins (.slice (some ⟨g, 0, none⟩) 1 1) t X :=
  joins_one _ _ _ _ _ (Array.getElem?_eq_some_iff.1 h).1 (cell_of_row _ _ 0 _ _ _ h)

theorem hkeys_long0 (p q : Nat) (key text : ByteArray) (w : World) (hK : Kon w) (hl : 300 < key.size) :
    Calls Tryd.prog 8 #[.agg #[.int .u8 (p : Nat), .int .u8 (q : Nat)], .string key, .string text] w fun e w' => e = .returned (.bool true) ∧ Below w.heap.size w w' := by
  have HK := Lib.hid hK; clear hK
  have HB0 := Lib.hid (below_alloc (Below.refl w.heap.size w) (.cells #[.int .u8 (p : Nat), .int .u8 (q : Nat)] 36))
  have g0 : (300 : Int) < (key.size : Int) := by omega
  clear hl
  go_enter Tryd.func8, Tryd.ntmps8
  go_wp2_with fail
  refine (hawake _ (HK.out.alloc _)).mono ?_
  rintro e w1 ⟨rfl, hb1⟩
  have HB1 := Lib.hid (below_link HB0.out hb1); clear hb1
  go_wp2_with fail
  refine (hawake _ (HK.out.next HB1.out)).mono ?_
  rintro e w2 ⟨rfl, hb2⟩
  have HB2 := Lib.hid (below_link HB1.out hb2); clear hb2
  go_wp2
  go_ret
  exact ⟨rfl, HB2.out⟩

theorem hkeys_long1 (p q : Nat) (key text : ByteArray) (w : World) (hK : Kon w) (h0 : key.size ≤ 300) (hl : 200 < text.size) :
    Calls Tryd.prog 8 #[.agg #[.int .u8 (p : Nat), .int .u8 (q : Nat)], .string key, .string text] w fun e w' => e = .returned (.bool true) ∧ Below w.heap.size w w' := by
  have HK := Lib.hid hK; clear hK
  have HB0 := Lib.hid (below_alloc (Below.refl w.heap.size w) (.cells #[.int .u8 (p : Nat), .int .u8 (q : Nat)] 36))
  have g0 : ¬ (300 : Int) < (key.size : Int) := by omega
  have g1 : (200 : Int) < (text.size : Int) := by omega
  clear hl h0
  go_enter Tryd.func8, Tryd.ntmps8
  go_wp2_with fail
  refine (hawake _ (HK.out.alloc _)).mono ?_
  rintro e w1 ⟨rfl, hb1⟩
  have HB1 := Lib.hid (below_link HB0.out hb1); clear hb1
  go_wp2_with fail
  refine (hawake _ (HK.out.next HB1.out)).mono ?_
  rintro e w2 ⟨rfl, hb2⟩
  have HB2 := Lib.hid (below_link HB1.out hb2); clear hb2
  go_wp2
  go_ret
  exact ⟨rfl, HB2.out⟩

set_option maxHeartbeats 8000000 in
theorem hkeys_short (Z : Int) (B : Nat) (p q : Nat) (key text R : ByteArray) (w : World) (hK : Kon w) (hq : q < 256) (hB : B ≤ 128) (h0 : key.size ≤ 300) (h1 : text.size ≤ 200) (hk : key.size ≤ B)
    (HJ : RowKit.Hid (∀ X, Calls Tryd.prog 14 #[.int .u8 (p : Nat)] X fun e w' => e = .returned (.int .i64 Z) ∧ w' = X))
    (HBK : RowKit.Hid (∀ X, Calls Tryd.prog 17 #[.int .i64 Z] X fun e w' => e = .returned (.int .i64 (B : Nat)) ∧ w' = X))
    (HS : RowKit.Hid (∀ (X : World) (g : Nat), Kon X → X.heap[g]? = some (One text) → Calls Tryd.prog 15 #[.int .i64 Z, .string key, .slice (some ⟨g, 0, none⟩) 1 1] X fun e w' => e = .returned (.string R) ∧ Below X.heap.size X w'))
    (HS2 : RowKit.Hid (∀ (X : World) (g : Nat), Kon X → X.heap[g]? = some (One text) → Calls Tryd.prog 15 #[.int .i64 Z, .string (longer key (q % (B - key.size + 1))), .slice (some ⟨g, 0, none⟩) 1 1] X fun e w' => e = .returned (.string R) ∧ Below X.heap.size X w')) :
    Calls Tryd.prog 8 #[.agg #[.int .u8 (p : Nat), .int .u8 (q : Nat)], .string key, .string text] w fun e w' => e = .returned (.bool true) ∧ Below w.heap.size w w' := by
  have HK := Lib.hid hK; clear hK
  have HB0 := Lib.hid (below_alloc (Below.refl w.heap.size w) (.cells #[.int .u8 (p : Nat), .int .u8 (q : Nat)] 36))
  have HAT := Lib.hid (heap_alloc_new w (.cells #[.int .u8 (p : Nat), .int .u8 (q : Nat)] 36))
  have g0 : ¬ (300 : Int) < (key.size : Int) := by omega
  have g1 : ¬ (200 : Int) < (text.size : Int) := by omega
  have g2 : ¬ (B : Int) < (key.size : Int) := by omega
  obtain ⟨m, hm⟩ : ∃ m, m = B - key.size + 1 := ⟨_, rfl⟩
  obtain ⟨d, hd⟩ : ∃ d, d = B - key.size := ⟨_, rfl⟩
  obtain ⟨k, hkk⟩ : ∃ k, k = q % m := ⟨_, rfl⟩
  rw [← hm, ← hkk] at HS2
  have hkl : k < m := by rw [hkk]; exact Nat.mod_lt _ (by omega)
  have r1 : (B : Int) - (key.size : Int) = (d : Int) := by omega
  have r1w : IntKind.i64.wrap ((B : Int) - (key.size : Int)) = (d : Int) := by rw [IntKind.wrap_i64]; omega
  have r2 : (d : Int) + 1 = (m : Int) := by omega
  have r3 : IntKind.i64.wrap (q : Int) = (q : Int) := by rw [IntKind.wrap_i64]; omega
  have r4 : Int.tmod (q : Int) (m : Int) = (k : Int) := by rw [Int.tmod_eq_emod_of_nonneg (by omega), hkk]; exact (Int.natCast_emod q m).symm
  have r5 : (q : Int) % (m : Int) = (k : Int) := by rw [hkk]; exact (Int.natCast_emod q m).symm
  have r6 : ¬ (m : Int) = 0 := by omega
  have hkb : k ≤ B := by omega
  obtain ⟨L, hL⟩ : ∃ L, L = longer key k := ⟨_, rfl⟩
  rw [← hL] at HS2
  have hmk : ∀ X, (Instr.makeSlice 27 (.int .i64 (k : Nat)) (.int .i64 (k : Nat))).run Tryd.prog X = .ok (.slice (some ⟨X.heap.size, 0, none⟩) k k) (X.alloc (Zr k)) := fun X => made_row k (by omega) X
  have HCV := Lib.hid (fun (X : World) (g : Nat) (h : X.heap[g]? = some (Zr k)) => By.back (l := List.replicate k 0) (show By g (List.replicate k 0) X from h) k k (List.length_replicate).symm (fun c hc => by rw [List.eq_of_mem_replicate hc]; decide))
  obtain ⟨zt, hzt⟩ : ∃ z, z = toB (List.replicate k 0) := ⟨_, rfl⟩
  rw [← hzt] at HCV
  have s1 : ∀ X, (Op.stringOp .add key zt).run Tryd.prog X = .ok (.string L) X := by
    intro X
    rw [hL, longer, ← hzt]
    exact run_string_add_sum X key zt (by rw [hzt, toB_size, List.length_replicate]; omega)
  have hBi : (B : Int) ≤ 128 := by omega
  have hdi : (d : Int) ≤ 128 := by omega
  clear h0 h1 hk hm hd hkk hkl hkb hL hq hzt hB
  go_enter Tryd.func8, Tryd.ntmps8
  go_wp2_with fail
  refine (hawake _ (HK.out.alloc _)).mono ?_
  rintro e w1 ⟨rfl, hb1⟩
  have hat := keepBlock HAT.out hb1
  have HB1 := Lib.hid (below_link HB0.out hb1); clear hb1
  have a0 : w1.cell? ⟨w.heap.size, 0, none⟩ = some (.int .u8 (p : Nat)) := cell_of_row _ _ 0 _ _ _ hat
  have a1 : w1.cell? ⟨w.heap.size, 1, none⟩ = some (.int .u8 (q : Nat)) := cell_of_row _ _ 1 _ _ _ hat
  clear hat
  go_wp2_with fail
  refine (HJ.out _).mono ?_
  rintro e w2 ⟨rfl, rfl⟩
  go_wp2_with fail
  refine (HBK.out _).mono ?_
  rintro e w3 ⟨rfl, rfl⟩
  go_wp2_with fail
  clear a0 a1
  have HB3 := HB1
  have HKB := Lib.hid (fun X (h : Below w3.heap.size w3 X) => HK.out.next (below_link HB3.out h))
  have c1 := HCV.out (w3.alloc (Zr k)).drew _ (hd0 w3 (Zr k))
  have c2 := fun a => HCV.out ((w3.alloc (Zr k)).alloc a).drew _ (hd0a w3 (Zr k) a)
  have c3 := fun a b => HCV.out (((w3.alloc (Zr k)).alloc a).alloc b).drew _ (hd0b w3 (Zr k) a b)
  have c4 := fun a => HCV.out ((w3.alloc a).alloc (Zr k)).drew _ (hd1 w3 a (Zr k))
  have c5 := fun a b => HCV.out (((w3.alloc a).alloc (Zr k)).alloc b).drew _ (hd1a w3 a (Zr k) b)
  have c6 := fun a b => HCV.out (((w3.alloc a).alloc b).alloc (Zr k)).drew _ (hd2 w3 a b (Zr k))
  go_region_with (first | (go_at_call 15; with_reducible refine (HS.out _ _ (HKB.out _ (by first | assumption | exact bd1 _ _ | exact bd2 _ _ _ | exact bd3 _ _ _ _ | exact below_alloc (by assumption) _ | exact below_alloc (below_alloc (by assumption) _) _)) (by first | assumption | exact hd0 _ _ | exact hd0a _ _ _ | exact hd0b _ _ _ _ | exact hd1 _ _ _ | exact hd1a _ _ _ _ | exact hd2 _ _ _ _ | exact hq0 _ _ | exact hq0a _ _ _ | exact hq1 _ _ _ | exact keepAlloc (by assumption) _ | exact keepAlloc (keepAlloc (by assumption) _) _)).mono ?_; rintro e' w5 ⟨rfl, hb5⟩; (try have kt0 := keepBlock (g := w3.heap.size) (o := One text) (by with_reducible first | assumption | exact hd0 _ _ | exact hd0a _ _ _ | exact hd0b _ _ _ _ | exact hd1 _ _ _ | exact hd1a _ _ _ _ | exact hd2 _ _ _ _ | exact hq0 _ _ | exact hq0a _ _ _ | exact hq1 _ _ _ | exact keepAlloc (by assumption) _ | exact keepAlloc (keepAlloc (by assumption) _) _) hb5); (try have kt1 := keepBlock (g := w3.heap.size + 1) (o := One text) (by with_reducible first | assumption | exact hd0 _ _ | exact hd0a _ _ _ | exact hd0b _ _ _ _ | exact hd1 _ _ _ | exact hd1a _ _ _ _ | exact hd2 _ _ _ _ | exact hq0 _ _ | exact hq0a _ _ _ | exact hq1 _ _ _ | exact keepAlloc (by assumption) _ | exact keepAlloc (keepAlloc (by assumption) _) _) hb5); (try have kt2 := keepBlock (g := w3.heap.size + 1 + 1) (o := One text) (by with_reducible first | assumption | exact hd0 _ _ | exact hd0a _ _ _ | exact hd0b _ _ _ _ | exact hd1 _ _ _ | exact hd1a _ _ _ _ | exact hd2 _ _ _ _ | exact hq0 _ _ | exact hq0a _ _ _ | exact hq1 _ _ _ | exact keepAlloc (by assumption) _ | exact keepAlloc (keepAlloc (by assumption) _) _) hb5); (try have kz0 := keepBlock (g := w3.heap.size) (o := Zr k) (by with_reducible first | assumption | exact hd0 _ _ | exact hd0a _ _ _ | exact hd0b _ _ _ _ | exact hd1 _ _ _ | exact hd1a _ _ _ _ | exact hd2 _ _ _ _ | exact hq0 _ _ | exact hq0a _ _ _ | exact hq1 _ _ _ | exact keepAlloc (by assumption) _ | exact keepAlloc (keepAlloc (by assumption) _) _) hb5; have kc0 := HCV.out w5 _ kz0; have kca0 := fun a => HCV.out (w5.alloc a) _ (keepAlloc kz0 a)); (try have kz1 := keepBlock (g := w3.heap.size + 1) (o := Zr k) (by with_reducible first | assumption | exact hd0 _ _ | exact hd0a _ _ _ | exact hd0b _ _ _ _ | exact hd1 _ _ _ | exact hd1a _ _ _ _ | exact hd2 _ _ _ _ | exact hq0 _ _ | exact hq0a _ _ _ | exact hq1 _ _ _ | exact keepAlloc (by assumption) _ | exact keepAlloc (keepAlloc (by assumption) _) _) hb5; have kc1 := HCV.out w5 _ kz1; have kca1 := fun a => HCV.out (w5.alloc a) _ (keepAlloc kz1 a)); (try have kz2 := keepBlock (g := w3.heap.size + 1 + 1) (o := Zr k) (by with_reducible first | assumption | exact hd0 _ _ | exact hd0a _ _ _ | exact hd0b _ _ _ _ | exact hd1 _ _ _ | exact hd1a _ _ _ _ | exact hd2 _ _ _ _ | exact hq0 _ _ | exact hq0a _ _ _ | exact hq1 _ _ _ | exact keepAlloc (by assumption) _ | exact keepAlloc (keepAlloc (by assumption) _) _) hb5; have kc2 := HCV.out w5 _ kz2; have kca2 := fun a => HCV.out (w5.alloc a) _ (keepAlloc kz2 a)); have cz0 := HCV.out (w5.alloc (Zr k)) _ (hq0 w5 (Zr k)); have cz1 := fun a => HCV.out ((w5.alloc (Zr k)).alloc a) _ (hq0a w5 (Zr k) a); have cz2 := fun a => HCV.out ((w5.alloc a).alloc (Zr k)) _ (hq1 w5 a (Zr k)); have hbx := below_link (show Below w3.heap.size w3 _ by with_reducible first | assumption | exact bd1 _ _ | exact bd2 _ _ _ | exact bd3 _ _ _ _ | exact below_alloc (by assumption) _ | exact below_alloc (below_alloc (by assumption) _) _) hb5; clear hb5) | (go_at_call 15; with_reducible refine (HS2.out _ _ (HKB.out _ (by first | assumption | exact bd1 _ _ | exact bd2 _ _ _ | exact bd3 _ _ _ _ | exact below_alloc (by assumption) _ | exact below_alloc (below_alloc (by assumption) _) _)) (by first | assumption | exact hd0 _ _ | exact hd0a _ _ _ | exact hd0b _ _ _ _ | exact hd1 _ _ _ | exact hd1a _ _ _ _ | exact hd2 _ _ _ _ | exact hq0 _ _ | exact hq0a _ _ _ | exact hq1 _ _ _ | exact keepAlloc (by assumption) _ | exact keepAlloc (keepAlloc (by assumption) _) _)).mono ?_; rintro e' w6 ⟨rfl, hb6⟩; have hbz := below_link (show Below w3.heap.size w3 _ by with_reducible first | assumption | exact bd1 _ _ | exact bd2 _ _ _ | exact bd3 _ _ _ _ | exact below_alloc (by assumption) _ | exact below_alloc (below_alloc (by assumption) _) _) hb6))
  all_goals (go_wp2; go_ret)
  all_goals exact ⟨rfl, below_link HB3.out hbz⟩

set_option maxHeartbeats 8000000 in
theorem hkeys_256_long (p q : Nat) (key text : ByteArray) (w : World) (hK : Kon w) (hq : q < 256) (hpj : p % 3 = 0) (h0 : key.size ≤ 300) (h1 : text.size ≤ 200) (hk : 64 < key.size) :
    Calls Tryd.prog 8 #[.agg #[.int .u8 (p : Nat), .int .u8 (q : Nat)], .string key, .string text] w fun e w' => e = .returned (.bool true) ∧ Below w.heap.size w w' := by
  have HK := Lib.hid hK; clear hK
  have HB0 := Lib.hid (below_alloc (Below.refl w.heap.size w) (.cells #[.int .u8 (p : Nat), .int .u8 (q : Nat)] 36))
  have HAT := Lib.hid (heap_alloc_new w (.cells #[.int .u8 (p : Nat), .int .u8 (q : Nat)] 36))
  have g0 : ¬ (300 : Int) < (key.size : Int) := by omega
  have g1 : ¬ (200 : Int) < (text.size : Int) := by omega
  have g2 : (64 : Int) < (key.size : Int) := by omega
  have HJ := Lib.hid (fun X => hsize_256 p X hpj)
  have HS := Lib.hid (fun (X : World) (h : Kon X) => hsum_256 key text (.slice (some ⟨X.heap.size, 0, none⟩) 1 1) (X.alloc (One text)) (h.alloc _) (by omega) (by omega) (one_at (heap_alloc_new X (One text))))
  have HR := Lib.hid (fun X => T256.ref key X (by omega))
  have hds := sumOf_size_256 key
  have he : hmacOf 256 64 (sumOf 256 key) text = hmacOf 256 64 key text := by
    unfold hmacOf keyOf
    rw [if_pos hk, if_neg (by rw [hds]; decide)]
  obtain ⟨D, hD⟩ : ∃ D, D = sumOf 256 key := ⟨_, rfl⟩
  rw [← hD] at HR hds he
  have HS2 := Lib.hid (fun (X : World) (h : Kon X) => hsum_256 D text (.slice (some ⟨X.heap.size, 0, none⟩) 1 1) (X.alloc (One text)) (h.alloc _) (by omega) (by omega) (one_at (heap_alloc_new X (One text))))
  rw [he] at HS2
  generalize hmacOf 256 64 key text = R at *
  clear h0 h1 hk hds he hD hpj hq
  go_enter Tryd.func8, Tryd.ntmps8
  go_wp2_with fail
  refine (hawake _ (HK.out.alloc _)).mono ?_
  rintro e w1 ⟨rfl, hb1⟩
  have hat := keepBlock HAT.out hb1
  have HB1 := Lib.hid (below_link HB0.out hb1); clear hb1
  have a0 : w1.cell? ⟨w.heap.size, 0, none⟩ = some (.int .u8 (p : Nat)) := cell_of_row _ _ 0 _ _ _ hat
  have a1 : w1.cell? ⟨w.heap.size, 1, none⟩ = some (.int .u8 (q : Nat)) := cell_of_row _ _ 1 _ _ _ hat
  clear hat
  go_wp2_with fail
  refine (HJ.out _).mono ?_
  rintro e w2 ⟨rfl, rfl⟩
  go_wp2_with fail
  refine (rblock_256 _).mono ?_
  rintro e w3 ⟨rfl, rfl⟩
  go_wp2_with fail
  clear a0 a1
  refine (HS.out _ (HK.out.next HB1.out)).mono ?_
  rintro e w4 ⟨rfl, hb4⟩
  have HB4 := Lib.hid (below_link (below_alloc HB1.out _) hb4); clear hb4
  go_wp2_with fail
  refine (HR.out _).mono ?_
  rintro e w5 ⟨rfl, hb5⟩
  have HB5 := Lib.hid (below_link HB4.out hb5); clear hb5
  go_wp2_with fail
  refine (HS2.out _ (HK.out.next HB5.out)).mono ?_
  rintro e w6 ⟨rfl, hb6⟩
  have HB6 := Lib.hid (below_link (below_alloc HB5.out _) hb6); clear hb6
  go_wp2
  go_ret
  exact ⟨rfl, HB6.out⟩

set_option maxHeartbeats 8000000 in
theorem hkeys_384_long (p q : Nat) (key text : ByteArray) (w : World) (hK : Kon w) (hq : q < 256) (hpj : p % 3 = 1) (h0 : key.size ≤ 300) (h1 : text.size ≤ 200) (hk : 128 < key.size) :
    Calls Tryd.prog 8 #[.agg #[.int .u8 (p : Nat), .int .u8 (q : Nat)], .string key, .string text] w fun e w' => e = .returned (.bool true) ∧ Below w.heap.size w w' := by
  have HK := Lib.hid hK; clear hK
  have HB0 := Lib.hid (below_alloc (Below.refl w.heap.size w) (.cells #[.int .u8 (p : Nat), .int .u8 (q : Nat)] 36))
  have HAT := Lib.hid (heap_alloc_new w (.cells #[.int .u8 (p : Nat), .int .u8 (q : Nat)] 36))
  have g0 : ¬ (300 : Int) < (key.size : Int) := by omega
  have g1 : ¬ (200 : Int) < (text.size : Int) := by omega
  have g2 : (128 : Int) < (key.size : Int) := by omega
  have HJ := Lib.hid (fun X => hsize_384 p X hpj)
  have HS := Lib.hid (fun (X : World) (h : Kon X) => hsum_384 key text (.slice (some ⟨X.heap.size, 0, none⟩) 1 1) (X.alloc (One text)) (h.alloc _) (by omega) (by omega) (one_at (heap_alloc_new X (One text))))
  have HR := Lib.hid (fun X => T384.ref key X (by omega))
  have hds := sumOf_size_384 key
  have he : hmacOf 384 128 (sumOf 384 key) text = hmacOf 384 128 key text := by
    unfold hmacOf keyOf
    rw [if_pos hk, if_neg (by rw [hds]; decide)]
  obtain ⟨D, hD⟩ : ∃ D, D = sumOf 384 key := ⟨_, rfl⟩
  rw [← hD] at HR hds he
  have HS2 := Lib.hid (fun (X : World) (h : Kon X) => hsum_384 D text (.slice (some ⟨X.heap.size, 0, none⟩) 1 1) (X.alloc (One text)) (h.alloc _) (by omega) (by omega) (one_at (heap_alloc_new X (One text))))
  rw [he] at HS2
  generalize hmacOf 384 128 key text = R at *
  clear h0 h1 hk hds he hD hpj hq
  go_enter Tryd.func8, Tryd.ntmps8
  go_wp2_with fail
  refine (hawake _ (HK.out.alloc _)).mono ?_
  rintro e w1 ⟨rfl, hb1⟩
  have hat := keepBlock HAT.out hb1
  have HB1 := Lib.hid (below_link HB0.out hb1); clear hb1
  have a0 : w1.cell? ⟨w.heap.size, 0, none⟩ = some (.int .u8 (p : Nat)) := cell_of_row _ _ 0 _ _ _ hat
  have a1 : w1.cell? ⟨w.heap.size, 1, none⟩ = some (.int .u8 (q : Nat)) := cell_of_row _ _ 1 _ _ _ hat
  clear hat
  go_wp2_with fail
  refine (HJ.out _).mono ?_
  rintro e w2 ⟨rfl, rfl⟩
  go_wp2_with fail
  refine (rblock_384 _).mono ?_
  rintro e w3 ⟨rfl, rfl⟩
  go_wp2_with fail
  clear a0 a1
  refine (HS.out _ (HK.out.next HB1.out)).mono ?_
  rintro e w4 ⟨rfl, hb4⟩
  have HB4 := Lib.hid (below_link (below_alloc HB1.out _) hb4); clear hb4
  go_wp2_with fail
  refine (HR.out _).mono ?_
  rintro e w5 ⟨rfl, hb5⟩
  have HB5 := Lib.hid (below_link HB4.out hb5); clear hb5
  go_wp2_with fail
  refine (HS2.out _ (HK.out.next HB5.out)).mono ?_
  rintro e w6 ⟨rfl, hb6⟩
  have HB6 := Lib.hid (below_link (below_alloc HB5.out _) hb6); clear hb6
  go_wp2
  go_ret
  exact ⟨rfl, HB6.out⟩

set_option maxHeartbeats 8000000 in
theorem hkeys_512_long (p q : Nat) (key text : ByteArray) (w : World) (hK : Kon w) (hq : q < 256) (hpj : p % 3 = 2) (h0 : key.size ≤ 300) (h1 : text.size ≤ 200) (hk : 128 < key.size) :
    Calls Tryd.prog 8 #[.agg #[.int .u8 (p : Nat), .int .u8 (q : Nat)], .string key, .string text] w fun e w' => e = .returned (.bool true) ∧ Below w.heap.size w w' := by
  have HK := Lib.hid hK; clear hK
  have HB0 := Lib.hid (below_alloc (Below.refl w.heap.size w) (.cells #[.int .u8 (p : Nat), .int .u8 (q : Nat)] 36))
  have HAT := Lib.hid (heap_alloc_new w (.cells #[.int .u8 (p : Nat), .int .u8 (q : Nat)] 36))
  have g0 : ¬ (300 : Int) < (key.size : Int) := by omega
  have g1 : ¬ (200 : Int) < (text.size : Int) := by omega
  have g2 : (128 : Int) < (key.size : Int) := by omega
  have HJ := Lib.hid (fun X => hsize_512 p X hpj)
  have HS := Lib.hid (fun (X : World) (h : Kon X) => hsum_512 key text (.slice (some ⟨X.heap.size, 0, none⟩) 1 1) (X.alloc (One text)) (h.alloc _) (by omega) (by omega) (one_at (heap_alloc_new X (One text))))
  have HR := Lib.hid (fun X => T512.ref key X (by omega))
  have hds := sumOf_size_512 key
  have he : hmacOf 512 128 (sumOf 512 key) text = hmacOf 512 128 key text := by
    unfold hmacOf keyOf
    rw [if_pos hk, if_neg (by rw [hds]; decide)]
  obtain ⟨D, hD⟩ : ∃ D, D = sumOf 512 key := ⟨_, rfl⟩
  rw [← hD] at HR hds he
  have HS2 := Lib.hid (fun (X : World) (h : Kon X) => hsum_512 D text (.slice (some ⟨X.heap.size, 0, none⟩) 1 1) (X.alloc (One text)) (h.alloc _) (by omega) (by omega) (one_at (heap_alloc_new X (One text))))
  rw [he] at HS2
  generalize hmacOf 512 128 key text = R at *
  clear h0 h1 hk hds he hD hpj hq
  go_enter Tryd.func8, Tryd.ntmps8
  go_wp2_with fail
  refine (hawake _ (HK.out.alloc _)).mono ?_
  rintro e w1 ⟨rfl, hb1⟩
  have hat := keepBlock HAT.out hb1
  have HB1 := Lib.hid (below_link HB0.out hb1); clear hb1
  have a0 : w1.cell? ⟨w.heap.size, 0, none⟩ = some (.int .u8 (p : Nat)) := cell_of_row _ _ 0 _ _ _ hat
  have a1 : w1.cell? ⟨w.heap.size, 1, none⟩ = some (.int .u8 (q : Nat)) := cell_of_row _ _ 1 _ _ _ hat
  clear hat
  go_wp2_with fail
  refine (HJ.out _).mono ?_
  rintro e w2 ⟨rfl, rfl⟩
  go_wp2_with fail
  refine (rblock_512 _).mono ?_
  rintro e w3 ⟨rfl, rfl⟩
  go_wp2_with fail
  clear a0 a1
  refine (HS.out _ (HK.out.next HB1.out)).mono ?_
  rintro e w4 ⟨rfl, hb4⟩
  have HB4 := Lib.hid (below_link (below_alloc HB1.out _) hb4); clear hb4
  go_wp2_with fail
  refine (HR.out _).mono ?_
  rintro e w5 ⟨rfl, hb5⟩
  have HB5 := Lib.hid (below_link HB4.out hb5); clear hb5
  go_wp2_with fail
  refine (HS2.out _ (HK.out.next HB5.out)).mono ?_
  rintro e w6 ⟨rfl, hb6⟩
  have HB6 := Lib.hid (below_link (below_alloc HB5.out _) hb6); clear hb6
  go_wp2
  go_ret
  exact ⟨rfl, HB6.out⟩

theorem hkeys_256 (p q : Nat) (key text : ByteArray) (w : World) (hK : Kon w) (hq : q < 256) (hpj : p % 3 = 0) (h0 : key.size ≤ 300) (h1 : text.size ≤ 200) :
    Calls Tryd.prog 8 #[.agg #[.int .u8 (p : Nat), .int .u8 (q : Nat)], .string key, .string text] w fun e w' => e = .returned (.bool true) ∧ Below w.heap.size w w' := by
  by_cases hk : 64 < key.size
  · exact hkeys_256_long p q key text w hK hq hpj h0 h1 hk
  · have hkm : q % (64 - key.size + 1) < 64 - key.size + 1 := Nat.mod_lt _ (by omega)
    have he := same_code 256 64 (q % (64 - key.size + 1)) key text (by omega)
    refine hkeys_short 256 64 p q key text (hmacOf 256 64 key text) w hK hq (by decide) h0 h1 (by omega) (Lib.hid fun X => hsize_256 p X hpj) (Lib.hid fun X => rblock_256 X)
      (Lib.hid fun X g h ht => hsum_256 key text (.slice (some ⟨g, 0, none⟩) 1 1) X h (by omega) (by omega) (one_at ht)) (Lib.hid fun X g h ht => ?_)
    have hs := hsum_256 (longer key (q % (64 - key.size + 1))) text (.slice (some ⟨g, 0, none⟩) 1 1) X h (by rw [longer_size]; omega) (by omega) (one_at ht)
    rw [he] at hs
    exact hs
theorem hkeys_384 (p q : Nat) (key text : ByteArray) (w : World) (hK : Kon w) (hq : q < 256) (hpj : p % 3 = 1) (h0 : key.size ≤ 300) (h1 : text.size ≤ 200) :
    Calls Tryd.prog 8 #[.agg #[.int .u8 (p : Nat), .int .u8 (q : Nat)], .string key, .string text] w fun e w' => e = .returned (.bool true) ∧ Below w.heap.size w w' := by
  by_cases hk : 128 < key.size
  · exact hkeys_384_long p q key text w hK hq hpj h0 h1 hk
  · have hkm : q % (128 - key.size + 1) < 128 - key.size + 1 := Nat.mod_lt _ (by omega)
    have he := same_code 384 128 (q % (128 - key.size + 1)) key text (by omega)
    refine hkeys_short 384 128 p q key text (hmacOf 384 128 key text) w hK hq (by decide) h0 h1 (by omega) (Lib.hid fun X => hsize_384 p X hpj) (Lib.hid fun X => rblock_384 X)
      (Lib.hid fun X g h ht => hsum_384 key text (.slice (some ⟨g, 0, none⟩) 1 1) X h (by omega) (by omega) (one_at ht)) (Lib.hid fun X g h ht => ?_)
    have hs := hsum_384 (longer key (q % (128 - key.size + 1))) text (.slice (some ⟨g, 0, none⟩) 1 1) X h (by rw [longer_size]; omega) (by omega) (one_at ht)
    rw [he] at hs
    exact hs
theorem hkeys_512 (p q : Nat) (key text : ByteArray) (w : World) (hK : Kon w) (hq : q < 256) (hpj : p % 3 = 2) (h0 : key.size ≤ 300) (h1 : text.size ≤ 200) :
    Calls Tryd.prog 8 #[.agg #[.int .u8 (p : Nat), .int .u8 (q : Nat)], .string key, .string text] w fun e w' => e = .returned (.bool true) ∧ Below w.heap.size w w' := by
  by_cases hk : 128 < key.size
  · exact hkeys_512_long p q key text w hK hq hpj h0 h1 hk
  · have hkm : q % (128 - key.size + 1) < 128 - key.size + 1 := Nat.mod_lt _ (by omega)
    have he := same_code 512 128 (q % (128 - key.size + 1)) key text (by omega)
    refine hkeys_short 512 128 p q key text (hmacOf 512 128 key text) w hK hq (by decide) h0 h1 (by omega) (Lib.hid fun X => hsize_512 p X hpj) (Lib.hid fun X => rblock_512 X)
      (Lib.hid fun X g h ht => hsum_512 key text (.slice (some ⟨g, 0, none⟩) 1 1) X h (by omega) (by omega) (one_at ht)) (Lib.hid fun X g h ht => ?_)
    have hs := hsum_512 (longer key (q % (128 - key.size + 1))) text (.slice (some ⟨g, 0, none⟩) 1 1) X h (by rw [longer_size]; omega) (by omega) (one_at ht)
    rw [he] at hs
    exact hs

theorem hkeys_all (p q : Nat) (key text : ByteArray) (w : World) (hp : p < 256) (hq : q < 256) (hK : Kon w) :
    Calls Tryd.prog 8 #[.agg #[.int .u8 (p : Nat), .int .u8 (q : Nat)], .string key, .string text] w fun e w' => e = .returned (.bool true) ∧ Below w.heap.size w w' := by
  by_cases h0 : 300 < key.size
  · exact hkeys_long0 p q key text w hK h0
  by_cases h1 : 200 < text.size
  · exact hkeys_long1 p q key text w hK (by omega) h1
  have h3 : p % 3 = 0 ∨ p % 3 = 1 ∨ p % 3 = 2 := by omega
  rcases h3 with h | h | h
  · exact hkeys_256 p q key text w hK hq h (by omega) (by omega)
  · exact hkeys_384 p q key text w hK hq h (by omega) (by omega)
  · exact hkeys_512 p q key text w hK hq h (by omega) (by omega)

end Go.Proofs.YtfahmbkeibeceaaDoor
