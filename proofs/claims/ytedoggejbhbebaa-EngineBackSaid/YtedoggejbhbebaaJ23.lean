/-
  Joined: Si, Ha. Conditions: as each part says.
-/
import Derived.Test.YtedoggejbhbebaaJ22
import Derived.Lib.BufferWrite

/-
  Contracts of sha.Sum, Block and Size at every size. Conditions: the text is shorter than 2^30 bytes; the table of round constants holds eighty words.
-/
namespace Go.Proofs.Ytedoggejbhbebaa
namespace Dg
open Go.ChangeShapes Go.WideShapes Go.ChangeAt Go.RowKit Go.Great Go.ChangeMaps
open Sha
set_option linter.unusedVariables false
set_option maxRecDepth 100000
variable {KQ : KTab}

/-- The digest of that size. -/
def sumOf (KQ : KTab) (size : Int) (b : ByteArray) : ByteArray :=
  if size = 256 then toB (Sha.digest 32 256 (kAt KQ 32) ini256 (nums b)) else if size = 384 then toB (Sha.digest 64 384 (kAt KQ 64) ini384 (nums b)) else if size = 512 then toB (Sha.digest 64 512 (kAt KQ 64) ini512 (nums b)) else ⟨#[]⟩

theorem sum_256 (b : ByteArray) (w : World) (hb : b.size < 1073741824) (hk : Kon KQ w) :
    Calls Try.prog 57 #[.int .i64 256, .string b] w fun e w' => e = .returned (.string (sumOf KQ 256 b)) ∧ Below w.heap.size w w' := by
  have H := Lib.hid (digest_256 b w hb hk); clear hb hk
  go_enter Try.func57, Try.ntmps57
  go_wp2_with fail
  refine H.out.mono ?_
  rintro e w1 ⟨rfl, hb1⟩
  have HB := Lib.hid hb1; clear hb1
  go_wp2
  go_ret
  exact ⟨rfl, HB.out⟩

theorem sum_384 (b : ByteArray) (w : World) (hb : b.size < 1073741824) (hk : Kon KQ w) :
    Calls Try.prog 57 #[.int .i64 384, .string b] w fun e w' => e = .returned (.string (sumOf KQ 384 b)) ∧ Below w.heap.size w w' := by
  have H := Lib.hid (digest_384 b w hb hk); clear hb hk
  go_enter Try.func57, Try.ntmps57
  go_wp2_with fail
  refine H.out.mono ?_
  rintro e w1 ⟨rfl, hb1⟩
  have HB := Lib.hid hb1; clear hb1
  go_wp2
  go_ret
  exact ⟨rfl, HB.out⟩

theorem sum_512 (b : ByteArray) (w : World) (hb : b.size < 1073741824) (hk : Kon KQ w) :
    Calls Try.prog 57 #[.int .i64 512, .string b] w fun e w' => e = .returned (.string (sumOf KQ 512 b)) ∧ Below w.heap.size w w' := by
  have H := Lib.hid (digest_512 b w hb hk); clear hb hk
  go_enter Try.func57, Try.ntmps57
  go_wp2_with fail
  refine H.out.mono ?_
  rintro e w1 ⟨rfl, hb1⟩
  have HB := Lib.hid hb1; clear hb1
  go_wp2
  go_ret
  exact ⟨rfl, HB.out⟩

theorem sum_other (size : Int) (b : ByteArray) (w : World) (h1 : size ≠ 256) (h2 : size ≠ 384) (h3 : size ≠ 512) :
    Calls Try.prog 57 #[.int .i64 size, .string b] w fun e w' => e = .returned (.string ⟨#[]⟩) ∧ w' = w := by
  have g1 : (size == 256) = false := by simpa using h1
  have g2 : (size == 384) = false := by simpa using h2
  have g3 : (size == 512) = false := by simpa using h3
  go_enter Try.func57, Try.ntmps57
  go_wp2
  go_ret
  exact ⟨rfl, rfl⟩
theorem block_other (size : Int) (w : World) (h1 : size ≠ 256) (h2 : size ≠ 384) (h3 : size ≠ 512) :
    Calls Try.prog 56 #[.int .i64 size] w fun e w' => e = .returned (.int .i64 0) ∧ w' = w := by
  have g1 : (size == 256) = false := by simpa using h1
  have g2 : (size == 384) = false := by simpa using h2
  have g3 : (size == 512) = false := by simpa using h3
  go_enter Try.func56, Try.ntmps56
  go_wp2
  go_ret
  exact ⟨rfl, rfl⟩
theorem size_other (size : Int) (w : World) (h1 : size ≠ 256) (h2 : size ≠ 384) (h3 : size ≠ 512) :
    Calls Try.prog 22 #[.int .i64 size] w fun e w' => e = .returned (.int .i64 0) ∧ w' = w := by
  have g1 : (size == 256) = false := by simpa using h1
  have g2 : (size == 384) = false := by simpa using h2
  have g3 : (size == 512) = false := by simpa using h3
  go_enter Try.func22, Try.ntmps22
  go_wp2
  go_ret
  exact ⟨rfl, rfl⟩

theorem digest_length (w size : Nat) (k : Nat → Nat) (h : St) (s : List Nat) (hs : size / 8 ≤ w / 8 * 8) : (Sha.digest w size k h s).length = size / 8 := by
  unfold Sha.digest
  rw [List.length_take, spelled_length]
  have : (Sha.blocks w k h (padded w s) ((padded w s).length / (2 * w))).list.length = 8 := rfl
  rw [this]
  omega
theorem sumOf_size_256 (b : ByteArray) : (sumOf KQ 256 b).size = 32 := by
  show (toB _).size = 32
  rw [toB_size, digest_length _ _ _ _ _ (by decide)]
theorem sumOf_size_384 (b : ByteArray) : (sumOf KQ 384 b).size = 48 := by
  show (toB _).size = 48
  rw [toB_size, digest_length _ _ _ _ _ (by decide)]
theorem sumOf_size_512 (b : ByteArray) : (sumOf KQ 512 b).size = 64 := by
  show (toB _).size = 64
  rw [toB_size, digest_length _ _ _ _ _ (by decide)]

end Dg
end Go.Proofs.Ytedoggejbhbebaa

/-
  Contracts of hmac.masked, hmac.Same and strings.Join at one part. Conditions: a key of at most a block; texts no longer than memory allows.
-/
namespace Go.Proofs.Ytedoggejbhbebaa
namespace Dg
open Go.ChangeShapes Go.WideShapes Go.ChangeAt Go.RowKit Go.Great Go.ChangeMaps
open Sha
set_option linter.unusedVariables false
set_option maxRecDepth 100000

/-- The key's bytes, zeros behind them, each XORed with the mask. -/
def maskL (n m : Nat) (l : List Nat) : List Nat := (List.range n).map fun i => l.getD i 0 ^^^ m
/-- The first k of them. -/
def maskK (n m : Nat) (l : List Nat) (k : Nat) : List Nat := (List.range n).map fun i => if i < k then l.getD i 0 ^^^ m else l.getD i 0

theorem maskK_length (n m : Nat) (l : List Nat) (k : Nat) : (maskK n m l k).length = n := by simp [maskK]
theorem maskL_length (n m : Nat) (l : List Nat) : (maskL n m l).length = n := by simp [maskL]
theorem maskK_get {n m k j : Nat} {l : List Nat} (h : j < n) : (maskK n m l k)[j]? = some (if j < k then l.getD j 0 ^^^ m else l.getD j 0) := by
  unfold maskK
  rw [List.getElem?_map, List.getElem?_range h]
  rfl
theorem maskK_next {n m k : Nat} {l : List Nat} (h : k < n) : (maskK n m l k).set k (l.getD k 0 ^^^ m) = maskK n m l (k + 1) := by
  apply List.ext_getElem?
  intro j
  rw [List.getElem?_set]
  by_cases hj : j < n
  · rw [maskK_get hj, maskK_get hj]
    by_cases e : k = j
    · subst e
      rw [if_pos rfl, maskK_length, if_pos h, if_pos (by omega)]
    · rw [if_neg e]
      have : (j < k + 1) = (j < k) := by apply propext; omega
      simp only [this]
  · rw [List.getElem?_eq_none (by rw [maskK_length]; omega), List.getElem?_eq_none (by rw [maskK_length]; omega)]
    split
    · rw [if_neg (by rw [maskK_length]; omega)]
    · rfl
theorem maskK_all (n m : Nat) (l : List Nat) : maskK n m l n = maskL n m l := by
  unfold maskK maskL
  apply List.map_congr_left
  intro i hi
  rw [if_pos (List.mem_range.1 hi)]
theorem maskK_zero {n m : Nat} {l : List Nat} (h : l.length ≤ n) : maskK n m l 0 = l ++ List.replicate (n - l.length) 0 := by
  apply List.ext_getElem?
  intro j
  by_cases hj : j < n
  · rw [maskK_get hj, if_neg (by omega), List.getD_eq_getElem?_getD]
    by_cases hl : j < l.length
    · rw [List.getElem?_append_left hl, List.getElem?_eq_getElem hl]; rfl
    · rw [List.getElem?_append_right (by omega), List.getElem?_eq_none (by omega), List.getElem?_replicate, if_pos (by omega)]; rfl
  · rw [List.getElem?_eq_none (by rw [maskK_length]; omega), List.getElem?_eq_none (by simp; omega)]
theorem getD_lt {l : List Nat} (h : ∀ c ∈ l, c < 256) (i : Nat) : l.getD i 0 < 256 := by
  rw [List.getD_eq_getElem?_getD]
  by_cases hi : i < l.length
  · rw [List.getElem?_eq_getElem hi]; exact h _ (List.getElem_mem hi)
  · rw [List.getElem?_eq_none (by omega)]; decide
theorem maskL_lt {n m : Nat} {l : List Nat} (h : ∀ c ∈ l, c < 256) (hm : m < 256) : ∀ c ∈ maskL n m l, c < 256 := by
  intro c hc
  unfold maskL at hc
  obtain ⟨i, -, rfl⟩ := List.mem_map.1 hc
  exact Nat.xor_lt_two_pow (n := 8) (getD_lt h i) hm

/-- A row of zero bytes made. -/
theorem made_row (n : Nat) (hn : n ≤ 1073741824) (X : World) :
    (Instr.makeSlice 97 (.int .i64 (n : Nat)) (.int .i64 (n : Nat))).run Try.prog X = .ok (.slice (some ⟨X.heap.size, 0, none⟩) n n) (X.alloc (.cells (valsK .u8 (List.replicate n 0)) 5)) := by
  obtain ⟨i0, hi, hz0, hz1, hz2⟩ := info_parts infoByte
  have h := run_make (P := Try.prog) X 97 5 i0 (.int .u8 0) Try.underlying97 hi hz0 .i64 .i64 (n : Int) (n : Int) (by omega) (Int.le_refl _) (by rw [hz2]; omega) (by omega)
  rw [h, hz1, Int.toNat_natCast, Nat.mul_one]
  congr 3
  apply Array.ext'
  rw [show (Value.int .u8 0).cells = #[.int .u8 0] from rfl, toList_madeCells_one]
  simp [valsK]

/-- The key copied into it. -/
theorem key_copied {g n : Nat} {X : World} (key : ByteArray) (h : By g (List.replicate n 0) X) (hl : key.size ≤ n) (ty : TypeId) :
    ∃ W, (Builtin.copy_ #[97, 9] ty #[.slice (some ⟨g, 0, none⟩) n n, .string key]).run Try.prog X = .ok (.int .i64 key.size) W ∧ By g (nums key ++ List.replicate (n - key.size) 0) W ∧ (∀ B a, Below B a X → B ≤ g → Below B a W) := by
  have hr := Lib.run_copy_row_string (P := Try.prog) X 97 9 ty 5 g 0 n n key _ _ Try.underlying97 (by kernel_rfl) h hl (by rw [valsK_size, List.length_replicate]; omega)
  refine ⟨_, hr, ?_, fun B a hb hg => below_setRow hb hg _⟩
  have e : ((valsK .u8 (List.replicate n 0)).toList.take 0 ++ Lib.byteCells key.data.toList ++ (valsK .u8 (List.replicate n 0)).toList.drop (0 + key.size)).toArray = valsK .u8 (nums key ++ List.replicate (n - key.size) 0) := by
    apply Array.ext'
    simp [valsK, Lib.byteCells, nums]
  rw [e]
  exact setRow_heap _ _ _ _ _ _ h

set_option maxHeartbeats 1000000 in
theorem masked_any (key : ByteArray) (n m : Nat) (w : World) (hn : n ≤ 1024) (hm : m < 256) (hl : key.size ≤ n) :
    Calls Try.prog 59 #[.string key, .int .i64 (n : Nat), .int .u8 (m : Nat)] w fun e w' => e = .returned (.string (toB (maskL n m (nums key)))) ∧ Below w.heap.size w w' := by
  have hmk := made_row n (by omega) w
  obtain ⟨W, hcp, hrow, hbel⟩ := key_copied key (heap_alloc_new w (.cells (valsK .u8 (List.replicate n 0)) 5)) hl 3
  have HB := Lib.hid (hbel w.heap.size w (below_alloc (Below.refl _ _) _) (Nat.le_refl _))
  have HR := Lib.hid (show By w.heap.size (maskK n m (nums key) 0) W by rw [maskK_zero (by rw [nums_length]; exact hl), nums_length]; exact hrow)
  have HN := Lib.hid (getD_lt (nums_lt key))
  clear hbel hrow
  have HM := Lib.hid hm; clear hm
  go_enter Try.func59, Try.ntmps59
  go_wp2
  clear hmk hcp
  go_loopw [16] (fun x wr => ∃ k : Nat, k ≤ n ∧ x = .int .i64 (k : Nat) ∧ By w.heap.size (maskK n m (nums key) k) wr ∧ Below w.heap.size w wr) (fun x _ => n - (intOf x).toNat)
  case atStart => exact ⟨0, Nat.zero_le _, rfl, HR.out, HB.out⟩
  case round =>
    obtain ⟨k, hk, rfl, hQ, hB⟩ := hrel
    clear HR HB
    by_cases hlt : k < n
    · obtain ⟨x, hx⟩ : ∃ x, x = (nums key).getD k 0 := ⟨_, rfl⟩
      have hc := hQ.cell (j := k) (x := x) (by rw [maskK_get hlt, if_neg (by omega), hx])
      have hf := hQ.frozen k
      obtain ⟨y, hy⟩ : ∃ y, y = x ^^^ m := ⟨_, rfl⟩
      have hxo := u8_xor_nat x m (by rw [hx]; exact HN.out k) HM.out
      rw [← hy] at hxo
      have HS := Lib.hid (show By w.heap.size (maskK n m (nums key) (k + 1)) (wr.setCell ⟨w.heap.size, k, none⟩ (.int .u8 (y : Nat))) by rw [← maskK_next hlt, ← hx, ← hy]; exact hQ.setE k y)
      have HB := Lib.hid (show Below w.heap.size w (wr.setCell ⟨w.heap.size, k, none⟩ (.int .u8 (y : Nat))) from hB.setCell (Nat.le_refl _) _)
      clear hQ hB hx hy
      go_wp2
      go_roundw
      case rel => exact ⟨k + 1, by omega, by go_num, HS.out, HB.out⟩
      case measure => simp [intOf]; omega
    · obtain rfl : k = n := by omega
      rw [maskK_all] at hQ
      have hb := By.back (l := maskL k m (nums key)) hQ k k (maskL_length _ _ _).symm (maskL_lt (nums_lt key) HM.out)
      have HB := Lib.hid hB
      clear hB hQ
      go_wp2
      go_ret
      exact ⟨rfl, HB.out⟩

theorem join_one (g o c : Nat) (t : ByteArray) (w : World) (h : w.cell? ⟨g, o, none⟩ = some (.string t)) :
    Calls Try.prog 58 #[.slice (some ⟨g, o, none⟩) 1 c, .string ⟨#[]⟩] w fun e w' => e = .returned (.string t) ∧ w' = w := by
  go_enter Try.func58, Try.ntmps58
  go_wp2
  go_ret
  exact ⟨rfl, rfl⟩

/-- What tells two texts apart, in the first i bytes. -/
def differ (a b : List Nat) : Nat → Nat
  | 0 => 0
  | i + 1 => differ a b i ||| (a.getD i 0 ^^^ b.getD i 0)
theorem differ_lt {a b : List Nat} (ha : ∀ c ∈ a, c < 256) (hb : ∀ c ∈ b, c < 256) (i : Nat) : differ a b i < 256 := by
  induction i with
  | zero => exact Nat.zero_lt_succ _
  | succ i ih => exact Nat.or_lt_two_pow (n := 8) ih (Nat.xor_lt_two_pow (n := 8) (getD_lt ha i) (getD_lt hb i))
theorem xor_zero_iff (x y : Nat) : x ^^^ y = 0 ↔ x = y := by
  constructor
  · intro h
    have := congrArg (fun z => z ^^^ y) h
    simpa [Nat.xor_assoc] using this
  · rintro rfl; exact Nat.xor_self x
theorem differ_zero {a b : List Nat} (i : Nat) : differ a b i = 0 ↔ ∀ j < i, a.getD j 0 = b.getD j 0 := by
  induction i with
  | zero => simp [differ]
  | succ i ih =>
    rw [differ, Nat.or_eq_zero_iff, ih, xor_zero_iff]
    constructor
    · rintro ⟨h1, h2⟩ j hj
      by_cases e : j = i
      · subst e; exact h2
      · exact h1 j (by omega)
    · intro h
      exact ⟨fun j hj => h j (by omega), h i (by omega)⟩

theorem differ_all {a b : ByteArray} (hs : a.size = b.size) : differ (nums a) (nums b) a.size = 0 ↔ a = b := by
  rw [differ_zero]
  constructor
  · intro h
    have e : nums a = nums b := by
      apply List.ext_getElem?
      intro j
      by_cases hj : j < a.size
      · have := h j hj
        rw [List.getD_eq_getElem?_getD, List.getD_eq_getElem?_getD, nums_get a j hj, nums_get b j (by omega)] at this
        rw [nums_get a j hj, nums_get b j (by omega)]
        exact congrArg some this
      · rw [List.getElem?_eq_none (by rw [nums_length]; omega), List.getElem?_eq_none (by rw [nums_length]; omega)]
    have e2 := congrArg toB e
    have tn : ∀ x : ByteArray, toB (nums x) = x := by
      intro x
      apply ByteArray.ext
      apply Array.ext'
      show (x.data.toList.map UInt8.toNat).map UInt8.ofNat = x.data.toList
      rw [List.map_map]
      conv => rhs; rw [← List.map_id x.data.toList]
      apply List.map_congr_left
      intro z _
      simp
    rwa [tn, tn] at e2
  · rintro rfl j _; rfl

set_option maxHeartbeats 1000000 in
theorem same_any (a b : ByteArray) (w : World) (ha : a.size ≤ 1073741824) (hb : b.size ≤ 1073741824) :
    Calls Try.prog 49 #[.string a, .string b] w fun e w' => e = .returned (.bool (decide (a = b))) ∧ Below w.heap.size w w' := by
  by_cases hs : a.size = b.size
  · have HD := Lib.hid (differ_all hs)
    obtain ⟨n, hn⟩ : ∃ n, n = a.size := ⟨_, rfl⟩
    have hna : (a.size : Int) = (n : Int) := by omega
    have hnb : (b.size : Int) = (n : Int) := by omega
    have HA := Lib.hid (differ_lt (nums_lt a) (nums_lt b))
    have HS := Lib.hid (And.intro hn (And.intro hs ha))
    have hnl : n ≤ 1073741824 := by omega
    clear hs hn ha hb
    go_enter Try.func49, Try.ntmps49
    go_wp2
    go_loopw [5, 14] (fun d x wr => ∃ k : Nat, k ≤ n ∧ x = .int .i64 (k : Nat) ∧ d = .int .u8 (differ (nums a) (nums b) k : Nat) ∧ Below w.heap.size w wr) (fun _ x _ => n - (intOf x).toNat)
    case atStart => exact ⟨0, Nat.zero_le _, rfl, rfl, Below.refl _ _⟩
    case round =>
      obtain ⟨k, hk, rfl, rfl, hB⟩ := hrel
      by_cases hlt : k < n
      · obtain ⟨x, hx⟩ : ∃ x, x = (nums a).getD k 0 := ⟨_, rfl⟩
        obtain ⟨y, hy⟩ : ∃ y, y = (nums b).getD k 0 := ⟨_, rfl⟩
        have hka : k < a.size := by have := HS.out.1; omega
        have hkb : k < b.size := by have := HS.out; omega
        have xa : (a[k].toNat : Int) = (x : Int) := by rw [hx, List.getD_eq_getElem?_getD, nums_get a k hka]; rfl
        have xb : (b[k].toNat : Int) = (y : Int) := by rw [hy, List.getD_eq_getElem?_getD, nums_get b k hkb]; rfl
        have xl : x < 256 := by rw [hx]; exact getD_lt (nums_lt a) k
        have yl : y < 256 := by rw [hy]; exact getD_lt (nums_lt b) k
        have e1 := u8_xor_nat x y xl yl
        obtain ⟨d, hd⟩ : ∃ d, d = differ (nums a) (nums b) k := ⟨_, rfl⟩
        have e2 := u8_or_nat d (x ^^^ y) (by rw [hd]; exact HA.out k) (Nat.xor_lt_two_pow (n := 8) xl yl)
        have hnx : differ (nums a) (nums b) (k + 1) = d ||| (x ^^^ y) := by rw [hd, hx, hy]; rfl
        obtain ⟨z, hz⟩ : ∃ z, z = x ^^^ y := ⟨_, rfl⟩
        rw [← hz] at e1 e2 hnx
        obtain ⟨u, hu⟩ : ∃ u, u = d ||| z := ⟨_, rfl⟩
        rw [← hu] at e2 hnx
        rw [← hd]
        have HNX := Lib.hid hnx
        have HB := Lib.hid hB
        clear hx hy hd hz hu hnx xl yl hB
        go_wp2
        go_region
        all_goals (go_wp2; go_roundw)
        all_goals first
          | exact ⟨k + 1, by omega, by go_num, by rw [HNX.out], HB.out.drew⟩
          | (simp [intOf]; omega)
      · obtain rfl : k = n := by omega
        have hD := HD.out
        rw [← HS.out.1] at hD
        have HB := Lib.hid hB; clear hB
        obtain ⟨d, hd⟩ : ∃ d, d = differ (nums a) (nums b) k := ⟨_, rfl⟩
        rw [← hd] at hD ⊢
        have g3 : ((d : Int) == 0) = decide (a = b) := by
          by_cases e : a = b
          · have := hD.2 e; simp [this, e]
          · have : d ≠ 0 := fun x => e (hD.1 x)
            simp [this, e]
        have g4 : decide ((d : Int) = 0) = decide (a = b) := by
          by_cases e : a = b
          · have := hD.2 e; simp [this, e]
          · have : d ≠ 0 := fun x => e (hD.1 x)
            simp [this, e]
        obtain ⟨r, hr⟩ : ∃ r, r = decide (a = b) := ⟨_, rfl⟩
        rw [← hr] at g3 g4
        have HRR := Lib.hid hr
        clear hD hd hlt hr
        go_wp2
        go_ret
        exact ⟨congrArg (fun r => Ending.returned (.bool r)) HRR.out, HB.out⟩
  · have g1 : ((a.size : Int) == (b.size : Int)) = false := beq_eq_false_iff_ne.2 (by omega)
    have g2 : ¬ (a.size : Int) = (b.size : Int) := by omega
    have hab : decide (a = b) = false := by simp; rintro rfl; exact hs rfl
    rw [hab]
    clear hs hab
    go_enter Try.func49, Try.ntmps49
    go_wp2
    go_ret
    exact ⟨rfl, Below.refl _ _⟩

end Dg
end Go.Proofs.Ytedoggejbhbebaa
