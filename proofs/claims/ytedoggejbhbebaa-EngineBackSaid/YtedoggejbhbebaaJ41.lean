/-
  Joined: Pm. Conditions: as each part says.
-/
import Derived.Test.YtedoggejbhbebaaJ31
import Derived.RegionTactic
import Derived.Test.YtedoggejbhbebaaJ39
import Derived.Test.YtedoggejbhbebaaJ40

/-
  Contracts of gcm.Seal and gcm.Open. Conditions: stated with each.
-/
/-
  Contract of hmac.Same. Conditions: the texts are shorter than 2^30 bytes.
-/
namespace Go.Proofs.Ytedoggejbhbebaa
namespace Gcm
open Go.ChangeShapes Go.WideShapes Go.ChangeAt Go.RowKit Go.Great Go.ChangeMaps
open Gf Aes
set_option linter.unusedVariables false
set_option maxRecDepth 100000

/-- What tells two texts apart, in the first i bytes. -/
def differ (a b : List Nat) : Nat → Nat
  | 0 => 0
  | i + 1 => differ a b i ||| (a.getD i 0 ^^^ b.getD i 0)
theorem differ_lt {a b : List Nat} (ha : ∀ c ∈ a, c < 256) (hb : ∀ c ∈ b, c < 256) (i : Nat) : differ a b i < 256 := by
  induction i with
  | zero => exact Nat.zero_lt_succ _
  | succ i ih => exact Nat.or_lt_two_pow (n := 8) ih (Nat.xor_lt_two_pow (n := 8) (getD_lt ha i) (getD_lt hb i))
theorem xor_zero_iff (x y : Nat) : x ^^^ y = 0 ↔ x = y := by
  constructor
  · intro h
    have := congrArg (fun z => z ^^^ y) h
    simpa [Nat.xor_assoc] using this
  · rintro rfl; exact Nat.xor_self x
theorem differ_zero {a b : List Nat} (i : Nat) : differ a b i = 0 ↔ ∀ j < i, a.getD j 0 = b.getD j 0 := by
  induction i with
  | zero => simp [differ]
  | succ i ih =>
    rw [differ, Nat.or_eq_zero_iff, ih, xor_zero_iff]
    constructor
    · rintro ⟨h1, h2⟩ j hj
      by_cases e : j = i
      · subst e; exact h2
      · exact h1 j (by omega)
    · intro h
      exact ⟨fun j hj => h j (by omega), h i (by omega)⟩

theorem differ_all {a b : ByteArray} (hs : a.size = b.size) : differ (nums a) (nums b) a.size = 0 ↔ a = b := by
  rw [differ_zero]
  constructor
  · intro h
    have e : nums a = nums b := by
      apply List.ext_getElem?
      intro j
      by_cases hj : j < a.size
      · have := h j hj
        rw [List.getD_eq_getElem?_getD, List.getD_eq_getElem?_getD, nums_get a j hj, nums_get b j (by omega)] at this
        rw [nums_get a j hj, nums_get b j (by omega)]
        exact congrArg some this
      · rw [List.getElem?_eq_none (by rw [nums_length]; omega), List.getElem?_eq_none (by rw [nums_length]; omega)]
    have e2 := congrArg toB e
    have tn : ∀ x : ByteArray, toB (nums x) = x := by
      intro x
      apply ByteArray.ext
      apply Array.ext'
      show (x.data.toList.map UInt8.toNat).map UInt8.ofNat = x.data.toList
      rw [List.map_map]
      conv => rhs; rw [← List.map_id x.data.toList]
      apply List.map_congr_left
      intro z _
      simp
    rwa [tn, tn] at e2
  · rintro rfl j _; rfl

set_option maxHeartbeats 1000000 in
theorem same_any (a b : ByteArray) (w : World) (ha : a.size ≤ 1073741824) (hb : b.size ≤ 1073741824) :
    Calls Try.prog 49 #[.string a, .string b] w fun e w' => e = .returned (.bool (decide (a = b))) ∧ Below w.heap.size w w' := by
  by_cases hs : a.size = b.size
  · have HD := Lib.hid (differ_all hs)
    obtain ⟨n, hn⟩ : ∃ n, n = a.size := ⟨_, rfl⟩
    have hna : (a.size : Int) = (n : Int) := by omega
    have hnb : (b.size : Int) = (n : Int) := by omega
    have HA := Lib.hid (differ_lt (nums_lt a) (nums_lt b))
    have HS := Lib.hid (And.intro hn (And.intro hs ha))
    have hnl : n ≤ 1073741824 := by omega
    clear hs hn ha hb
    go_enter Try.func49, Try.ntmps49
    go_wp2
    go_loopw [5, 14] (fun d x wr => ∃ k : Nat, k ≤ n ∧ x = .int .i64 (k : Nat) ∧ d = .int .u8 (differ (nums a) (nums b) k : Nat) ∧ Below w.heap.size w wr) (fun _ x _ => n - (intOf x).toNat)
    case atStart => exact ⟨0, Nat.zero_le _, rfl, rfl, Below.refl _ _⟩
    case round =>
      obtain ⟨k, hk, rfl, rfl, hB⟩ := hrel
      by_cases hlt : k < n
      · obtain ⟨x, hx⟩ : ∃ x, x = (nums a).getD k 0 := ⟨_, rfl⟩
        obtain ⟨y, hy⟩ : ∃ y, y = (nums b).getD k 0 := ⟨_, rfl⟩
        have hka : k < a.size := by have := HS.out.1; omega
        have hkb : k < b.size := by have := HS.out; omega
        have xa : (a[k].toNat : Int) = (x : Int) := by rw [hx, List.getD_eq_getElem?_getD, nums_get a k hka]; rfl
        have xb : (b[k].toNat : Int) = (y : Int) := by rw [hy, List.getD_eq_getElem?_getD, nums_get b k hkb]; rfl
        have xl : x < 256 := by rw [hx]; exact getD_lt (nums_lt a) k
        have yl : y < 256 := by rw [hy]; exact getD_lt (nums_lt b) k
        have e1 := u8_xor_nat x y xl yl
        obtain ⟨d, hd⟩ : ∃ d, d = differ (nums a) (nums b) k := ⟨_, rfl⟩
        have e2 := u8_or_nat d (x ^^^ y) (by rw [hd]; exact HA.out k) (Nat.xor_lt_two_pow (n := 8) xl yl)
        have hnx : differ (nums a) (nums b) (k + 1) = d ||| (x ^^^ y) := by rw [hd, hx, hy]; rfl
        obtain ⟨z, hz⟩ : ∃ z, z = x ^^^ y := ⟨_, rfl⟩
        rw [← hz] at e1 e2 hnx
        obtain ⟨u, hu⟩ : ∃ u, u = d ||| z := ⟨_, rfl⟩
        rw [← hu] at e2 hnx
        rw [← hd]
        have HNX := Lib.hid hnx
        have HB := Lib.hid hB
        clear hx hy hd hz hu hnx xl yl hB
        go_wp2
        go_region
        all_goals (go_wp2; go_roundw)
        all_goals first
          | exact ⟨k + 1, by omega, by go_num, by rw [HNX.out], HB.out.drew⟩
          | (simp [intOf]; omega)
      · obtain rfl : k = n := by omega
        have hD := HD.out
        rw [← HS.out.1] at hD
        have HB := Lib.hid hB; clear hB
        obtain ⟨d, hd⟩ : ∃ d, d = differ (nums a) (nums b) k := ⟨_, rfl⟩
        rw [← hd] at hD ⊢
        have g3 : ((d : Int) == 0) = decide (a = b) := by
          by_cases e : a = b
          · have := hD.2 e; simp [this, e]
          · have : d ≠ 0 := fun x => e (hD.1 x)
            simp [this, e]
        have g4 : decide ((d : Int) = 0) = decide (a = b) := by
          by_cases e : a = b
          · have := hD.2 e; simp [this, e]
          · have : d ≠ 0 := fun x => e (hD.1 x)
            simp [this, e]
        obtain ⟨r, hr⟩ : ∃ r, r = decide (a = b) := ⟨_, rfl⟩
        rw [← hr] at g3 g4
        have HRR := Lib.hid hr
        clear hD hd hlt hr
        go_wp2
        go_ret
        exact ⟨congrArg (fun r => Ending.returned (.bool r)) HRR.out, HB.out⟩
  · have g1 : ((a.size : Int) == (b.size : Int)) = false := beq_eq_false_iff_ne.2 (by omega)
    have g2 : ¬ (a.size : Int) = (b.size : Int) := by omega
    have hab : decide (a = b) = false := by simp; rintro rfl; exact hs rfl
    rw [hab]
    clear hs hab
    go_enter Try.func49, Try.ntmps49
    go_wp2
    go_ret
    exact ⟨rfl, Below.refl _ _⟩


end Gcm
end Go.Proofs.Ytedoggejbhbebaa

namespace Go.Proofs.Ytedoggejbhbebaa
namespace Gcm
open Go.ChangeShapes Go.WideShapes Go.ChangeAt Go.RowKit Go.Great Go.ChangeMaps
open Gf Aes
set_option linter.unusedVariables false
set_option maxRecDepth 100000

/-- A text turned with the stream, as a text; the tag. -/
def turnB (n : Nat) (key nonce t : ByteArray) : ByteArray := toB (turnL (encL n key) (firstL (encL n key zeros16) (nums nonce)) (nums t))
def tagB (n : Nat) (key nonce s t : ByteArray) : ByteArray := blockB (hashN (hashKey n key) (nums s) (nums t) ^^^ encN n key (firstN n key nonce))
theorem bytes_first (n : Nat) (key nonce : ByteArray) : bytes 16 (firstN n key nonce) = firstL (encL n key zeros16) (nums nonce) := by
  have := bytes_big (firstL (encL n key zeros16) (nums nonce)) (firstL_small (nums_lt nonce))
  rw [firstL_length] at this
  exact this
theorem turnB_size (n : Nat) (key nonce t : ByteArray) : (turnB n key nonce t).size = t.size := by
  unfold turnB
  rw [toB_size, turnL_length (encL_ok n key) (firstL_length _ _) (firstL_small (nums_lt nonce)), nums_length]
theorem nums_turnB (n : Nat) (key nonce t : ByteArray) : nums (turnB n key nonce t) = turnL (encL n key) (firstL (encL n key zeros16) (nums nonce)) (nums t) :=
  nums_toB _ (turnL_small (encL_ok n key) (firstL_length _ _) (firstL_small (nums_lt nonce)) (nums_lt t))
theorem turnB_turnB (n : Nat) (key nonce t : ByteArray) : turnB n key nonce (turnB n key nonce t) = t := by
  show toB (turnL _ _ (nums (turnB n key nonce t))) = t
  rw [nums_turnB, turnL_turnL (encL_ok n key) (firstL_length _ _) (firstL_small (nums_lt nonce)), toB_nums]
theorem tagB_size (n : Nat) (key nonce s t : ByteArray) : (tagB n key nonce s t).size = 16 := blockB_size _

set_option maxHeartbeats 8000000 in
theorem seal_ok (n : Nat) (key nonce s t : ByteArray) (w : World) (hn : n = 4 ∨ n = 8) (hk : key.size = 4 * n) (h8 : 8 ≤ nonce.size) (h16 : nonce.size ≤ 16) (hs : s.size ≤ 1073741824) (ht : t.size ≤ 1073741824) :
    Calls Try.prog 51 #[.string key, .string nonce, .string s, .string t] w fun e w' => e = .returned (.tuple #[.string (turnB n key nonce t), .string (tagB n key nonce s (turnB n key nonce t)), .int .i64 0]) ∧ Below w.heap.size w w' := by
  have H := Lib.hid (And.intro hn (And.intro hs ht))
  go_enter Try.func51, Try.ntmps51
  go_wp2_with fail
  refine (newLock_ok n key nonce _ hn hk h8 h16).mono ?_
  rintro e w1 ⟨p, a, b, c, d, la, lb, lc, ld, eab, ecd, hK, rfl, hb1⟩
  obtain ⟨gL, hgL⟩ : ∃ gL, gL = w1.heap.size := ⟨_, rfl⟩
  have hrow := heap_alloc_new w1 (.cells #[.pointer (some ⟨p, 0, none⟩), .int .u64 (a : Nat), .int .u64 (b : Nat), .int .u64 (c : Nat), .int .u64 (d : Nat)] 84)
  have hK1 := hK.next (below_alloc (Below.refl _ _) (.cells #[.pointer (some ⟨p, 0, none⟩), .int .u64 (a : Nat), .int .u64 (b : Nat), .int .u64 (c : Nat), .int .u64 (d : Nat)] 84))
  have hb2 := below_alloc hb1 (.cells #[.pointer (some ⟨p, 0, none⟩), .int .u64 (a : Nat), .int .u64 (b : Nat), .int .u64 (c : Nat), .int .u64 (d : Nat)] 84)
  rw [← hgL] at hrow
  have HA := Lib.hid (And.intro la (And.intro lb (And.intro lc (And.intro ld (And.intro eab ecd)))))
  have HR := Lib.hid (And.intro hrow (And.intro hK1 hb2))
  have hgL' := hgL.symm
  clear la lb lc ld eab ecd hK hb1 hrow hK1 hb2 hgL hn hk h8 h16 hs ht
  go_wp2_with fail
  refine (masked_any p n key a b c d t _ H.out.1 HR.out.2.1 HA.out.2.2.1 HA.out.2.2.2.1 H.out.2.2).mono ?_
  rintro e w2 ⟨rfl, hb3⟩
  have hL2 : L5 gL p a b c d w2 := keepBlock HR.out.1 hb3
  have hK2 := HR.out.2.1.next hb3
  have HR2 := Lib.hid (And.intro hK2 (below_link HR.out.2.2 hb3))
  obtain ⟨c0, c1, c2, c3, c4⟩ := hL2.cells
  obtain ⟨S, hS⟩ : ∃ S, S = toB (turnL (encL n key) (bytes 16 (whole c d)) (nums t)) := ⟨_, rfl⟩
  rw [← hS]
  have hS2 : S = turnB n key nonce t := by rw [hS, HA.out.2.2.2.2.2, bytes_first]; rfl
  have HS := Lib.hid hS2
  clear hb3 hL2 hK2 hS hS2
  go_wp2_with fail
  refine (tag_any p n key a b c d s S _ H.out.1 HR2.out.1 HA.out.1 HA.out.2.1 HA.out.2.2.1 HA.out.2.2.2.1 H.out.2.1 (by rw [HS.out, turnB_size]; exact H.out.2.2)).mono ?_
  rintro e w3 ⟨rfl, hb4⟩
  have HB := Lib.hid (below_link HR2.out.2 hb4)
  obtain ⟨T, hT⟩ : ∃ T, T = blockB (hashN (whole a b) (nums s) (nums S) ^^^ encN n key (whole c d)) := ⟨_, rfl⟩
  rw [← hT]
  have hT2 : T = tagB n key nonce s (turnB n key nonce t) := by rw [hT, HA.out.2.2.2.2.1, HA.out.2.2.2.2.2, HS.out]; rfl
  have HT := Lib.hid hT2
  clear hb4 hT hT2 c0 c1 c2 c3 c4
  go_wp2
  go_ret3
  exact ⟨by rw [← HT.out, ← HS.out]; rfl, HB.out⟩

set_option maxHeartbeats 4000000 in
theorem seal_none (key nonce s t : ByteArray) (w : World) (h : (key.size ≠ 16 ∧ key.size ≠ 32) ∨ nonce.size < 8 ∨ 16 < nonce.size) :
    Calls Try.prog 51 #[.string key, .string nonce, .string s, .string t] w fun e w' => e = .returned (.tuple #[.string ⟨#[]⟩, .string ⟨#[]⟩, .int .i64 1]) ∧ Below w.heap.size w w' := by
  have H := Lib.hid h
  clear h
  go_enter Try.func51, Try.ntmps51
  go_wp2_with fail
  refine (newLock_none key nonce _ H.out).mono ?_
  rintro e w1 ⟨rfl, hb1⟩
  have HB := Lib.hid (below_alloc hb1 (.cells #[.pointer none, .int .u64 0, .int .u64 0, .int .u64 0, .int .u64 0] 84))
  clear hb1
  go_wp2
  go_ret3
  exact ⟨rfl, HB.out⟩

set_option maxHeartbeats 4000000 in
theorem open_none (key nonce s t g : ByteArray) (w : World) (h : (key.size ≠ 16 ∧ key.size ≠ 32) ∨ nonce.size < 8 ∨ 16 < nonce.size) :
    Calls Try.prog 50 #[.string key, .string nonce, .string s, .string t, .string g] w fun e w' => e = .returned (.tuple #[.string ⟨#[]⟩, .int .i64 1]) ∧ Below w.heap.size w w' := by
  have H := Lib.hid h
  clear h
  go_enter Try.func50, Try.ntmps50
  go_wp2_with fail
  refine (newLock_none key nonce _ H.out).mono ?_
  rintro e w1 ⟨rfl, hb1⟩
  have HB := Lib.hid (below_alloc hb1 (.cells #[.pointer none, .int .u64 0, .int .u64 0, .int .u64 0, .int .u64 0] 84))
  clear hb1
  go_wp2
  go_ret2
  exact ⟨rfl, HB.out⟩

/-- What Open answers where the key and the nonce are permitted. -/
def openV (n : Nat) (key nonce s t g : ByteArray) : Value := if g = tagB n key nonce s t then .tuple #[.string (turnB n key nonce t), .int .i64 0] else .tuple #[.string ⟨#[]⟩, .int .i64 7]

set_option maxHeartbeats 8000000 in
theorem open_ok (n : Nat) (key nonce s t g : ByteArray) (w : World) (hn : n = 4 ∨ n = 8) (hk : key.size = 4 * n) (h8 : 8 ≤ nonce.size) (h16 : nonce.size ≤ 16) (hs : s.size ≤ 1073741824) (ht : t.size ≤ 1073741824) (hg : g.size ≤ 1073741824) :
    Calls Try.prog 50 #[.string key, .string nonce, .string s, .string t, .string g] w fun e w' => e = .returned (openV n key nonce s t g) ∧ Below w.heap.size w w' := by
  have H := Lib.hid (And.intro hn (And.intro hs (And.intro ht hg)))
  go_enter Try.func50, Try.ntmps50
  go_wp2_with fail
  refine (newLock_ok n key nonce _ hn hk h8 h16).mono ?_
  rintro e w1 ⟨p, a, b, c, d, la, lb, lc, ld, eab, ecd, hK, rfl, hb1⟩
  obtain ⟨gL, hgL⟩ : ∃ gL, gL = w1.heap.size := ⟨_, rfl⟩
  have hrow := heap_alloc_new w1 (.cells #[.pointer (some ⟨p, 0, none⟩), .int .u64 (a : Nat), .int .u64 (b : Nat), .int .u64 (c : Nat), .int .u64 (d : Nat)] 84)
  have hK1 := hK.next (below_alloc (Below.refl _ _) (.cells #[.pointer (some ⟨p, 0, none⟩), .int .u64 (a : Nat), .int .u64 (b : Nat), .int .u64 (c : Nat), .int .u64 (d : Nat)] 84))
  have hb2 := below_alloc hb1 (.cells #[.pointer (some ⟨p, 0, none⟩), .int .u64 (a : Nat), .int .u64 (b : Nat), .int .u64 (c : Nat), .int .u64 (d : Nat)] 84)
  rw [← hgL] at hrow
  have HA := Lib.hid (And.intro la (And.intro lb (And.intro lc (And.intro ld (And.intro eab ecd)))))
  have HR := Lib.hid (And.intro hrow (And.intro hK1 hb2))
  have hgL' := hgL.symm
  clear la lb lc ld eab ecd hK hb1 hrow hK1 hb2 hgL hn hk h8 h16 hs ht hg
  go_wp2_with fail
  refine (tag_any p n key a b c d s t _ H.out.1 HR.out.2.1 HA.out.1 HA.out.2.1 HA.out.2.2.1 HA.out.2.2.2.1 H.out.2.1 H.out.2.2.1).mono ?_
  rintro e w3 ⟨rfl, hb4⟩
  have hL2 : L5 gL p a b c d w3 := keepBlock HR.out.1 hb4
  have hK2 := HR.out.2.1.next hb4
  have HB := Lib.hid (And.intro hL2 (And.intro hK2 (below_link HR.out.2.2 hb4)))
  obtain ⟨T, hT⟩ : ∃ T, T = blockB (hashN (whole a b) (nums s) (nums t) ^^^ encN n key (whole c d)) := ⟨_, rfl⟩
  rw [← hT]
  have hT2 : T = tagB n key nonce s t := by rw [hT, HA.out.2.2.2.2.1, HA.out.2.2.2.2.2]; rfl
  have HT := Lib.hid hT2
  clear hb4 hT hT2 hL2 hK2
  go_wp2_with fail
  refine (same_any g T _ H.out.2.2.2 (by rw [HT.out, tagB_size]; decide)).mono ?_
  rintro e w5 ⟨rfl, hb5⟩
  have hL5 : L5 gL p a b c d w5 := keepBlock HB.out.1 hb5
  have hK5 := HB.out.2.1.next hb5
  have HB5 := Lib.hid (And.intro hK5 (below_link HB.out.2.2 hb5))
  obtain ⟨c0, c1, c2, c3, c4⟩ := hL5.cells
  clear hb5 hL5 hK5
  by_cases hgT : g = T
  · have hd : decide (g = T) = true := decide_eq_true hgT
    have hv : openV n key nonce s t g = .tuple #[.string (turnB n key nonce t), .int .i64 0] := by unfold openV; rw [if_pos (hgT.trans HT.out)]
    have HV := Lib.hid hv
    clear hgT hv
    rw [hd]
    go_wp2_with fail
    refine (masked_any p n key a b c d t _ H.out.1 HB5.out.1 HA.out.2.2.1 HA.out.2.2.2.1 H.out.2.2.1).mono ?_
    rintro e w2 ⟨rfl, hb3⟩
    have HF := Lib.hid (below_link HB5.out.2 hb3)
    obtain ⟨S, hS⟩ : ∃ S, S = toB (turnL (encL n key) (bytes 16 (whole c d)) (nums t)) := ⟨_, rfl⟩
    rw [← hS]
    have hS2 : S = turnB n key nonce t := by rw [hS, HA.out.2.2.2.2.2, bytes_first]; rfl
    have HS := Lib.hid hS2
    clear hb3 hS hS2 c0 c1 c2 c3 c4
    go_wp2
    go_ret2
    exact ⟨by rw [HV.out, ← HS.out]; rfl, HF.out⟩
  · have hd : decide (g = T) = false := decide_eq_false hgT
    have hv : openV n key nonce s t g = .tuple #[.string ⟨#[]⟩, .int .i64 7] := by unfold openV; rw [if_neg (fun e => hgT (e.trans HT.out.symm))]
    have HV := Lib.hid hv
    clear hgT hv c0 c1 c2 c3 c4
    rw [hd]
    go_wp2
    go_ret2
    exact ⟨by rw [HV.out]; rfl, HB5.out.2⟩

end Gcm
end Go.Proofs.Ytedoggejbhbebaa
