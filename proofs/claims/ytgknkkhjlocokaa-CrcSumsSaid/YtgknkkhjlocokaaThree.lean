/-
  For every three texts CrcThree returns true: of three texts of one length the exclusive or of the sums is the sum of the texts' exclusive or. Conditions: none.
-/
import Derived.Test.YtgknkkhjlocokaaB
import Derived.RegionTactic
import Derived.ChangeAlike
import Derived.ChangeMaps5
namespace Go.Proofs.Ytgknkkhjlocokaa
open Go.ChangeShapes Go.WideShapes Go.ChangeAt Go.RowKit Go.ChangeMaps
open Crc
set_option linter.unusedVariables false

theorem Try.info5 : (Try.prog.info? 5).map (fun i => (i.zero, i.size, i.bytes)) = some (some (.int .u8 0), 1, 1) := by kernel_rfl

/-- The row in the making: below k it holds x. -/
structure Row3 (w : World) (n : Nat) (x : Nat → Nat) (k : Nat) (wr : World) : Prop where
  row : ∃ ys, wr.ownsRow w.heap.size 5 1 (.slice (some ⟨w.heap.size, 0, none⟩) n n) n ys ∧ ∀ j, j < n → ys[j]? = some (.int .u8 (if j < k then x j else 0 : Nat))
  below : Below w.heap.size w wr

theorem Row3.start {w w' : World} {n : Nat} {x : Nat → Nat} (hown : w'.ownsRow w.heap.size 5 1 (.slice (some ⟨w.heap.size, 0, none⟩) n n) n (madeCells (Value.int .u8 0).cells (n * 1)).toList) (hgrow : w.grownBy w' none) : Row3 w n x 0 w' := by
  refine ⟨⟨_, hown, fun j hj => ?_⟩, (Below.refl _ _).grown hgrow (Nat.le_refl _) (fun k hk => by cases hk)⟩
  have e : (Value.int .u8 0).cells = #[.int .u8 0] := rfl
  rw [e, toList_madeCells_one, Nat.mul_one]
  simp [hj]

theorem Row3.cell {w wr : World} {n k : Nat} {x : Nat → Nat} (h : Row3 w n x k wr) (hk : k < n) : wr.cell? ⟨w.heap.size, k, none⟩ = some (.int .u8 0) := by
  obtain ⟨ys, hown, hys⟩ := h.row
  rw [hown.cellAt k (by omega), hys k hk]
  simp

theorem Row3.frozen {w wr : World} {n k : Nat} {x : Nat → Nat} (h : Row3 w n x k wr) : wr.frozen? ⟨w.heap.size, k, none⟩ = false := by
  obtain ⟨ys, hown, hys⟩ := h.row
  exact hown.frozenAt k

theorem Row3.step {w wr : World} {n k : Nat} {x : Nat → Nat} (h : Row3 w n x k wr) (hk : k < n) : Row3 w n x (k + 1) (wr.setCell ⟨w.heap.size, k, none⟩ (.int .u8 (x k : Nat))) := by
  obtain ⟨ys, hown, hys⟩ := h.row
  have hst := hown.stored k (.int .u8 (x k : Nat))
  refine ⟨⟨_, hst.1, fun j hj => ?_⟩, h.below.grown hst.2 h.below.size (fun g hg => by cases hg; exact Nat.le_refl _)⟩
  have hl : ys.length = n := by have := hown.1; omega
  rw [List.getElem?_set]
  by_cases e : k = j
  · subst e
    simp [hl, hk]
  · rw [if_neg e, hys j hj]
    have : (j < k + 1) = (j < k) := by apply propext; omega
    simp [this]

theorem Row3.drew {w wr : World} {n k : Nat} {x : Nat → Nat} (h : Row3 w n x k wr) : Row3 w n x k wr.drew :=
  ⟨h.row, h.below.drew⟩

/-- Behind the loop the row is turned into a text. -/
theorem Row3.back {w wr : World} {x : Nat → Nat} {l : List UInt8} (h : Row3 w l.length x l.length wr) (hx : ∀ j (hj : j < l.length), x j = l[j].toNat) :
    (convert 32 9 (.slice (some ⟨w.heap.size, 0, none⟩) l.length l.length)).run Try.prog wr = .ok (.string ⟨l.toArray⟩) wr := by
  obtain ⟨ys, hown, hys⟩ := h.row
  refine run_convert_bytes_back wr 32 9 5 _ l.length l Try.underlying32 Try.underlying5 Try.underlying9 fun j hj => ?_
  rw [hown.cells (g := w.heap.size) rfl j _ (hys j hj), if_pos hj, hx j hj]

theorem nums_get (b : ByteArray) (k : Nat) (h : k < b.size) : (nums b)[k]? = some b[k].toNat := by
  rw [List.getElem?_eq_getElem (by rw [nums_length]; exact h)]
  simp [nums]
  rfl

theorem xors_get (l : List Nat) : ∀ (m : List Nat) (k a b : Nat), l[k]? = some a → m[k]? = some b → (xors l m)[k]? = some (a ^^^ b) := by
  induction l with
  | nil => intro m k a b h; simp at h
  | cons c l ih =>
    intro m k a b h1 h2
    cases m with
    | nil => simp at h2
    | cons d m =>
      cases k with
      | zero => simp at h1 h2; subst h1; subst h2; rfl
      | succ k => simp at h1 h2; simpa [xors] using ih m k a b h1 h2

/-- Three texts, byte by byte. -/
def mix3 (a b c : ByteArray) : List UInt8 := (xors (xors (nums a) (nums b)) (nums c)).map UInt8.ofNat

theorem xors_lt (l : List Nat) : ∀ m : List Nat, (∀ c ∈ l, c < 256) → (∀ c ∈ m, c < 256) → ∀ c ∈ xors l m, c < 256 := by
  induction l with
  | nil => intro m _ _ c h; simp [xors] at h
  | cons a l ih =>
    intro m h1 h2 c h
    cases m with
    | nil => simp [xors] at h
    | cons b m =>
      rcases List.mem_cons.1 h with rfl | h
      · exact Nat.xor_lt_two_pow (n := 8) (h1 _ (by simp)) (h2 _ (by simp))
      · exact ih m (fun c hc => h1 c (by simp [hc])) (fun c hc => h2 c (by simp [hc])) c h

theorem back_nums (l : List Nat) (h : ∀ c ∈ l, c < 256) : nums ⟨(l.map UInt8.ofNat).toArray⟩ = l := by
  show ((l.map UInt8.ofNat).map UInt8.toNat) = l
  rw [List.map_map, List.map_congr_left (g := id), List.map_id]
  intro z hz
  simp [Nat.mod_eq_of_lt (h z hz)]

theorem nums_mix3 (a b c : ByteArray) : nums ⟨(mix3 a b c).toArray⟩ = xors (xors (nums a) (nums b)) (nums c) :=
  back_nums _ (xors_lt (xors (nums a) (nums b)) (nums c) (xors_lt _ _ (nums_lt a) (nums_lt b)) (nums_lt c))

theorem mix3_length (a b c : ByteArray) (hb : b.size = a.size) (hc : c.size = a.size) : (mix3 a b c).length = a.size := by
  unfold mix3
  have h1 := xors_length (nums a) (nums b) (by rw [nums_length, nums_length, hb])
  rw [List.length_map, xors_length _ _ (by rw [h1, nums_length, nums_length, hc]), h1, nums_length]

/-- The byte at k. -/
def at3 (a b c : ByteArray) (k : Nat) : Nat := if h : k < a.size ∧ k < b.size ∧ k < c.size then (a[k].toNat ^^^ b[k].toNat) ^^^ c[k].toNat else 0

theorem at3_mix (a b c : ByteArray) (hb : b.size = a.size) (hc : c.size = a.size) (j : Nat) (hj : j < (mix3 a b c).length) : at3 a b c j = (mix3 a b c)[j].toNat := by
  have hl := mix3_length a b c hb hc
  have ha : j < a.size := by omega
  have hb' : j < b.size := by omega
  have hc' : j < c.size := by omega
  have h1 := xors_get _ _ j _ _ (xors_get _ _ j _ _ (nums_get a j ha) (nums_get b j hb')) (nums_get c j hc')
  have h2 : (mix3 a b c)[j]? = some (UInt8.ofNat (a[j].toNat ^^^ b[j].toNat ^^^ c[j].toNat)) := by unfold mix3; rw [List.getElem?_map, h1]; rfl
  rw [List.getElem?_eq_getElem hj] at h2
  rw [Option.some.inj h2]
  unfold at3
  rw [dif_pos ⟨ha, hb', hc'⟩]
  simp

/-- The sums of three texts. -/
theorem x25_three (a b c : ByteArray) (hb : b.size = a.size) (hc : c.size = a.size) : (x25 a ^^^ x25 b) ^^^ x25 c = x25 ⟨(mix3 a b c).toArray⟩ := by
  have h := reg_three 33800 65535 (nums a) (nums b) (nums c) (by rw [nums_length, nums_length, hb]) (by rw [nums_length, nums_length, hc])
  have lt : ∀ b, reg 33800 65535 (nums b) < 2 ^ 16 := fun b => reg_lt (by decide) _ (by decide) (fun c hc => Nat.lt_trans (nums_lt b c hc) (by decide))
  have e : ∀ b, x25 b = 65535 ^^^ reg 33800 65535 (nums b) := fun b => (ones_xor (w := 16) (lt b)).symm
  rw [e a, e b, e c, e, nums_mix3, h]
  generalize reg 33800 65535 (nums a) = A
  generalize reg 33800 65535 (nums b) = B
  generalize reg 33800 65535 (nums c) = C
  rw [Nat.xor_comm 65535 A, Nat.xor_comm 65535 B, xor_pair A B 65535, ← Nat.xor_assoc, Nat.xor_comm _ 65535, Nat.xor_assoc]

theorem cast_three (a b c : ByteArray) (hb : b.size = a.size) (hc : c.size = a.size) : (cast a ^^^ cast b) ^^^ cast c = cast ⟨(mix3 a b c).toArray⟩ := by
  have h := reg_three 2197175160 4294967295 (nums a) (nums b) (nums c) (by rw [nums_length, nums_length, hb]) (by rw [nums_length, nums_length, hc])
  have lt : ∀ b, reg 2197175160 4294967295 (nums b) < 2 ^ 32 := fun b => reg_lt (by decide) _ (by decide) (fun c hc => Nat.lt_trans (nums_lt b c hc) (by decide))
  have e : ∀ b, cast b = 4294967295 ^^^ reg 2197175160 4294967295 (nums b) := fun b => (ones_xor (w := 32) (lt b)).symm
  rw [e a, e b, e c, e, nums_mix3, h]
  generalize reg 2197175160 4294967295 (nums a) = A
  generalize reg 2197175160 4294967295 (nums b) = B
  generalize reg 2197175160 4294967295 (nums c) = C
  rw [Nat.xor_comm 4294967295 A, Nat.xor_comm 4294967295 B, xor_pair A B 4294967295, ← Nat.xor_assoc, Nat.xor_comm _ 4294967295, Nat.xor_assoc]

theorem x25_lt (b : ByteArray) : x25 b < 65536 := by unfold x25; omega
theorem cast_lt (b : ByteArray) : cast b < 4294967296 := by unfold cast; omega

set_option maxHeartbeats 1000000 in
/-- The law's way where the texts are short and of one length. -/
theorem three_walk (a b c : ByteArray) (w : World) (h3 : a.size ≤ 300) (hb : b.size = a.size) (hc : c.size = a.size) :
    Calls Try.prog 5 #[.string a, .string b, .string c] w fun e w' => e = .returned (.bool true) ∧ Below w.heap.size w w' := by
  obtain ⟨i0, hi, hz0, hz1, hz2⟩ := info_parts Try.info5
  have hma : a.size ≤ maxLen := by unfold maxLen; omega
  have hmb : b.size ≤ maxLen := by unfold maxLen; omega
  have hmc : c.size ≤ maxLen := by unfold maxLen; omega
  have g1 : decide (300 < (a.size : Int)) = false := by simp; omega
  have g2 : ((b.size : Int) != (a.size : Int)) = false := by simp [hb]
  have g3 : ((c.size : Int) != (a.size : Int)) = false := by simp [hc]
  obtain ⟨n, hn⟩ : ∃ n, n = a.size := ⟨_, rfl⟩
  have HB := Lib.hid hb; clear hb
  have HC := Lib.hid hc; clear hc
  have HMA := Lib.hid hma; clear hma
  have HMB := Lib.hid hmb; clear hmb
  have HMC := Lib.hid hmc; clear hmc
  go_enter Try.func5, Try.ntmps5
  go_wp2_with fail
  refine (awake_any _).mono ?_
  rintro e w1 ⟨rfl, rfl⟩
  go_wp2_with (at_make; refine wpList_make_full _ rfl _ _ 32 rfl w1.heap.size 5 i0 (.int .u8 0) 1 Try.underlying32 hi hz0 hz1 _ _ _ _ a.size rfl rfl rfl rfl (by rw [hz2]; omega) (by unfold maxLen; omega) (Nat.le_refl _) ?_; intro w2 hown hgrow; have hrow := Row3.start (x := at3 a b c) hown hgrow; have HR := Lib.hid hrow; clear hrow hown hgrow)
  have hl := mix3_length a b c HB.out HC.out
  have ml := fun (h : a.size ≤ maxLen) => (show (⟨(mix3 a b c).toArray⟩ : ByteArray).size ≤ maxLen by show (mix3 a b c).toArray.size ≤ maxLen; rw [List.size_toArray, hl]; exact h)
  have HML := Lib.hid ml; clear ml
  have HL := Lib.hid hl; clear hl
  go_loopw [8] (fun i wr => ∃ k : Nat, k ≤ a.size ∧ i = .int .i64 k ∧ Row3 w1 a.size (at3 a b c) k wr) (fun i _ => a.size - (intOf i).toNat)
  case atStart => exact ⟨0, Nat.zero_le _, rfl, HR.out⟩
  case round =>
    obtain ⟨k, hk, rfl, hrow⟩ := hrel
    by_cases hlt : k < a.size
    · have hkb : k < b.size := by rw [HB.out]; exact hlt
      have hkc : k < c.size := by rw [HC.out]; exact hlt
      have e3 : at3 a b c k = (a[k].toNat ^^^ b[k].toNat) ^^^ c[k].toNat := by unfold at3; rw [dif_pos ⟨hlt, hkb, hkc⟩]
      have x1 := u8_xor_nat a[k].toNat b[k].toNat a[k].toNat_lt b[k].toNat_lt
      have x2 := u8_xor_nat (a[k].toNat ^^^ b[k].toNat) c[k].toNat (Nat.xor_lt_two_pow (n := 8) a[k].toNat_lt b[k].toNat_lt) c[k].toNat_lt
      rw [← e3] at x2
      have E3 := Lib.hid e3; clear e3
      have hcell := hrow.cell hlt
      have hfr := hrow.frozen
      have hst := hrow.step hlt
      have HST := Lib.hid hst; clear hst
      have HROW := Lib.hid hrow; clear hrow
      go_wp2
      go_region
      go_wp2
      go_roundw
      case rel => exact ⟨k + 1, by omega, by go_num, HST.out.drew⟩
      case measure => simp [intOf]; omega
    · obtain rfl : k = a.size := by omega
      have hrow' := hrow
      rw [← HL.out] at hrow'
      have hcv := hrow'.back (at3_mix a b c HB.out HC.out)
      rw [HL.out] at hcv
      have hbel := hrow.below
      have HBEL := Lib.hid hbel; clear hbel hrow' hrow
      have hx := x25_three a b c HB.out HC.out
      have hy := cast_three a b c HB.out HC.out
      have e1 := u16_xor_nat (x25 a) (x25 b) (x25_lt a) (x25_lt b)
      have e2 := u16_xor_nat (x25 a ^^^ x25 b) (x25 c) (Nat.xor_lt_two_pow (n := 16) (x25_lt a) (x25_lt b)) (x25_lt c)
      have e3 := u32_xor_nat (cast a) (cast b) (cast_lt a) (cast_lt b)
      have e4 := u32_xor_nat (cast a ^^^ cast b) (cast c) (Nat.xor_lt_two_pow (n := 32) (cast_lt a) (cast_lt b)) (cast_lt c)
      rw [hx] at e2
      rw [hy] at e4
      have HX := Lib.hid hx; clear hx
      have HY := Lib.hid hy; clear hy
      go_wp2_with fail
      refine (x25_any a _ HMA.out).mono ?_
      rintro e w3 ⟨rfl, rfl⟩
      go_wp2_with fail
      refine (x25_any b _ HMB.out).mono ?_
      rintro e w4 ⟨rfl, rfl⟩
      go_wp2_with fail
      refine (x25_any c _ HMC.out).mono ?_
      rintro e w5 ⟨rfl, rfl⟩
      go_wp2_with fail
      refine (x25_any _ _ (HML.out HMA.out)).mono ?_
      rintro e w6 ⟨rfl, rfl⟩
      go_wp2_with fail
      refine (cast_any a _ HMA.out).mono ?_
      rintro e w7 ⟨rfl, rfl⟩
      go_wp2_with fail
      refine (cast_any b _ HMB.out).mono ?_
      rintro e w8 ⟨rfl, rfl⟩
      go_wp2_with fail
      refine (cast_any c _ HMC.out).mono ?_
      rintro e w9 ⟨rfl, rfl⟩
      go_wp2_with fail
      refine (cast_any _ _ (HML.out HMA.out)).mono ?_
      rintro e w10 ⟨rfl, rfl⟩
      go_wp2
      go_ret
      exact ⟨rfl, HBEL.out⟩

set_option maxHeartbeats 1000000 in
theorem three_all (a b c : ByteArray) (w : World) :
    Calls Try.prog 5 #[.string a, .string b, .string c] w fun e w' => e = .returned (.bool true) ∧ Below w.heap.size w w' := by
  by_cases h1 : 300 < a.size
  · have g1 : decide (300 < (a.size : Int)) = true := by simp; omega
    go_enter Try.func5, Try.ntmps5
    go_wp2_with fail
    refine (awake_any _).mono ?_
    rintro e w1 ⟨rfl, rfl⟩
    go_wp2_with fail
    refine (awake_any _).mono ?_
    rintro e w2 ⟨rfl, rfl⟩
    go_wp2
    go_ret
    exact ⟨rfl, Below.refl _ _⟩
  have g1 : decide (300 < (a.size : Int)) = false := by simp; omega
  by_cases h2 : b.size = a.size
  · by_cases h3 : c.size = a.size
    · exact three_walk a b c w (by omega) h2 h3
    · have g2 : ((b.size : Int) != (a.size : Int)) = false := by simp [h2]
      have g3 : ((c.size : Int) != (a.size : Int)) = true := by simp; omega
      go_enter Try.func5, Try.ntmps5
      go_wp2_with fail
      refine (awake_any _).mono ?_
      rintro e w1 ⟨rfl, rfl⟩
      go_wp2_with fail
      refine (awake_any _).mono ?_
      rintro e w2 ⟨rfl, rfl⟩
      go_wp2
      go_ret
      exact ⟨rfl, Below.refl _ _⟩
  · have g2 : ((b.size : Int) != (a.size : Int)) = true := by simp; omega
    go_enter Try.func5, Try.ntmps5
    go_wp2_with fail
    refine (awake_any _).mono ?_
    rintro e w1 ⟨rfl, rfl⟩
    go_wp2_with fail
    refine (awake_any _).mono ?_
    rintro e w2 ⟨rfl, rfl⟩
    go_wp2
    go_ret
    exact ⟨rfl, Below.refl _ _⟩

set_option maxRecDepth 100000 in
theorem three_lifted (os : Os) (started : os.Started) (H : Type) (enc : TypeId × Value → H) :
    ReturnsInHanded {} Try.checked os 5 .any (Rows.crcThreeSpec.pre6 enc Try.prog Try.f5 Rows.crcThreeRow.domain false) (Rows.crcThreeSpec.post enc Try.prog Try.f5 false true false false) := by
  refine returnsInHanded_of_change (C := Try.checked) own started (by kernel_rfl) Try.func5
    (ChangeSpec.witness6 (enc := enc) (C := Try.checked) false ⟨#[], #[.string ⟨#[]⟩, .string ⟨#[]⟩, .string ⟨#[]⟩], []⟩ 8 (by kernel_rfl) (by kernel_rfl) (by kernel_rfl) (by kernel_rfl)) ?_
  intro W base args ds gs before hval0 hW hcnd _
  have hval : ∀ (j : Nat) t v, Try.f5.params[j]? = some t → args[j]? = some v → Value.okWide Try.prog W .any base t v := hval0
  have hW' := hW
  obtain ⟨p, q, hA0, hV, rfl, hfz, hnd⟩ := hW
  have hA : DataW.TrodAll enc Try.prog W 0 (fun _ => true) true Try.f5.params.toList args.toList ds p := hA0
  rw [Try.params5] at hA hval
  obtain ⟨v0, vs0, d0, ds0, p0, q0, hargs, rfl, rfl, h0, r0⟩ := trodAll_cons hA
  obtain ⟨v1, vs1, d1, ds1, p1, q1, rfl, rfl, rfl, h1, r1⟩ := trodAll_cons r0
  obtain ⟨v2, vs2, d2, ds2, p2, q2, rfl, rfl, rfl, h2, r2⟩ := trodAll_cons r1
  obtain ⟨rfl, rfl, rfl⟩ := trodAll_nil r2
  obtain rfl : args = #[v0, v1, v2] := by cases args; simp_all
  obtain ⟨rfl, rfl⟩ := trodVars_none hV
  obtain ⟨s0, rfl, rfl, rfl, hs0⟩ := open_string Try.underlying9 (hval 0 9 v0 rfl rfl) h0
  obtain ⟨s1, rfl, rfl, rfl, hs1⟩ := open_string Try.underlying9 (hval 1 9 v1 rfl rfl) h1
  obtain ⟨s2, rfl, rfl, rfl, hs2⟩ := open_string Try.underlying9 (hval 2 9 v2 rfl rfl) h2
  clear hA0 hval0
  simp only [List.append_nil] at hW'
  refine (three_all s0 s1 s2 W).mono fun e W' ⟨he, hb⟩ => ?_
  subst he
  exact ⟨_, rfl, post_law (pa := []) (pv := []) hW' hb (trodAll_cons_mk (shut_bool Try.underlying4 _) trodAll_mk0) (trodAll_cons_mk (shut_string Try.underlying9 hs0) (trodAll_cons_mk (shut_string Try.underlying9 hs1) (trodAll_cons_mk (shut_string Try.underlying9 hs2) trodAll_mk0))) rfl⟩

/-- For every three texts the law returns true. -/
theorem crcThree_holds : Rows.CrcThreeSaid :=
  OpenClaim.holds_of_wide 5 Try.f5 rfl rfl rfl rfl rfl rfl rfl ⟨rfl, rfl, rfl, rfl, rfl⟩ rfl rfl rfl rfl rfl (by kernel_rfl) Try.func5 (by kernel_rfl)
    (of_decide_eq_true (by kernel_rfl)) (by unfold Func.isWrapper; first | (rw [if_pos (by decide +kernel)]; kernel_rfl) | (rw [if_neg (by decide +kernel)]; exact ⟨rfl, rfl⟩))
    (fun os started H enc _ => three_lifted os started H enc)

#print axioms crcThree_holds
end Go.Proofs.Ytgknkkhjlocokaa
