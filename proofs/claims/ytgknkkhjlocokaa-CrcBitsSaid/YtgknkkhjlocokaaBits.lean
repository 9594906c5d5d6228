/-
  For every text, place and mask CrcBits returns true: a change within two bytes side by side changes both sums. Conditions: none.
-/
import Derived.Test.YtgknkkhjlocokaaB
import Derived.RegionTactic
import Derived.ChangeAlike
import Derived.ChangeMaps5
namespace Go.Proofs.Ytgknkkhjlocokaa
open Go.ChangeShapes Go.WideShapes Go.ChangeAt Go.RowKit Go.ChangeMaps
open Crc
set_option linter.unusedVariables false

/-- A text's bytes in new memory. -/
structure Made (w : World) (b : ByteArray) (W : World) : Prop where
  cell : ∀ j (h : j < b.size), W.cell? ⟨w.heap.size, j, none⟩ = some (.int .u8 (b[j].toNat : Nat))
  frozen : ∀ j, j < b.size → W.frozen? ⟨w.heap.size, j, none⟩ = false
  below : Below w.heap.size w W

theorem bytes_made (b : ByteArray) (w : World) : ∃ cap W, (convert 9 32 (.string b)).run Try.prog w = .ok (.slice (some ⟨w.heap.size, 0, none⟩) b.size cap) W ∧ Made w b W := by
  refine ⟨_, _, run_bytes_of_string (P := Try.prog) w 9 32 5 b Try.underlying9 Try.underlying32 Try.underlying5, ⟨fun j h => ?_, fun j h => ?_, ((Below.refl _ _).drew).alloc (Nat.le_refl _) _⟩⟩
  · exact (World.cell?_alloc_mark w.drew _ 5 _ j).trans (bytesRow_at b _ j h)
  · refine (World.frozen?_alloc_mark w.drew _ 5 _ _ j).trans ?_
    have : b.size ≤ (bytesRow b (grownCap w b.size 0 5)).size := by
      unfold bytesRow
      rw [Array.size_append, Array.size_map]
      exact Nat.le_add_right _ _
    simp
    omega

/-- The changed text. -/
def bent (b : ByteArray) (k x y : Nat) : List UInt8 := (b.data.toList.set k (UInt8.ofNat x)).set (k + 1) (UInt8.ofNat y)

theorem bent_length (b : ByteArray) (k x y : Nat) : (bent b k x y).length = b.size := by
  unfold bent
  rw [List.length_set, List.length_set, Array.length_toList]
  rfl

theorem made_back {w W : World} {b : ByteArray} {k x y cap : Nat} (h : Made w b W) (hk : k + 1 < b.size) (hx : x < 256) (hy : y < 256) :
    (convert 32 9 (.slice (some ⟨w.heap.size, 0, none⟩) b.size cap)).run Try.prog ((W.setCell ⟨w.heap.size, k, none⟩ (.int .u8 (x : Nat))).setCell ⟨w.heap.size, k + 1, none⟩ (.int .u8 (y : Nat)))
      = .ok (.string ⟨(bent b k x y).toArray⟩) ((W.setCell ⟨w.heap.size, k, none⟩ (.int .u8 (x : Nat))).setCell ⟨w.heap.size, k + 1, none⟩ (.int .u8 (y : Nat))) := by
  have hl := bent_length b k x y
  have c := run_convert_bytes_back ((W.setCell ⟨w.heap.size, k, none⟩ (.int .u8 (x : Nat))).setCell ⟨w.heap.size, k + 1, none⟩ (.int .u8 (y : Nat))) 32 9 5 ⟨w.heap.size, 0, none⟩ cap (bent b k x y) Try.underlying32 Try.underlying5 Try.underlying9 ?_
  · rw [hl] at c
    exact c
  intro j hj
  rw [hl] at hj
  have ea : (⟨w.heap.size, 0, none⟩ : Addr).add j = ⟨w.heap.size, j, none⟩ := by simp [Addr.add]; omega
  rw [ea]
  have c0 := h.cell k (by omega)
  have c1 := h.cell (k + 1) hk
  have hne : ∀ {i j : Nat}, i ≠ j → (⟨w.heap.size, i, none⟩ : Addr) ≠ ⟨w.heap.size, j, none⟩ := fun h e => h (by injection e)
  by_cases e1 : j = k + 1
  · subst e1
    have : W.cell? ⟨w.heap.size, k + 1, none⟩ = (W.setCell ⟨w.heap.size, k, none⟩ (.int .u8 (x : Nat))).cell? ⟨w.heap.size, k + 1, none⟩ := (World.cell?_setCell_other _ _ _ _ (hne (by omega))).symm
    rw [this] at c1
    rw [World.cell?_setCell_same _ _ _ c1]
    simp [bent, Nat.mod_eq_of_lt hy]
  · rw [World.cell?_setCell_other _ _ _ _ (hne (fun e => e1 e.symm))]
    by_cases e2 : j = k
    · subst e2
      rw [World.cell?_setCell_same _ _ _ c0]
      simp [bent, Nat.mod_eq_of_lt hx]
    · rw [World.cell?_setCell_other _ _ _ _ (hne (fun e => e2 e.symm)), h.cell j hj]
      simp only [bent, List.getElem_set]
      rw [if_neg (fun e => e1 e.symm), if_neg (fun e => e2 e.symm)]
      rfl

theorem bent_nums (b : ByteArray) (k x y : Nat) (hk : k + 1 < b.size) (hx : x < 256) (hy : y < 256) :
    nums ⟨(bent b k x y).toArray⟩ = (nums b).take k ++ x :: y :: (nums b).drop (k + 2) := by
  show (bent b k x y).map UInt8.toNat = _
  have hl : (nums b).length = b.size := nums_length b
  unfold bent
  rw [List.map_set, List.map_set]
  show ((nums b).set k _).set (k + 1) _ = _
  rw [List.set_eq_take_append_cons_drop, List.length_set, if_pos (by omega), List.set_eq_take_append_cons_drop, if_pos (by omega)]
  have lt : ((nums b).take k).length = k := by rw [List.length_take]; omega
  rw [List.take_append, List.drop_append, lt]
  have e1 : k + 1 - k = 1 := by omega
  have e2 : k + 1 + 1 - k = 2 := by omega
  rw [e1, e2, List.take_take, List.drop_take]
  simp [Nat.mod_eq_of_lt hx, Nat.mod_eq_of_lt hy]
  omega

theorem nums_parts (b : ByteArray) (k : Nat) (hk : k + 1 < b.size) : nums b = (nums b).take k ++ b[k].toNat :: b[k + 1].toNat :: (nums b).drop (k + 2) := by
  have hl : (nums b).length = b.size := nums_length b
  have h1 := nums_take b k (by omega)
  have h2 := nums_take b (k + 1) hk
  rw [h1] at h2
  have h3 := List.take_append_drop (k + 1 + 1) (nums b)
  rw [h2] at h3
  conv => lhs; rw [← h3]
  simp

/-- Both sums tell the change. -/
theorem x25_bent (b : ByteArray) (k m m' : Nat) (hk : k + 1 < b.size) (hm : m < 256) (hm' : m' < 256) (h : m ≠ 0 ∨ m' ≠ 0) :
    x25 ⟨(bent b k (b[k].toNat ^^^ m) (b[k + 1].toNat ^^^ m')).toArray⟩ ≠ x25 b := by
  have l8 : ∀ {a b : Nat}, a < 256 → b < 256 → a ^^^ b < 256 := fun ha hb => Nat.xor_lt_two_pow (n := 8) ha hb
  have hn := burst_ne (p := 33800) (v := 15) (by decide) (by decide) (by decide) far_16 (r := 65535) (c := b[k].toNat) (d := b[k + 1].toNat) (m := m) (m' := m') ((nums b).take k) ((nums b).drop (k + 2)) (by decide)
    (nums_take_lt b k) (fun c hc => nums_lt b c (List.mem_of_mem_drop hc)) b[k].toNat_lt b[k + 1].toNat_lt hm hm' h
  rw [← bent_nums b k _ _ hk (l8 b[k].toNat_lt hm) (l8 b[k + 1].toNat_lt hm'), ← nums_parts b k hk] at hn
  have lt : ∀ b, reg 33800 65535 (nums b) < 2 ^ 16 := fun b => reg_lt (by decide) _ (by decide) (fun c hc => Nat.lt_trans (nums_lt b c hc) (by decide))
  have l1 := lt b
  have l2 := lt ⟨(bent b k (b[k].toNat ^^^ m) (b[k + 1].toNat ^^^ m')).toArray⟩
  unfold x25
  omega

theorem cast_bent (b : ByteArray) (k m m' : Nat) (hk : k + 1 < b.size) (hm : m < 256) (hm' : m' < 256) (h : m ≠ 0 ∨ m' ≠ 0) :
    cast ⟨(bent b k (b[k].toNat ^^^ m) (b[k + 1].toNat ^^^ m')).toArray⟩ ≠ cast b := by
  have l8 : ∀ {a b : Nat}, a < 256 → b < 256 → a ^^^ b < 256 := fun ha hb => Nat.xor_lt_two_pow (n := 8) ha hb
  have hn := burst_ne (p := 2197175160) (v := 31) (by decide) (by decide) (by decide) far_32 (r := 4294967295) (c := b[k].toNat) (d := b[k + 1].toNat) (m := m) (m' := m') ((nums b).take k) ((nums b).drop (k + 2)) (by decide)
    (nums_take_lt b k) (fun c hc => nums_lt b c (List.mem_of_mem_drop hc)) b[k].toNat_lt b[k + 1].toNat_lt hm hm' h
  rw [← bent_nums b k _ _ hk (l8 b[k].toNat_lt hm) (l8 b[k + 1].toNat_lt hm'), ← nums_parts b k hk] at hn
  have lt : ∀ b, reg 2197175160 4294967295 (nums b) < 2 ^ 32 := fun b => reg_lt (by decide) _ (by decide) (fun c hc => Nat.lt_trans (nums_lt b c hc) (by decide))
  have l1 := lt b
  have l2 := lt ⟨(bent b k (b[k].toNat ^^^ m) (b[k + 1].toNat ^^^ m')).toArray⟩
  unfold cast
  omega

set_option maxHeartbeats 1000000 in
/-- The law's way where the text is short and the mask changes something. -/
theorem bits_walk (b : ByteArray) (t m : Nat) (w : World) (h5 : b.size ≤ 500) (h2 : 2 ≤ b.size) (ht : t < 65536) (hm : m < 65536) (h0 : m ≠ 0) :
    Calls Try.prog 4 #[.string b, .int .u16 t, .int .u16 m] w fun e w' => e = .returned (.bool true) ∧ Below w.heap.size w w' := by
  obtain ⟨cap, W, hcv, hmade⟩ := bytes_made b w
  obtain ⟨k, hk⟩ : ∃ k, k = t % (b.size - 1) := ⟨_, rfl⟩
  have hk1 : k + 1 < b.size := by
    have := Nat.mod_lt t (show b.size - 1 > 0 by omega)
    omega
  have hk0 : k < b.size := by omega
  have hmod : (t : Int).tmod ((b.size : Int) - 1) = (k : Int) := by
    rw [hk, Int.tmod_eq_emod_of_nonneg (by omega)]
    have : (b.size : Int) - 1 = ((b.size - 1 : Nat) : Int) := by omega
    rw [this]
    rfl
  have htw : wrap64 (t : Int) = (t : Int) := by unfold wrap64; omega
  have g1 : decide (500 < (b.size : Int)) = false := by simp; omega
  have g2 : decide ((b.size : Int) < 2) = false := by simp; omega
  have g3 : ((m : Int) == 0) = false := by simp; omega
  have hmb : b.size ≤ maxLen := by unfold maxLen; omega
  have HMB := Lib.hid hmb; clear hmb
  have c0 := hmade.cell k hk0
  have c1 := hmade.cell (k + 1) hk1
  have f0 := hmade.frozen k hk0
  have f1 := hmade.frozen (k + 1) hk1
  have x0 : bits BinOp.xor IntKind.u8 (b[k].toNat : Int) ((m : Int) % 256) = ((b[k].toNat ^^^ (m % 256) : Nat) : Int) := u8_xor_nat b[k].toNat (m % 256) b[k].toNat_lt (Nat.mod_lt _ (by decide))
  have x1 : bits BinOp.xor IntKind.u8 (b[k + 1].toNat : Int) ((m : Int) / 256 % 256) = ((b[k + 1].toNat ^^^ (m / 256 % 256) : Nat) : Int) := u8_xor_nat b[k + 1].toNat (m / 256 % 256) b[k + 1].toNat_lt (Nat.mod_lt _ (by decide))
  have l8 : ∀ {a b : Nat}, a < 256 → b < 256 → a ^^^ b < 256 := fun ha hb => Nat.xor_lt_two_pow (n := 8) ha hb
  have hback := made_back (cap := cap) hmade hk1 (l8 b[k].toNat_lt (Nat.mod_lt m (show 256 > 0 by decide))) (l8 b[k + 1].toNat_lt (Nat.mod_lt (m / 256) (show 256 > 0 by decide)))
  have hbel : Below w.heap.size w ((W.setCell ⟨w.heap.size, k, none⟩ (.int .u8 (b[k].toNat ^^^ (m % 256) : Nat))).setCell ⟨w.heap.size, k + 1, none⟩ (.int .u8 (b[k + 1].toNat ^^^ (m / 256 % 256) : Nat))) := (hmade.below.setCell (Nat.le_refl _) _).setCell (Nat.le_refl _) _
  have hany : m % 256 ≠ 0 ∨ m / 256 % 256 ≠ 0 := by omega
  have n1 := x25_bent b k (m % 256) (m / 256 % 256) hk1 (Nat.mod_lt _ (by decide)) (Nat.mod_lt _ (by decide)) hany
  have n2 := cast_bent b k (m % 256) (m / 256 % 256) hk1 (Nat.mod_lt _ (by decide)) (Nat.mod_lt _ (by decide)) hany
  have hbl := bent_length b k (b[k].toNat ^^^ (m % 256)) (b[k + 1].toNat ^^^ (m / 256 % 256))
  obtain ⟨L, hL⟩ : ∃ L, L = (⟨(bent b k (b[k].toNat ^^^ (m % 256)) (b[k + 1].toNat ^^^ (m / 256 % 256))).toArray⟩ : ByteArray) := ⟨_, rfl⟩
  have hml : L.size ≤ maxLen := by
    rw [hL]
    show (bent b k (b[k].toNat ^^^ (m % 256)) (b[k + 1].toNat ^^^ (m / 256 % 256))).toArray.size ≤ maxLen
    rw [List.size_toArray, hbl]
    exact HMB.out
  rw [← hL] at hback n1 n2
  have g4 : ((x25 L : Int) != (x25 b : Int)) = true := by simp; omega
  have g5 : ((cast L : Int) != (cast b : Int)) = true := by simp; omega
  clear hL hbl n1 n2 hany l8
  have HML := Lib.hid hml; clear hml
  have HBEL := Lib.hid hbel; clear hbel
  have HH0 := Lib.hid h0; clear h0
  have HM := Lib.hid hm; clear hm
  have HT := Lib.hid ht; clear ht
  have HK := Lib.hid hk; clear hk
  have HMADE := Lib.hid hmade; clear hmade
  go_enter Try.func4, Try.ntmps4
  go_wp2_with fail
  refine (awake_any _).mono ?_
  rintro e w1 ⟨rfl, rfl⟩
  go_wp2_with fail
  refine (x25_any L _ HML.out).mono ?_
  rintro e w3 ⟨rfl, rfl⟩
  go_wp2_with fail
  refine (x25_any b _ HMB.out).mono ?_
  rintro e w4 ⟨rfl, rfl⟩
  go_wp2_with fail
  refine (cast_any L _ HML.out).mono ?_
  rintro e w5 ⟨rfl, rfl⟩
  go_wp2_with fail
  refine (cast_any b _ HMB.out).mono ?_
  rintro e w6 ⟨rfl, rfl⟩
  go_wp2
  go_ret
  exact ⟨rfl, HBEL.out⟩

set_option maxHeartbeats 1000000 in
theorem bits_all (b : ByteArray) (t m : Nat) (w : World) (ht : t < 65536) (hm : m < 65536) :
    Calls Try.prog 4 #[.string b, .int .u16 t, .int .u16 m] w fun e w' => e = .returned (.bool true) ∧ Below w.heap.size w w' := by
  by_cases h1 : 500 < b.size
  · have g1 : decide (500 < (b.size : Int)) = true := by simp; omega
    have HM := Lib.hid hm; clear hm
    have HT := Lib.hid ht; clear ht
    go_enter Try.func4, Try.ntmps4
    go_wp2_with fail
    refine (awake_any _).mono ?_
    rintro e w1 ⟨rfl, rfl⟩
    go_wp2_with fail
    refine (awake_any _).mono ?_
    rintro e w2 ⟨rfl, rfl⟩
    go_wp2
    go_ret
    exact ⟨rfl, Below.refl _ _⟩
  have g1 : decide (500 < (b.size : Int)) = false := by simp; omega
  by_cases h2 : b.size < 2
  · have g2 : decide ((b.size : Int) < 2) = true := by simp; omega
    have HM := Lib.hid hm; clear hm
    have HT := Lib.hid ht; clear ht
    go_enter Try.func4, Try.ntmps4
    go_wp2_with fail
    refine (awake_any _).mono ?_
    rintro e w1 ⟨rfl, rfl⟩
    go_wp2_with fail
    refine (awake_any _).mono ?_
    rintro e w2 ⟨rfl, rfl⟩
    go_wp2
    go_ret
    exact ⟨rfl, Below.refl _ _⟩
  have g2 : decide ((b.size : Int) < 2) = false := by simp; omega
  by_cases h3 : m = 0
  · subst h3
    have HT := Lib.hid ht; clear ht
    go_enter Try.func4, Try.ntmps4
    go_wp2_with fail
    refine (awake_any _).mono ?_
    rintro e w1 ⟨rfl, rfl⟩
    go_wp2_with fail
    refine (awake_any _).mono ?_
    rintro e w2 ⟨rfl, rfl⟩
    go_wp2
    go_ret
    exact ⟨rfl, Below.refl _ _⟩
  · exact bits_walk b t m w (by omega) (by omega) ht hm h3

set_option maxRecDepth 100000 in
theorem bits_lifted (os : Os) (started : os.Started) (H : Type) (enc : TypeId × Value → H) :
    ReturnsInHanded {} Try.checked os 4 .any (Rows.crcBitsSpec.pre6 enc Try.prog Try.f4 Rows.crcBitsRow.domain false) (Rows.crcBitsSpec.post enc Try.prog Try.f4 false true false false) := by
  refine returnsInHanded_of_change (C := Try.checked) own started (by kernel_rfl) Try.func4
    (ChangeSpec.witness6 (enc := enc) (C := Try.checked) false ⟨#[], #[.string ⟨#[]⟩, .int .u16 0, .int .u16 0], []⟩ 8 (by kernel_rfl) (by kernel_rfl) (by kernel_rfl) (by kernel_rfl)) ?_
  intro W base args ds gs before hval0 hW hcnd _
  have hval : ∀ (j : Nat) t v, Try.f4.params[j]? = some t → args[j]? = some v → Value.okWide Try.prog W .any base t v := hval0
  have hW' := hW
  obtain ⟨p, q, hA0, hV, rfl, hfz, hnd⟩ := hW
  have hA : DataW.TrodAll enc Try.prog W 0 (fun _ => true) true Try.f4.params.toList args.toList ds p := hA0
  rw [Try.params4] at hA hval
  obtain ⟨v0, vs0, d0, ds0, p0, q0, hargs, rfl, rfl, h0, r0⟩ := trodAll_cons hA
  obtain ⟨v1, vs1, d1, ds1, p1, q1, rfl, rfl, rfl, h1, r1⟩ := trodAll_cons r0
  obtain ⟨v2, vs2, d2, ds2, p2, q2, rfl, rfl, rfl, h2, r2⟩ := trodAll_cons r1
  obtain ⟨rfl, rfl, rfl⟩ := trodAll_nil r2
  obtain rfl : args = #[v0, v1, v2] := by cases args; simp_all
  obtain ⟨rfl, rfl⟩ := trodVars_none hV
  obtain ⟨s0, rfl, rfl, rfl, hs0⟩ := open_string Try.underlying9 (hval 0 9 v0 rfl rfl) h0
  obtain ⟨a1, rfl, rfl, rfl, w1⟩ := open_int Try.underlying25 (hval 1 25 v1 rfl rfl) h1
  obtain ⟨a2, rfl, rfl, rfl, w2⟩ := open_int Try.underlying25 (hval 2 25 v2 rfl rfl) h2
  clear hA0 hval0
  simp only [List.append_nil] at hW'
  obtain ⟨n1, rfl, hn1⟩ := u16_nat w1
  obtain ⟨n2, rfl, hn2⟩ := u16_nat w2
  refine (bits_all s0 n1 n2 W hn1 hn2).mono fun e W' ⟨he, hb⟩ => ?_
  subst he
  exact ⟨_, rfl, post_law (pa := []) (pv := []) hW' hb (trodAll_cons_mk (shut_bool Try.underlying4 _) trodAll_mk0) (trodAll_cons_mk (shut_string Try.underlying9 hs0) (trodAll_cons_mk (shut_int Try.underlying25 w1) (trodAll_cons_mk (shut_int Try.underlying25 w2) trodAll_mk0))) rfl⟩

/-- For every text, place and mask the law returns true. -/
theorem crcBits_holds : Rows.CrcBitsSaid :=
  OpenClaim.holds_of_wide 4 Try.f4 rfl rfl rfl rfl rfl rfl rfl ⟨rfl, rfl, rfl, rfl, rfl⟩ rfl rfl rfl rfl rfl (by kernel_rfl) Try.func4 (by kernel_rfl)
    (of_decide_eq_true (by kernel_rfl)) (by unfold Func.isWrapper; first | (rw [if_pos (by decide +kernel)]; kernel_rfl) | (rw [if_neg (by decide +kernel)]; exact ⟨rfl, rfl⟩))
    (fun os started H enc _ => bits_lifted os started H enc)

#print axioms crcBits_holds
end Go.Proofs.Ytgknkkhjlocokaa
