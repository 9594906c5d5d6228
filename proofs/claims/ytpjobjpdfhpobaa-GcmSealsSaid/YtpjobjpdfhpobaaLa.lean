/-
  Contracts of the statements' awake, or, few and hashed. Conditions: stated with each.
-/
import Derived.Test.YtpjobjpdfhpobaaGi
/-
  Contracts of dromondref08.Seal and Open, and of the statements' awake, or, few and hashed. Conditions: stated with each.
-/
namespace Go.Proofs.Ytpjobjpdfhpobaa
namespace Gcm
open Go.ChangeShapes Go.WideShapes Go.ChangeAt Go.RowKit Go.Great Go.ChangeMaps
open Gf Aes
set_option linter.unusedVariables false
set_option maxRecDepth 100000

set_option maxHeartbeats 4000000 in
theorem rseal_ok (n : Nat) (key nonce s t : ByteArray) (w : World) (hn : n = 4 ∨ n = 8) (hk : key.size = 4 * n) (h8 : 8 ≤ nonce.size) (h16 : nonce.size ≤ 16) (hs : s.size ≤ 1048576) (ht : t.size ≤ 1048576) :
    Calls Try.prog 21 #[.string key, .string nonce, .string s, .string t] w fun e w' => e = .returned (.tuple #[.string (turnB n key nonce t), .string (tagB n key nonce s (turnB n key nonce t)), .int .i64 0]) ∧ Below w.heap.size w w' := by
  have C1 := Lib.hid (fun X => right_any key nonce X)
  rw [decide_eq_true (show (key.size = 16 ∨ key.size = 32) ∧ 8 ≤ nonce.size ∧ nonce.size ≤ 16 from ⟨by omega, h8, h16⟩)] at C1
  have C2 := Lib.hid (fun X => turn_any n key nonce s t false X hn hk h8 h16 hs ht)
  clear hn hk h8 h16 hs ht
  go_enter Try.func21, Try.ntmps21
  go_wp2_with fail
  refine (C1.out _).mono ?_
  rintro e w1 ⟨rfl, h1⟩
  rw [h1]
  clear h1 w1
  go_wp2_with fail
  refine (C2.out _).mono ?_
  rintro e w2 ⟨rfl, hb2⟩
  have HB := Lib.hid hb2
  clear hb2
  go_wp2
  go_ret3
  exact ⟨rfl, HB.out⟩

set_option maxHeartbeats 4000000 in
theorem rseal_none (key nonce s t : ByteArray) (w : World) (h : ¬ ((key.size = 16 ∨ key.size = 32) ∧ 8 ≤ nonce.size ∧ nonce.size ≤ 16)) :
    Calls Try.prog 21 #[.string key, .string nonce, .string s, .string t] w fun e w' => e = .returned (.tuple #[.string ⟨#[]⟩, .string ⟨#[]⟩, .int .i64 1]) ∧ Below w.heap.size w w' := by
  have C1 := Lib.hid (fun X => right_any key nonce X)
  rw [decide_eq_false h] at C1
  clear h
  go_enter Try.func21, Try.ntmps21
  go_wp2_with fail
  refine (C1.out _).mono ?_
  rintro e w1 ⟨rfl, h1⟩
  rw [h1]
  clear h1 w1
  go_wp2
  go_ret3
  exact ⟨rfl, Below.refl _ _⟩

set_option maxHeartbeats 4000000 in
theorem ropen_none (key nonce s t g : ByteArray) (w : World) (h : ¬ ((key.size = 16 ∨ key.size = 32) ∧ 8 ≤ nonce.size ∧ nonce.size ≤ 16)) :
    Calls Try.prog 23 #[.string key, .string nonce, .string s, .string t, .string g] w fun e w' => e = .returned (.tuple #[.string ⟨#[]⟩, .int .i64 1]) ∧ Below w.heap.size w w' := by
  have C1 := Lib.hid (fun X => right_any key nonce X)
  rw [decide_eq_false h] at C1
  clear h
  go_enter Try.func23, Try.ntmps23
  go_wp2_with fail
  refine (C1.out _).mono ?_
  rintro e w1 ⟨rfl, h1⟩
  rw [h1]
  clear h1 w1
  go_wp2
  go_ret2
  exact ⟨rfl, Below.refl _ _⟩

theorem loop_toList (b : ByteArray) (n : Nat) : ∀ i r, b.size - i = n → ByteArray.toList.loop b i r = r.reverse ++ b.data.toList.drop i := by
  induction n with
  | zero =>
    intro i r h
    unfold ByteArray.toList.loop
    rw [if_neg (by omega), List.drop_eq_nil_of_le (by rw [Array.length_toList]; show b.size ≤ i; omega), List.append_nil]
  | succ n ih =>
    intro i r h
    have hi : i < b.data.toList.length := by rw [Array.length_toList]; show i < b.size; omega
    unfold ByteArray.toList.loop
    rw [if_pos (by omega), ih (i + 1) _ (by omega), List.drop_eq_getElem_cons hi, List.reverse_cons, List.append_assoc]
    congr 2
    have hi2 : i < b.data.size := by omega
    show b.get! i :: _ = _
    congr 1
    show b.data[i]! = _
    rw [getElem!_pos b.data i hi2]
    simp
theorem toList_data (b : ByteArray) : b.toList = b.data.toList := by
  unfold ByteArray.toList
  rw [loop_toList b b.size 0 [] (by omega)]
  simp

theorem text_ne {a b : ByteArray} (h : a ≠ b) : (a.toList == b.toList) = false := by
  apply beq_eq_false_iff_ne.2
  intro e
  rw [toList_data, toList_data] at e
  exact h (ByteArray.ext (Array.ext' e))

set_option maxHeartbeats 4000000 in
theorem ropen_ok (n : Nat) (key nonce s t g : ByteArray) (w : World) (hn : n = 4 ∨ n = 8) (hk : key.size = 4 * n) (h8 : 8 ≤ nonce.size) (h16 : nonce.size ≤ 16) (hs : s.size ≤ 1048576) (ht : t.size ≤ 1048576) :
    Calls Try.prog 23 #[.string key, .string nonce, .string s, .string t, .string g] w fun e w' => e = .returned (openV n key nonce s t g) ∧ Below w.heap.size w w' := by
  have C1 := Lib.hid (fun X => right_any key nonce X)
  rw [decide_eq_true (show (key.size = 16 ∨ key.size = 32) ∧ 8 ≤ nonce.size ∧ nonce.size ≤ 16 from ⟨by omega, h8, h16⟩)] at C1
  have C2 := Lib.hid (fun X => turn_any n key nonce s t true X hn hk h8 h16 hs ht)
  clear hn hk h8 h16 hs ht
  rw [if_pos rfl] at C2
  obtain ⟨T, hT⟩ : ∃ T, T = tagB n key nonce s t := ⟨_, rfl⟩
  rw [← hT] at C2
  unfold openV
  rw [← hT]
  clear hT
  obtain ⟨S, hS⟩ : ∃ S, S = turnB n key nonce t := ⟨_, rfl⟩
  rw [← hS] at C2 ⊢
  clear hS
  by_cases hg : g = T
  · subst hg
    rw [if_pos rfl]
    go_enter Try.func23, Try.ntmps23
    go_wp2_with fail
    refine (C1.out _).mono ?_
    rintro e w1 ⟨rfl, h1⟩
    rw [h1]
    clear h1 w1
    go_wp2_with fail
    refine (C2.out _).mono ?_
    rintro e w2 ⟨rfl, hb2⟩
    have HB := Lib.hid hb2
    clear hb2
    go_wp2
    go_ret2
    exact ⟨rfl, HB.out⟩
  · rw [if_neg hg]
    have d1 := text_ne (fun e => hg e.symm)
    have d2 : ¬ T = g := fun e => hg e.symm
    have HG := Lib.hid hg
    clear hg
    go_enter Try.func23, Try.ntmps23
    go_wp2_with fail
    refine (C1.out _).mono ?_
    rintro e w1 ⟨rfl, h1⟩
    rw [h1]
    clear h1 w1
    go_wp2_with fail
    refine (C2.out _).mono ?_
    rintro e w2 ⟨rfl, hb2⟩
    have HB := Lib.hid hb2
    clear hb2
    go_wp2
    go_ret2
    exact ⟨rfl, HB.out⟩

end Gcm
end Go.Proofs.Ytpjobjpdfhpobaa

namespace Go.Proofs.Ytpjobjpdfhpobaa
namespace Gcm
open Go.ChangeShapes Go.WideShapes Go.ChangeAt Go.RowKit Go.Great Go.ChangeMaps
open Gf Aes
set_option linter.unusedVariables false
set_option maxRecDepth 100000

def oneB : ByteArray := ⟨#[128, 0, 0, 0, 0, 0, 0, 0, 0, 0, 0, 0, 0, 0, 0, 0]⟩
theorem one_num : numT oneB = 2 ^ 127 := by decide +kernel
theorem one_one : blockB (times128 (numT oneB) (numT oneB)) = oneB := by
  have e : times128 (numT oneB) (numT oneB) = numT oneB := by decide +kernel
  rw [e]
  exact blockB_num oneB (by decide)

set_option maxHeartbeats 4000000 in
theorem awake_any (w : World) : Calls Try.prog 10 #[] w fun e w' => e = .returned (.bool true) ∧ Below w.heap.size w w' := by
  have C1 := Lib.hid (fun X => Times_any oneB oneB X (by decide) (by decide))
  rw [one_one] at C1
  go_enter Try.func10, Try.ntmps10
  go_wp2_with fail
  refine (seal_ok 4 _ _ _ _ _ (.inl rfl) (by decide) (by decide) (by decide) (by decide) (by decide)).mono ?_
  rintro e w1 ⟨rfl, hb1⟩
  have HB1 := Lib.hid hb1
  have hT := tagB_size 4 ⟨#[48, 49, 50, 51, 52, 53, 54, 55, 56, 57, 97, 98, 99, 100, 101, 102]⟩ ⟨#[48, 49, 50, 51, 52, 53, 54, 55, 56, 57, 97, 98]⟩ ⟨#[]⟩ (turnB 4 ⟨#[48, 49, 50, 51, 52, 53, 54, 55, 56, 57, 97, 98, 99, 100, 101, 102]⟩ ⟨#[48, 49, 50, 51, 52, 53, 54, 55, 56, 57, 97, 98]⟩ ⟨#[]⟩)
  clear hb1
  generalize tagB 4 ⟨#[48, 49, 50, 51, 52, 53, 54, 55, 56, 57, 97, 98, 99, 100, 101, 102]⟩ ⟨#[48, 49, 50, 51, 52, 53, 54, 55, 56, 57, 97, 98]⟩ ⟨#[]⟩ (turnB 4 ⟨#[48, 49, 50, 51, 52, 53, 54, 55, 56, 57, 97, 98, 99, 100, 101, 102]⟩ ⟨#[48, 49, 50, 51, 52, 53, 54, 55, 56, 57, 97, 98]⟩ ⟨#[]⟩) = T at *
  generalize turnB 4 ⟨#[48, 49, 50, 51, 52, 53, 54, 55, 56, 57, 97, 98, 99, 100, 101, 102]⟩ ⟨#[48, 49, 50, 51, 52, 53, 54, 55, 56, 57, 97, 98]⟩ ⟨#[]⟩ = S at *
  have e1 : (T.size : Int) = 16 := by omega
  clear hT
  go_wp2_with fail
  refine (C1.out _).mono ?_
  rintro e w2 ⟨rfl, hb2⟩
  have HB2 := Lib.hid (below_link HB1.out hb2)
  clear hb2
  unfold oneB
  go_wp2
  go_ret
  exact ⟨by simp, HB2.out⟩

set_option maxHeartbeats 4000000 in
theorem lor_any (a b : ByteArray) (w : World) (ha : a.size = 16) (hb : b.size = 16) :
    Calls Try.prog 15 #[.string a, .string b] w fun e w' => e = .returned (.string (orB a b)) ∧ Below w.heap.size w w' := by
  obtain ⟨F, hF⟩ : ∃ F : Nat → Nat, F = fun j => (nums a).getD j 0 ^^^ (nums b).getD j 0 := ⟨_, rfl⟩
  obtain ⟨G, hG⟩ : ∃ G : Nat → Nat, G = fun j => (nums a).getD j 0 := ⟨_, rfl⟩
  have hend : blend F G 16 16 = orL (nums a) (nums b) := by
    rw [blend_all _ _ (Nat.le_refl _), ← orL_map, nums_length, nums_length, ha, hb, hF]; rfl
  have hstart : blend F G 16 0 = nums a := by
    have := blend_start (nums a) F
    rw [nums_length, ha] at this
    rw [hG]; exact this
  obtain ⟨cap, W, hcv, hrow⟩ := bytes_row a w
  rw [← hstart] at hrow
  rw [ha] at hcv
  have e1 : (a.size : Int) = 16 := by omega
  have e2 : (b.size : Int) = 16 := by omega
  have HR := Lib.hid hrow
  have HE := Lib.hid (And.intro hend (And.intro hF (And.intro hG (And.intro ha hb))))
  unfold orB
  clear hrow hend hstart hF hG ha hb
  go_enter Try.func15, Try.ntmps15
  go_wp2
  clear hcv
  go_loopw [6] (fun x wr => ∃ k : Nat, k ≤ 16 ∧ x = .int .i64 (k : Nat) ∧ Rw w w.heap.size (blend F G 16 k) wr) (fun x _ => 16 - (intOf x).toNat)
  case atStart => exact ⟨0, Nat.zero_le _, rfl, HR.out⟩
  case round =>
    obtain ⟨k, hk, rfl, hS⟩ := hrel
    clear HR
    by_cases hlt : k < 16
    · have hkb : k < b.size := by have := HE.out.2.2.2.2; omega
      obtain ⟨x, hx⟩ : ∃ x, x = (nums a).getD k 0 := ⟨_, rfl⟩
      obtain ⟨y, hy⟩ : ∃ y, y = (nums b).getD k 0 := ⟨_, rfl⟩
      obtain ⟨z, hz⟩ : ∃ z, z = x ^^^ y := ⟨_, rfl⟩
      have xb : (b[k].toNat : Int) = (y : Int) := by rw [hy, List.getD_eq_getElem?_getD, nums_get b k hkb]; rfl
      have q1 := u8_xor_nat x y (by rw [hx]; exact Small.get (nums_lt a) k) (by rw [hy]; exact Small.get (nums_lt b) k)
      rw [← hz] at q1
      have hFk : z = F k := by rw [hz, hx, hy, HE.out.2.1]
      have c1 := hS.cell k x (by rw [blend_get _ _ hlt, if_neg (Nat.lt_irrefl _), HE.out.2.2.1, hx])
      have f1 := hS.frozen k (by rw [blend_length]; exact hlt)
      have hst := hS.set (j := k) (by rw [blend_length]; exact hlt) z
      rw [hFk, blend_next, ← hFk] at hst
      have q2 : (k : Int) < 16 := by omega
      have q4 : (k : Int) < (b.size : Int) := by omega
      have HST := Lib.hid hst
      clear hst hS hx hy hz hFk
      go_wp2
      go_region
      all_goals (go_wp2; go_roundw)
      all_goals first
        | exact ⟨k + 1, by omega, by go_num, HST.out.drew⟩
        | (simp [intOf]; omega)
    · obtain rfl : k = 16 := by omega
      rw [HE.out.1] at hS
      have hb := hS.back (orL_lt (nums_lt a) (nums_lt b)) 16 cap (by rw [orL_length, nums_length, nums_length, HE.out.2.2.2.1, HE.out.2.2.2.2]; rfl)
      have HB := Lib.hid hS.below
      clear hS
      go_wp2
      go_ret
      exact ⟨rfl, HB.out⟩

set_option maxHeartbeats 4000000 in
theorem few_any (a b c d : ByteArray) (w : World) :
    Calls Try.prog 19 #[.agg #[.string a, .string b, .string c, .string d]] w fun e w' => e = .returned (.bool (decide (a.size ≤ 100 ∧ b.size ≤ 100 ∧ c.size ≤ 200 ∧ d.size ≤ 300))) ∧ Below w.heap.size w w' := by
  by_cases h1 : a.size ≤ 100
  · have g1 : (a.size : Int) ≤ 100 := by omega
    by_cases h2 : b.size ≤ 100
    · have g2 : (b.size : Int) ≤ 100 := by omega
      by_cases h3 : c.size ≤ 200
      · have g3 : (c.size : Int) ≤ 200 := by omega
        by_cases h4 : d.size ≤ 300
        · have g4 : (d.size : Int) ≤ 300 := by omega
          rw [decide_eq_true ⟨h1, h2, h3, h4⟩]
          clear h1 h2 h3 h4
          go_enter Try.func19, Try.ntmps19
          go_wp2
          go_ret
          exact ⟨by simp, below_alloc (Below.refl _ _) _⟩
        · have g4 : ¬ (d.size : Int) ≤ 300 := by omega
          rw [decide_eq_false (fun h => h4 h.2.2.2)]
          clear h1 h2 h3 h4
          go_enter Try.func19, Try.ntmps19
          go_wp2
          go_ret
          exact ⟨by simp, below_alloc (Below.refl _ _) _⟩
      · have g3 : ¬ (c.size : Int) ≤ 200 := by omega
        rw [decide_eq_false (fun h => h3 h.2.2.1)]
        clear h1 h2 h3
        go_enter Try.func19, Try.ntmps19
        go_wp2
        go_ret
        exact ⟨by simp, below_alloc (Below.refl _ _) _⟩
    · have g2 : ¬ (b.size : Int) ≤ 100 := by omega
      rw [decide_eq_false (fun h => h2 h.2.1)]
      clear h1 h2
      go_enter Try.func19, Try.ntmps19
      go_wp2
      go_ret
      exact ⟨by simp, below_alloc (Below.refl _ _) _⟩
  · have g1 : ¬ (a.size : Int) ≤ 100 := by omega
    rw [decide_eq_false (fun h => h1 h.1)]
    clear h1
    go_enter Try.func19, Try.ntmps19
    go_wp2
    go_ret
    exact ⟨by simp, below_alloc (Below.refl _ _) _⟩

set_option maxHeartbeats 4000000 in
theorem lhashed_any (h b : ByteArray) (w : World) (hb : b.size ≤ 1048576) :
    Calls Try.prog 18 #[.string h, .string b] w fun e w' => e = .returned (.string (if h.size = 16 then blockB (hashN (numB h) [] (nums b)) else ⟨#[]⟩)) ∧ Below w.heap.size w w' := by
  by_cases h1 : h.size = 16
  · rw [if_pos h1]
    have g1 : (h.size : Int) = 16 := by omega
    have C1 : Hid (∀ X, Calls Try.prog 17 #[.string h, .string ⟨#[]⟩, .string b] X fun e w' => e = .returned (.string (blockB (hashN (numB h) [] (nums b)))) ∧ Below X.heap.size X w') := Lib.hid (fun X => rhash_any h ⟨#[]⟩ b X h1 (by decide) hb)
    clear h1 hb
    go_enter Try.func18, Try.ntmps18
    go_wp2_with fail
    refine (C1.out _).mono ?_
    rintro e w1 ⟨rfl, hb1⟩
    have HB := Lib.hid hb1
    clear hb1
    go_wp2
    go_ret
    exact ⟨rfl, HB.out⟩
  · rw [if_neg h1]
    have g1 : ¬ (h.size : Int) = 16 := by omega
    clear h1
    go_enter Try.func18, Try.ntmps18
    go_wp2
    go_ret
    exact ⟨rfl, Below.refl _ _⟩

end Gcm
end Go.Proofs.Ytpjobjpdfhpobaa
