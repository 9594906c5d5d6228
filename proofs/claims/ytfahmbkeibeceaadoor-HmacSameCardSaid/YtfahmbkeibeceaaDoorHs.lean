/-
  The walk of HmacSame. Conditions: the table of round constants holds the standard's numbers.
-/
import Derived.Test.YtfahmbkeibeceaaDoorHb
import Derived.Test.YtfahmbkeibeceaaDoorTf
namespace Go.Proofs.YtfahmbkeibeceaaDoor
open Go.ChangeShapes Go.WideShapes Go.ChangeAt Go.RowKit Go.Great Go.ChangeMaps
open Sha
set_option linter.unusedVariables false

theorem addr_add (g j : Nat) : (⟨g, 0, none⟩ : Addr).add j = ⟨g, j, none⟩ := by unfold Addr.add; split <;> simp_all

theorem cells_back (Y : World) (g cap : Nat) (m : List Nat) (hl : ∀ c ∈ m, c < 256) (hcell : ∀ j (h : j < m.length), Y.cell? ⟨g, j, none⟩ = some (.int .u8 ((m[j] : Nat) : Int))) (n : Nat) (hn : n = m.length) :
    (convert 27 9 (.slice (some ⟨g, 0, none⟩) n cap)).run Tryd.prog Y = .ok (.string (toB m)) Y := by
  have e : n = (m.map UInt8.ofNat).length := by rw [List.length_map]; exact hn
  rw [e]
  refine run_convert_bytes_back Y 27 9 5 _ cap (m.map UInt8.ofNat) Tryd.underlying27 Tryd.underlying5 Tryd.underlying9 fun j hj => ?_
  have hj' : j < m.length := by rw [List.length_map] at hj; exact hj
  rw [addr_add, hcell j hj']
  have hc := hl m[j] (List.getElem_mem hj')
  simp [Nat.mod_eq_of_lt hc]

theorem gm_set_cells {w X : World} {l : List Nat} {g cap : Nat} (h : Gm w (.slice (some ⟨g, 0, none⟩) l.length cap) l X) (k y : Nat) (hk : k < l.length) (m : List Nat) (hm : m = l.set k y) :
    ∀ j (h : j < m.length), (X.setCell ⟨g, k, none⟩ (.int .u8 (y : Nat))).cell? ⟨g, j, none⟩ = some (.int .u8 ((m[j] : Nat) : Int)) := by
  obtain ⟨⟨g', cap', hv, hg, hgl, hle, hc, hsp⟩, hb⟩ := h
  injection hv with h1 h2 h3
  injection h1 with h1
  injection h1 with h1
  subst h1
  subst hm
  intro j hj'
  have hjl : j < l.length := by rw [List.length_set] at hj'; exact hj'
  by_cases ej : k = j
  · subst ej
    rw [World.cell?_setCell_same _ _ _ (hc k l[k] (List.getElem?_eq_getElem hk)), List.getElem_set_self]
  · rw [World.cell?_setCell_other _ _ _ _ (fun x => ej (by injection x)), hc j l[j] (List.getElem?_eq_getElem hjl), List.getElem_set_ne ej]
theorem set_small {l : List Nat} {k y : Nat} (hl : ∀ c ∈ l, c < 256) (hy : y < 256) : ∀ c ∈ l.set k y, c < 256 := fun c hc => by
  rcases List.mem_or_eq_of_mem_set hc with h | h
  · exact hl c h
  · rw [h]; exact hy

theorem text_ne {a b : ByteArray} (h : a ≠ b) : (a.toList == b.toList) = false ∧ ¬ a.toList = b.toList := by
  have : ¬ a.toList = b.toList := fun e => h (ByteArray.ext (Array.ext' (by rwa [ByteArray.toList_eq, ByteArray.toList_eq] at e)))
  exact ⟨beq_eq_false_iff_ne.2 this, this⟩

theorem bent_ne (a : ByteArray) (k y c : Nat) (hc : (nums a)[k]? = some c) (hy : y < 256) (hne : y ≠ c) : a ≠ toB ((nums a).set k y) := by
  intro e
  have hk : k < (nums a).length := (List.getElem?_eq_some_iff.1 hc).1
  have e2 := congrArg nums e
  rw [nums_toB _ (fun c hc => by
    rcases List.mem_or_eq_of_mem_set hc with h | h
    · exact nums_lt a c h
    · rw [h]; exact hy)] at e2
  have e3 := congrArg (fun l => l[k]?) e2
  simp only [hc, List.getElem?_set_self hk] at e3
  exact hne (Option.some.inj e3).symm

set_option maxHeartbeats 1000000 in
theorem hsame_long (a b : ByteArray) (p q : Nat) (w : World) (hK : Kon w) (hl : 500 < a.size ∨ (a.size ≤ 500 ∧ 500 < b.size)) :
    Calls Tryd.prog 9 #[.string a, .string b, .agg #[.int .u16 (p : Nat), .int .u16 (q : Nat)]] w fun e w' => e = .returned (.bool true) ∧ Below w.heap.size w w' := by
  have HK := Lib.hid hK; clear hK
  have HB0 := Lib.hid (below_alloc (Below.refl w.heap.size w) (.cells #[.int .u16 (p : Nat), .int .u16 (q : Nat)] 39))
  rcases hl with hl | ⟨hl0, hl⟩
  · have g1 : (500 : Int) < (a.size : Int) := by omega
    go_enter Tryd.func9, Tryd.ntmps9
    go_wp2_with fail
    refine (hawake _ (HK.out.alloc _)).mono ?_
    rintro e w1 ⟨rfl, hb1⟩
    have HB1 := Lib.hid (below_link HB0.out hb1); clear hb1
    go_wp2_with fail
    refine (hawake _ (HK.out.next HB1.out)).mono ?_
    rintro e w2 ⟨rfl, hb2⟩
    have HB2 := Lib.hid (below_link HB1.out hb2); clear hb2
    go_wp2
    go_ret
    exact ⟨rfl, HB2.out⟩
  · have g1 : (500 : Int) < (b.size : Int) := by omega
    have g0 : ¬ (500 : Int) < (a.size : Int) := by omega
    go_enter Tryd.func9, Tryd.ntmps9
    go_wp2_with fail
    refine (hawake _ (HK.out.alloc _)).mono ?_
    rintro e w1 ⟨rfl, hb1⟩
    have HB1 := Lib.hid (below_link HB0.out hb1); clear hb1
    go_wp2_with fail
    refine (hawake _ (HK.out.next HB1.out)).mono ?_
    rintro e w2 ⟨rfl, hb2⟩
    have HB2 := Lib.hid (below_link HB1.out hb2); clear hb2
    go_wp2
    go_ret
    exact ⟨rfl, HB2.out⟩

set_option maxHeartbeats 2000000 in
theorem hsame_eq_empty (p q : Nat) (w : World) (hK : Kon w) (hp : p < 65536) (hq : q < 65536) :
    Calls Tryd.prog 9 #[.string (⟨#[]⟩ : ByteArray), .string (⟨#[]⟩ : ByteArray), .agg #[.int .u16 (p : Nat), .int .u16 (q : Nat)]] w fun e w' => e = .returned (.bool true) ∧ Below w.heap.size w w' := by
  have HK := Lib.hid hK; clear hK
  have HB0 := Lib.hid (below_alloc (Below.refl w.heap.size w) (.cells #[.int .u16 (p : Nat), .int .u16 (q : Nat)] 39))
  have HAT := Lib.hid (heap_alloc_new w (.cells #[.int .u16 (p : Nat), .int .u16 (q : Nat)] 39))
  have HS1 := Lib.hid (fun X => same_any (⟨#[]⟩ : ByteArray) (⟨#[]⟩ : ByteArray) X (by decide) (by decide))
  have HS2 := Lib.hid (fun X => same_any (⟨#[]⟩ : ByteArray) (⟨#[]⟩ : ByteArray) X (by decide) (by decide))
  have d2 : decide ((⟨#[]⟩ : ByteArray) = (⟨#[]⟩ : ByteArray)) = true := decide_eq_true rfl
  rw [d2] at HS1
  rw [d2] at HS2
  clear hp hq d2 
  go_enter Tryd.func9, Tryd.ntmps9
  go_wp2_with fail
  refine (hawake _ (HK.out.alloc _)).mono ?_
  rintro e w1 ⟨rfl, hb1⟩
  have hat := keepBlock HAT.out hb1
  have HB1 := Lib.hid (below_link HB0.out hb1); clear hb1
  have HAT1 := Lib.hid hat; clear hat
  go_wp2_with fail
  refine (HS1.out _).mono ?_
  rintro e w2 ⟨rfl, hb2⟩
  have hat := keepBlock HAT1.out hb2
  have HB2 := Lib.hid (below_link HB1.out hb2); clear hb2
  have HAT2 := Lib.hid hat; clear hat
  go_wp2_with fail
  refine (HS2.out _).mono ?_
  rintro e w3 ⟨rfl, hb3⟩
  have hat := keepBlock HAT2.out hb3
  have HB3 := Lib.hid (below_link HB2.out hb3); clear hb3
  have HAT3 := Lib.hid hat; clear hat
  go_wp2
  go_ret
  exact ⟨rfl, HB3.out⟩

set_option maxHeartbeats 2000000 in
theorem hsame_eq_full (a : ByteArray) (p q : Nat) (w : World) (hK : Kon w) (ha : a.size ≤ 500) (ha0 : 0 < a.size) (hp : p < 65536) (hq : q < 65536) :
    Calls Tryd.prog 9 #[.string a, .string a, .agg #[.int .u16 (p : Nat), .int .u16 (q : Nat)]] w fun e w' => e = .returned (.bool true) ∧ Below w.heap.size w w' := by
  have HK := Lib.hid hK; clear hK
  have HB0 := Lib.hid (below_alloc (Below.refl w.heap.size w) (.cells #[.int .u16 (p : Nat), .int .u16 (q : Nat)] 39))
  have HAT := Lib.hid (heap_alloc_new w (.cells #[.int .u16 (p : Nat), .int .u16 (q : Nat)] 39))
  have g1 : ¬ (500 : Int) < (a.size : Int) := by omega
  have HS1 := Lib.hid (fun X => same_any a a X (by omega) (by omega))
  have HS2 := Lib.hid (fun X => same_any a a X (by omega) (by omega))
  have d2 : decide (a = a) = true := decide_eq_true rfl
  rw [d2] at HS1
  rw [d2] at HS2
  have hane : a ≠ ⟨#[]⟩ := by rintro rfl; exact Nat.lt_irrefl _ ha0
  have d4 := (text_ne hane).1
  have d5 := (text_ne hane).2
  rw [show (⟨#[]⟩ : ByteArray).toList = [] from by rw [ByteArray.toList_eq]] at d4 d5
  have HA := Lib.hid (And.intro ha ha0)
  have HPQ := Lib.hid (And.intro hp hq)
  clear hp hq d2 ha ha0 
  go_enter Tryd.func9, Tryd.ntmps9
  go_wp2_with fail
  refine (hawake _ (HK.out.alloc _)).mono ?_
  rintro e w1 ⟨rfl, hb1⟩
  have hat := keepBlock HAT.out hb1
  have HB1 := Lib.hid (below_link HB0.out hb1); clear hb1
  have HAT1 := Lib.hid hat; clear hat
  go_wp2_with fail
  refine (HS1.out _).mono ?_
  rintro e w2 ⟨rfl, hb2⟩
  have hat := keepBlock HAT1.out hb2
  have HB2 := Lib.hid (below_link HB1.out hb2); clear hb2
  have HAT2 := Lib.hid hat; clear hat
  go_wp2_with fail
  refine (HS2.out _).mono ?_
  rintro e w3 ⟨rfl, hb3⟩
  have hat := keepBlock HAT2.out hb3
  have HB3 := Lib.hid (below_link HB2.out hb3); clear hb3
  have HAT3 := Lib.hid hat; clear hat
  obtain ⟨cap, W, hconv, hG, hBW⟩ := bytes_gm a w3 w3 (Below.refl _ _)
  have hat := keepBlock HAT3.out hBW
  obtain ⟨P, hP⟩ : ∃ P, P = w.heap.size := ⟨_, rfl⟩
  have HB4 := Lib.hid (below_link HB3.out hBW)
  have HG := Lib.hid hG; clear hG hBW
  have HAT4 := Lib.hid hat
  obtain ⟨k, hk⟩ : ∃ k, k = p % a.size := ⟨_, rfl⟩
  have hkl : k < a.size := by rw [hk]; exact Nat.mod_lt _ HA.out.2
  obtain ⟨r, hr⟩ : ∃ r, r = q % 8 := ⟨_, rfl⟩
  have hr8 : r < 8 := by omega
  have q1 : Int.tmod (p : Int) (a.size : Int) = (k : Int) := by rw [Int.tmod_eq_emod_of_nonneg (by omega), hk]; exact (Int.natCast_emod p a.size).symm
  have q2 : (p : Int) % (a.size : Int) = (k : Int) := by rw [hk]; exact (Int.natCast_emod p a.size).symm
  have q3 : Int.tmod (q : Int) 8 = (r : Int) := by rw [Int.tmod_eq_emod_of_nonneg (by omega)]; omega
  have q4 : (q : Int) % 8 = (r : Int) := by omega
  have q5 : IntKind.i64.wrap (p : Int) = (p : Int) := by have := HPQ.out.1; rw [IntKind.wrap_i64]; omega
  have q6 : (k : Int) < (a.size : Int) := by omega
  have q7 : ¬ (a.size : Int) = 0 := by have := HA.out.2; omega
  have a0 : W.cell? ⟨w.heap.size, 0, none⟩ = some (.int .u16 (p : Nat)) := cell_of_row _ _ 0 _ _ _ HAT4.out
  have a1 : W.cell? ⟨w.heap.size, 1, none⟩ = some (.int .u16 (q : Nat)) := cell_of_row _ _ 1 _ _ _ HAT4.out
  obtain ⟨c, hc⟩ : ∃ c, (nums a)[k]? = some c := ⟨_, List.getElem?_eq_getElem (by rw [nums_length]; exact hkl)⟩
  have hcl : c < 256 := nums_lt a c (List.mem_of_getElem? hc)
  have hgx := HG.out.ex
  obtain ⟨g', cap', hv, -, -, hle, hcs, hsp⟩ := hgx
  injection hv with v1 v2 v3
  injection v1 with v1
  injection v1 with v1
  subst v1
  have b0 : W.cell? ⟨w3.heap.size, k, none⟩ = some (.int .u8 (c : Nat)) := hcs k c hc
  have b1 : W.frozen? ⟨w3.heap.size, k, none⟩ = false := (hsp k (by rw [nums_length] at hle; omega)).2
  have hG2 : Gm w3 (.slice (some ⟨w3.heap.size, 0, none⟩) (nums a).length cap) (nums a) W := by rw [nums_length]; exact HG.out
  have HBACK := Lib.hid (fun y (hy : y < 256) => cells_back (W.setCell ⟨w3.heap.size, k, none⟩ (.int .u8 (y : Nat))) w3.heap.size cap _ (set_small (nums_lt a) hy) (gm_set_cells hG2 k y (by rw [nums_length]; exact hkl) _ rfl) a.size (by rw [List.length_set, nums_length]))
  have HBACKD := Lib.hid (fun y (hy : y < 256) => cells_back (W.setCell ⟨w3.heap.size, k, none⟩ (.int .u8 (y : Nat))).drew w3.heap.size cap _ (set_small (nums_lt a) hy) (gm_set_cells hG2 k y (by rw [nums_length]; exact hkl) _ rfl) a.size (by rw [List.length_set, nums_length]))
  have HLT := Lib.hid (show w3.heap.size ≥ w.heap.size from HB3.out.size)
  have HNE := Lib.hid (fun y hy hne => bent_ne a k y c hc hy hne)
  have HCL := Lib.hid hcl
  have hsz : ∀ y, (toB ((nums a).set k y)).size = a.size := fun y => by rw [toB_size, List.length_set, nums_length]
  have HSZ := Lib.hid hsz
  clear hsz hc hcl hcs hsp hle hG2 hat hP hk hr v2 v3 HS1 HS2
  match r, hr8 with
  | 0, _ =>
    have e1 := u8_xor_nat c 1 HCL.out (by decide)
    obtain ⟨y, hy⟩ : ∃ y, y = c ^^^ 1 := ⟨_, rfl⟩
    rw [← hy] at e1
    have hyl : y < 256 := by rw [hy]; exact Nat.xor_lt_two_pow (n := 8) HCL.out (by decide)
    have hyc : y ≠ c := by
      intro e
      have h := congrArg (fun z => c ^^^ z) (hy.symm.trans e)
      rw [← Nat.xor_assoc, Nat.xor_self, Nat.zero_xor] at h
      exact absurd h (by decide)
    have e1' : bits .xor .u8 (c : Int) 1 = (y : Int) := e1
    have hback := HBACK.out y hyl
    have hbackD := HBACKD.out y hyl
    have hne := HNE.out y hyl hyc
    obtain ⟨S, hS⟩ : ∃ S, S = toB ((nums a).set k y) := ⟨_, rfl⟩
    have hSs : S.size = a.size := by rw [hS]; exact HSZ.out y
    rw [← hS] at hback hbackD hne
    have HS3 := Lib.hid (fun X => same_any a S X (by have := HA.out; omega) (by have := HA.out; omega))
    have df : decide (a = S) = false := decide_eq_false hne
    rw [df] at HS3
    have HB5 := Lib.hid (show Below w.heap.size w (W.setCell ⟨w3.heap.size, k, none⟩ (.int .u8 (y : Nat))) from HB4.out.setCell HLT.out _)
    clear hy hyl hyc hne hS hSs df e1
    go_wp2
    go_region
    all_goals (go_wp2_with fail)
    all_goals (refine (HS3.out _).mono ?_)
    all_goals (rintro e w5 ⟨rfl, hb5⟩)
    all_goals (first | have HB6 := Lib.hid (below_link HB5.out hb5) | have HB6 := Lib.hid (below_link HB5.out.drew hb5))
    all_goals clear hb5
    all_goals (go_wp2; go_ret)
    all_goals exact ⟨rfl, HB6.out⟩
  | 1, _ =>
    have e1 := u8_xor_nat c 2 HCL.out (by decide)
    obtain ⟨y, hy⟩ : ∃ y, y = c ^^^ 2 := ⟨_, rfl⟩
    rw [← hy] at e1
    have hyl : y < 256 := by rw [hy]; exact Nat.xor_lt_two_pow (n := 8) HCL.out (by decide)
    have hyc : y ≠ c := by
      intro e
      have h := congrArg (fun z => c ^^^ z) (hy.symm.trans e)
      rw [← Nat.xor_assoc, Nat.xor_self, Nat.zero_xor] at h
      exact absurd h (by decide)
    have e1' : bits .xor .u8 (c : Int) 2 = (y : Int) := e1
    have hback := HBACK.out y hyl
    have hbackD := HBACKD.out y hyl
    have hne := HNE.out y hyl hyc
    obtain ⟨S, hS⟩ : ∃ S, S = toB ((nums a).set k y) := ⟨_, rfl⟩
    have hSs : S.size = a.size := by rw [hS]; exact HSZ.out y
    rw [← hS] at hback hbackD hne
    have HS3 := Lib.hid (fun X => same_any a S X (by have := HA.out; omega) (by have := HA.out; omega))
    have df : decide (a = S) = false := decide_eq_false hne
    rw [df] at HS3
    have HB5 := Lib.hid (show Below w.heap.size w (W.setCell ⟨w3.heap.size, k, none⟩ (.int .u8 (y : Nat))) from HB4.out.setCell HLT.out _)
    clear hy hyl hyc hne hS hSs df e1
    go_wp2
    go_region
    all_goals (go_wp2_with fail)
    all_goals (refine (HS3.out _).mono ?_)
    all_goals (rintro e w5 ⟨rfl, hb5⟩)
    all_goals (first | have HB6 := Lib.hid (below_link HB5.out hb5) | have HB6 := Lib.hid (below_link HB5.out.drew hb5))
    all_goals clear hb5
    all_goals (go_wp2; go_ret)
    all_goals exact ⟨rfl, HB6.out⟩
  | 2, _ =>
    have e1 := u8_xor_nat c 4 HCL.out (by decide)
    obtain ⟨y, hy⟩ : ∃ y, y = c ^^^ 4 := ⟨_, rfl⟩
    rw [← hy] at e1
    have hyl : y < 256 := by rw [hy]; exact Nat.xor_lt_two_pow (n := 8) HCL.out (by decide)
    have hyc : y ≠ c := by
      intro e
      have h := congrArg (fun z => c ^^^ z) (hy.symm.trans e)
      rw [← Nat.xor_assoc, Nat.xor_self, Nat.zero_xor] at h
      exact absurd h (by decide)
    have e1' : bits .xor .u8 (c : Int) 4 = (y : Int) := e1
    have hback := HBACK.out y hyl
    have hbackD := HBACKD.out y hyl
    have hne := HNE.out y hyl hyc
    obtain ⟨S, hS⟩ : ∃ S, S = toB ((nums a).set k y) := ⟨_, rfl⟩
    have hSs : S.size = a.size := by rw [hS]; exact HSZ.out y
    rw [← hS] at hback hbackD hne
    have HS3 := Lib.hid (fun X => same_any a S X (by have := HA.out; omega) (by have := HA.out; omega))
    have df : decide (a = S) = false := decide_eq_false hne
    rw [df] at HS3
    have HB5 := Lib.hid (show Below w.heap.size w (W.setCell ⟨w3.heap.size, k, none⟩ (.int .u8 (y : Nat))) from HB4.out.setCell HLT.out _)
    clear hy hyl hyc hne hS hSs df e1
    go_wp2
    go_region
    all_goals (go_wp2_with fail)
    all_goals (refine (HS3.out _).mono ?_)
    all_goals (rintro e w5 ⟨rfl, hb5⟩)
    all_goals (first | have HB6 := Lib.hid (below_link HB5.out hb5) | have HB6 := Lib.hid (below_link HB5.out.drew hb5))
    all_goals clear hb5
    all_goals (go_wp2; go_ret)
    all_goals exact ⟨rfl, HB6.out⟩
  | 3, _ =>
    have e1 := u8_xor_nat c 8 HCL.out (by decide)
    obtain ⟨y, hy⟩ : ∃ y, y = c ^^^ 8 := ⟨_, rfl⟩
    rw [← hy] at e1
    have hyl : y < 256 := by rw [hy]; exact Nat.xor_lt_two_pow (n := 8) HCL.out (by decide)
    have hyc : y ≠ c := by
      intro e
      have h := congrArg (fun z => c ^^^ z) (hy.symm.trans e)
      rw [← Nat.xor_assoc, Nat.xor_self, Nat.zero_xor] at h
      exact absurd h (by decide)
    have e1' : bits .xor .u8 (c : Int) 8 = (y : Int) := e1
    have hback := HBACK.out y hyl
    have hbackD := HBACKD.out y hyl
    have hne := HNE.out y hyl hyc
    obtain ⟨S, hS⟩ : ∃ S, S = toB ((nums a).set k y) := ⟨_, rfl⟩
    have hSs : S.size = a.size := by rw [hS]; exact HSZ.out y
    rw [← hS] at hback hbackD hne
    have HS3 := Lib.hid (fun X => same_any a S X (by have := HA.out; omega) (by have := HA.out; omega))
    have df : decide (a = S) = false := decide_eq_false hne
    rw [df] at HS3
    have HB5 := Lib.hid (show Below w.heap.size w (W.setCell ⟨w3.heap.size, k, none⟩ (.int .u8 (y : Nat))) from HB4.out.setCell HLT.out _)
    clear hy hyl hyc hne hS hSs df e1
    go_wp2
    go_region
    all_goals (go_wp2_with fail)
    all_goals (refine (HS3.out _).mono ?_)
    all_goals (rintro e w5 ⟨rfl, hb5⟩)
    all_goals (first | have HB6 := Lib.hid (below_link HB5.out hb5) | have HB6 := Lib.hid (below_link HB5.out.drew hb5))
    all_goals clear hb5
    all_goals (go_wp2; go_ret)
    all_goals exact ⟨rfl, HB6.out⟩
  | 4, _ =>
    have e1 := u8_xor_nat c 16 HCL.out (by decide)
    obtain ⟨y, hy⟩ : ∃ y, y = c ^^^ 16 := ⟨_, rfl⟩
    rw [← hy] at e1
    have hyl : y < 256 := by rw [hy]; exact Nat.xor_lt_two_pow (n := 8) HCL.out (by decide)
    have hyc : y ≠ c := by
      intro e
      have h := congrArg (fun z => c ^^^ z) (hy.symm.trans e)
      rw [← Nat.xor_assoc, Nat.xor_self, Nat.zero_xor] at h
      exact absurd h (by decide)
    have e1' : bits .xor .u8 (c : Int) 16 = (y : Int) := e1
    have hback := HBACK.out y hyl
    have hbackD := HBACKD.out y hyl
    have hne := HNE.out y hyl hyc
    obtain ⟨S, hS⟩ : ∃ S, S = toB ((nums a).set k y) := ⟨_, rfl⟩
    have hSs : S.size = a.size := by rw [hS]; exact HSZ.out y
    rw [← hS] at hback hbackD hne
    have HS3 := Lib.hid (fun X => same_any a S X (by have := HA.out; omega) (by have := HA.out; omega))
    have df : decide (a = S) = false := decide_eq_false hne
    rw [df] at HS3
    have HB5 := Lib.hid (show Below w.heap.size w (W.setCell ⟨w3.heap.size, k, none⟩ (.int .u8 (y : Nat))) from HB4.out.setCell HLT.out _)
    clear hy hyl hyc hne hS hSs df e1
    go_wp2
    go_region
    all_goals (go_wp2_with fail)
    all_goals (refine (HS3.out _).mono ?_)
    all_goals (rintro e w5 ⟨rfl, hb5⟩)
    all_goals (first | have HB6 := Lib.hid (below_link HB5.out hb5) | have HB6 := Lib.hid (below_link HB5.out.drew hb5))
    all_goals clear hb5
    all_goals (go_wp2; go_ret)
    all_goals exact ⟨rfl, HB6.out⟩
  | 5, _ =>
    have e1 := u8_xor_nat c 32 HCL.out (by decide)
    obtain ⟨y, hy⟩ : ∃ y, y = c ^^^ 32 := ⟨_, rfl⟩
    rw [← hy] at e1
    have hyl : y < 256 := by rw [hy]; exact Nat.xor_lt_two_pow (n := 8) HCL.out (by decide)
    have hyc : y ≠ c := by
      intro e
      have h := congrArg (fun z => c ^^^ z) (hy.symm.trans e)
      rw [← Nat.xor_assoc, Nat.xor_self, Nat.zero_xor] at h
      exact absurd h (by decide)
    have e1' : bits .xor .u8 (c : Int) 32 = (y : Int) := e1
    have hback := HBACK.out y hyl
    have hbackD := HBACKD.out y hyl
    have hne := HNE.out y hyl hyc
    obtain ⟨S, hS⟩ : ∃ S, S = toB ((nums a).set k y) := ⟨_, rfl⟩
    have hSs : S.size = a.size := by rw [hS]; exact HSZ.out y
    rw [← hS] at hback hbackD hne
    have HS3 := Lib.hid (fun X => same_any a S X (by have := HA.out; omega) (by have := HA.out; omega))
    have df : decide (a = S) = false := decide_eq_false hne
    rw [df] at HS3
    have HB5 := Lib.hid (show Below w.heap.size w (W.setCell ⟨w3.heap.size, k, none⟩ (.int .u8 (y : Nat))) from HB4.out.setCell HLT.out _)
    clear hy hyl hyc hne hS hSs df e1
    go_wp2
    go_region
    all_goals (go_wp2_with fail)
    all_goals (refine (HS3.out _).mono ?_)
    all_goals (rintro e w5 ⟨rfl, hb5⟩)
    all_goals (first | have HB6 := Lib.hid (below_link HB5.out hb5) | have HB6 := Lib.hid (below_link HB5.out.drew hb5))
    all_goals clear hb5
    all_goals (go_wp2; go_ret)
    all_goals exact ⟨rfl, HB6.out⟩
  | 6, _ =>
    have e1 := u8_xor_nat c 64 HCL.out (by decide)
    obtain ⟨y, hy⟩ : ∃ y, y = c ^^^ 64 := ⟨_, rfl⟩
    rw [← hy] at e1
    have hyl : y < 256 := by rw [hy]; exact Nat.xor_lt_two_pow (n := 8) HCL.out (by decide)
    have hyc : y ≠ c := by
      intro e
      have h := congrArg (fun z => c ^^^ z) (hy.symm.trans e)
      rw [← Nat.xor_assoc, Nat.xor_self, Nat.zero_xor] at h
      exact absurd h (by decide)
    have e1' : bits .xor .u8 (c : Int) 64 = (y : Int) := e1
    have hback := HBACK.out y hyl
    have hbackD := HBACKD.out y hyl
    have hne := HNE.out y hyl hyc
    obtain ⟨S, hS⟩ : ∃ S, S = toB ((nums a).set k y) := ⟨_, rfl⟩
    have hSs : S.size = a.size := by rw [hS]; exact HSZ.out y
    rw [← hS] at hback hbackD hne
    have HS3 := Lib.hid (fun X => same_any a S X (by have := HA.out; omega) (by have := HA.out; omega))
    have df : decide (a = S) = false := decide_eq_false hne
    rw [df] at HS3
    have HB5 := Lib.hid (show Below w.heap.size w (W.setCell ⟨w3.heap.size, k, none⟩ (.int .u8 (y : Nat))) from HB4.out.setCell HLT.out _)
    clear hy hyl hyc hne hS hSs df e1
    go_wp2
    go_region
    all_goals (go_wp2_with fail)
    all_goals (refine (HS3.out _).mono ?_)
    all_goals (rintro e w5 ⟨rfl, hb5⟩)
    all_goals (first | have HB6 := Lib.hid (below_link HB5.out hb5) | have HB6 := Lib.hid (below_link HB5.out.drew hb5))
    all_goals clear hb5
    all_goals (go_wp2; go_ret)
    all_goals exact ⟨rfl, HB6.out⟩
  | 7, _ =>
    have e1 := u8_xor_nat c 128 HCL.out (by decide)
    obtain ⟨y, hy⟩ : ∃ y, y = c ^^^ 128 := ⟨_, rfl⟩
    rw [← hy] at e1
    have hyl : y < 256 := by rw [hy]; exact Nat.xor_lt_two_pow (n := 8) HCL.out (by decide)
    have hyc : y ≠ c := by
      intro e
      have h := congrArg (fun z => c ^^^ z) (hy.symm.trans e)
      rw [← Nat.xor_assoc, Nat.xor_self, Nat.zero_xor] at h
      exact absurd h (by decide)
    have e1' : bits .xor .u8 (c : Int) 128 = (y : Int) := e1
    have hback := HBACK.out y hyl
    have hbackD := HBACKD.out y hyl
    have hne := HNE.out y hyl hyc
    obtain ⟨S, hS⟩ : ∃ S, S = toB ((nums a).set k y) := ⟨_, rfl⟩
    have hSs : S.size = a.size := by rw [hS]; exact HSZ.out y
    rw [← hS] at hback hbackD hne
    have HS3 := Lib.hid (fun X => same_any a S X (by have := HA.out; omega) (by have := HA.out; omega))
    have df : decide (a = S) = false := decide_eq_false hne
    rw [df] at HS3
    have HB5 := Lib.hid (show Below w.heap.size w (W.setCell ⟨w3.heap.size, k, none⟩ (.int .u8 (y : Nat))) from HB4.out.setCell HLT.out _)
    clear hy hyl hyc hne hS hSs df e1
    go_wp2
    go_region
    all_goals (go_wp2_with fail)
    all_goals (refine (HS3.out _).mono ?_)
    all_goals (rintro e w5 ⟨rfl, hb5⟩)
    all_goals (first | have HB6 := Lib.hid (below_link HB5.out hb5) | have HB6 := Lib.hid (below_link HB5.out.drew hb5))
    all_goals clear hb5
    all_goals (go_wp2; go_ret)
    all_goals exact ⟨rfl, HB6.out⟩

set_option maxHeartbeats 2000000 in
theorem hsame_ne_empty (b : ByteArray) (p q : Nat) (w : World) (hK : Kon w) (hb : b.size ≤ 500) (hab : (⟨#[]⟩ : ByteArray) ≠ b) (hp : p < 65536) (hq : q < 65536) :
    Calls Tryd.prog 9 #[.string (⟨#[]⟩ : ByteArray), .string b, .agg #[.int .u16 (p : Nat), .int .u16 (q : Nat)]] w fun e w' => e = .returned (.bool true) ∧ Below w.heap.size w w' := by
  have HK := Lib.hid hK; clear hK
  have HB0 := Lib.hid (below_alloc (Below.refl w.heap.size w) (.cells #[.int .u16 (p : Nat), .int .u16 (q : Nat)] 39))
  have HAT := Lib.hid (heap_alloc_new w (.cells #[.int .u16 (p : Nat), .int .u16 (q : Nat)] 39))
  have g2 : ¬ (500 : Int) < (b.size : Int) := by omega
  have HS1 := Lib.hid (fun X => same_any (⟨#[]⟩ : ByteArray) b X (by decide) (by omega))
  have HS2 := Lib.hid (fun X => same_any (⟨#[]⟩ : ByteArray) (⟨#[]⟩ : ByteArray) X (by decide) (by decide))
  have d2 : decide ((⟨#[]⟩ : ByteArray) = (⟨#[]⟩ : ByteArray)) = true := decide_eq_true rfl
  have d1 : decide ((⟨#[]⟩ : ByteArray) = b) = false := decide_eq_false hab
  have d3 := (text_ne hab).1
  have d3' := (text_ne hab).2
  rw [show (⟨#[]⟩ : ByteArray).toList = [] from by rw [ByteArray.toList_eq]] at d3 d3'
  rw [d1] at HS1
  rw [d2] at HS2
  clear hp hq d2 hb 
  go_enter Tryd.func9, Tryd.ntmps9
  go_wp2_with fail
  refine (hawake _ (HK.out.alloc _)).mono ?_
  rintro e w1 ⟨rfl, hb1⟩
  have hat := keepBlock HAT.out hb1
  have HB1 := Lib.hid (below_link HB0.out hb1); clear hb1
  have HAT1 := Lib.hid hat; clear hat
  go_wp2_with fail
  refine (HS1.out _).mono ?_
  rintro e w2 ⟨rfl, hb2⟩
  have hat := keepBlock HAT1.out hb2
  have HB2 := Lib.hid (below_link HB1.out hb2); clear hb2
  have HAT2 := Lib.hid hat; clear hat
  go_wp2_with fail
  refine (HS2.out _).mono ?_
  rintro e w3 ⟨rfl, hb3⟩
  have hat := keepBlock HAT2.out hb3
  have HB3 := Lib.hid (below_link HB2.out hb3); clear hb3
  have HAT3 := Lib.hid hat; clear hat
  go_wp2
  go_ret
  exact ⟨rfl, HB3.out⟩

set_option maxHeartbeats 2000000 in
theorem hsame_ne_full (a b : ByteArray) (p q : Nat) (w : World) (hK : Kon w) (ha : a.size ≤ 500) (ha0 : 0 < a.size) (hb : b.size ≤ 500) (hab : a ≠ b) (hp : p < 65536) (hq : q < 65536) :
    Calls Tryd.prog 9 #[.string a, .string b, .agg #[.int .u16 (p : Nat), .int .u16 (q : Nat)]] w fun e w' => e = .returned (.bool true) ∧ Below w.heap.size w w' := by
  have HK := Lib.hid hK; clear hK
  have HB0 := Lib.hid (below_alloc (Below.refl w.heap.size w) (.cells #[.int .u16 (p : Nat), .int .u16 (q : Nat)] 39))
  have HAT := Lib.hid (heap_alloc_new w (.cells #[.int .u16 (p : Nat), .int .u16 (q : Nat)] 39))
  have g1 : ¬ (500 : Int) < (a.size : Int) := by omega
  have g2 : ¬ (500 : Int) < (b.size : Int) := by omega
  have HS1 := Lib.hid (fun X => same_any a b X (by omega) (by omega))
  have HS2 := Lib.hid (fun X => same_any a a X (by omega) (by omega))
  have d2 : decide (a = a) = true := decide_eq_true rfl
  have d1 : decide (a = b) = false := decide_eq_false hab
  have d3 := (text_ne hab).1
  have d3' := (text_ne hab).2
  
  rw [d1] at HS1
  rw [d2] at HS2
  have hane : a ≠ ⟨#[]⟩ := by rintro rfl; exact Nat.lt_irrefl _ ha0
  have d4 := (text_ne hane).1
  have d5 := (text_ne hane).2
  rw [show (⟨#[]⟩ : ByteArray).toList = [] from by rw [ByteArray.toList_eq]] at d4 d5
  have HA := Lib.hid (And.intro ha ha0)
  have HPQ := Lib.hid (And.intro hp hq)
  clear hp hq d2 ha ha0 hb 
  go_enter Tryd.func9, Tryd.ntmps9
  go_wp2_with fail
  refine (hawake _ (HK.out.alloc _)).mono ?_
  rintro e w1 ⟨rfl, hb1⟩
  have hat := keepBlock HAT.out hb1
  have HB1 := Lib.hid (below_link HB0.out hb1); clear hb1
  have HAT1 := Lib.hid hat; clear hat
  go_wp2_with fail
  refine (HS1.out _).mono ?_
  rintro e w2 ⟨rfl, hb2⟩
  have hat := keepBlock HAT1.out hb2
  have HB2 := Lib.hid (below_link HB1.out hb2); clear hb2
  have HAT2 := Lib.hid hat; clear hat
  go_wp2_with fail
  refine (HS2.out _).mono ?_
  rintro e w3 ⟨rfl, hb3⟩
  have hat := keepBlock HAT2.out hb3
  have HB3 := Lib.hid (below_link HB2.out hb3); clear hb3
  have HAT3 := Lib.hid hat; clear hat
  obtain ⟨cap, W, hconv, hG, hBW⟩ := bytes_gm a w3 w3 (Below.refl _ _)
  have hat := keepBlock HAT3.out hBW
  obtain ⟨P, hP⟩ : ∃ P, P = w.heap.size := ⟨_, rfl⟩
  have HB4 := Lib.hid (below_link HB3.out hBW)
  have HG := Lib.hid hG; clear hG hBW
  have HAT4 := Lib.hid hat
  obtain ⟨k, hk⟩ : ∃ k, k = p % a.size := ⟨_, rfl⟩
  have hkl : k < a.size := by rw [hk]; exact Nat.mod_lt _ HA.out.2
  obtain ⟨r, hr⟩ : ∃ r, r = q % 8 := ⟨_, rfl⟩
  have hr8 : r < 8 := by omega
  have q1 : Int.tmod (p : Int) (a.size : Int) = (k : Int) := by rw [Int.tmod_eq_emod_of_nonneg (by omega), hk]; exact (Int.natCast_emod p a.size).symm
  have q2 : (p : Int) % (a.size : Int) = (k : Int) := by rw [hk]; exact (Int.natCast_emod p a.size).symm
  have q3 : Int.tmod (q : Int) 8 = (r : Int) := by rw [Int.tmod_eq_emod_of_nonneg (by omega)]; omega
  have q4 : (q : Int) % 8 = (r : Int) := by omega
  have q5 : IntKind.i64.wrap (p : Int) = (p : Int) := by have := HPQ.out.1; rw [IntKind.wrap_i64]; omega
  have q6 : (k : Int) < (a.size : Int) := by omega
  have q7 : ¬ (a.size : Int) = 0 := by have := HA.out.2; omega
  have a0 : W.cell? ⟨w.heap.size, 0, none⟩ = some (.int .u16 (p : Nat)) := cell_of_row _ _ 0 _ _ _ HAT4.out
  have a1 : W.cell? ⟨w.heap.size, 1, none⟩ = some (.int .u16 (q : Nat)) := cell_of_row _ _ 1 _ _ _ HAT4.out
  obtain ⟨c, hc⟩ : ∃ c, (nums a)[k]? = some c := ⟨_, List.getElem?_eq_getElem (by rw [nums_length]; exact hkl)⟩
  have hcl : c < 256 := nums_lt a c (List.mem_of_getElem? hc)
  have hgx := HG.out.ex
  obtain ⟨g', cap', hv, -, -, hle, hcs, hsp⟩ := hgx
  injection hv with v1 v2 v3
  injection v1 with v1
  injection v1 with v1
  subst v1
  have b0 : W.cell? ⟨w3.heap.size, k, none⟩ = some (.int .u8 (c : Nat)) := hcs k c hc
  have b1 : W.frozen? ⟨w3.heap.size, k, none⟩ = false := (hsp k (by rw [nums_length] at hle; omega)).2
  have hG2 : Gm w3 (.slice (some ⟨w3.heap.size, 0, none⟩) (nums a).length cap) (nums a) W := by rw [nums_length]; exact HG.out
  have HBACK := Lib.hid (fun y (hy : y < 256) => cells_back (W.setCell ⟨w3.heap.size, k, none⟩ (.int .u8 (y : Nat))) w3.heap.size cap _ (set_small (nums_lt a) hy) (gm_set_cells hG2 k y (by rw [nums_length]; exact hkl) _ rfl) a.size (by rw [List.length_set, nums_length]))
  have HBACKD := Lib.hid (fun y (hy : y < 256) => cells_back (W.setCell ⟨w3.heap.size, k, none⟩ (.int .u8 (y : Nat))).drew w3.heap.size cap _ (set_small (nums_lt a) hy) (gm_set_cells hG2 k y (by rw [nums_length]; exact hkl) _ rfl) a.size (by rw [List.length_set, nums_length]))
  have HLT := Lib.hid (show w3.heap.size ≥ w.heap.size from HB3.out.size)
  have HNE := Lib.hid (fun y hy hne => bent_ne a k y c hc hy hne)
  have HCL := Lib.hid hcl
  have hsz : ∀ y, (toB ((nums a).set k y)).size = a.size := fun y => by rw [toB_size, List.length_set, nums_length]
  have HSZ := Lib.hid hsz
  clear hsz hc hcl hcs hsp hle hG2 hat hP hk hr v2 v3 HS1 HS2
  match r, hr8 with
  | 0, _ =>
    have e1 := u8_xor_nat c 1 HCL.out (by decide)
    obtain ⟨y, hy⟩ : ∃ y, y = c ^^^ 1 := ⟨_, rfl⟩
    rw [← hy] at e1
    have hyl : y < 256 := by rw [hy]; exact Nat.xor_lt_two_pow (n := 8) HCL.out (by decide)
    have hyc : y ≠ c := by
      intro e
      have h := congrArg (fun z => c ^^^ z) (hy.symm.trans e)
      rw [← Nat.xor_assoc, Nat.xor_self, Nat.zero_xor] at h
      exact absurd h (by decide)
    have e1' : bits .xor .u8 (c : Int) 1 = (y : Int) := e1
    have hback := HBACK.out y hyl
    have hbackD := HBACKD.out y hyl
    have hne := HNE.out y hyl hyc
    obtain ⟨S, hS⟩ : ∃ S, S = toB ((nums a).set k y) := ⟨_, rfl⟩
    have hSs : S.size = a.size := by rw [hS]; exact HSZ.out y
    rw [← hS] at hback hbackD hne
    have HS3 := Lib.hid (fun X => same_any a S X (by have := HA.out; omega) (by have := HA.out; omega))
    have df : decide (a = S) = false := decide_eq_false hne
    rw [df] at HS3
    have HB5 := Lib.hid (show Below w.heap.size w (W.setCell ⟨w3.heap.size, k, none⟩ (.int .u8 (y : Nat))) from HB4.out.setCell HLT.out _)
    clear hy hyl hyc hne hS hSs df e1
    go_wp2
    go_region
    all_goals (go_wp2_with fail)
    all_goals (refine (HS3.out _).mono ?_)
    all_goals (rintro e w5 ⟨rfl, hb5⟩)
    all_goals (first | have HB6 := Lib.hid (below_link HB5.out hb5) | have HB6 := Lib.hid (below_link HB5.out.drew hb5))
    all_goals clear hb5
    all_goals (go_wp2; go_ret)
    all_goals exact ⟨rfl, HB6.out⟩
  | 1, _ =>
    have e1 := u8_xor_nat c 2 HCL.out (by decide)
    obtain ⟨y, hy⟩ : ∃ y, y = c ^^^ 2 := ⟨_, rfl⟩
    rw [← hy] at e1
    have hyl : y < 256 := by rw [hy]; exact Nat.xor_lt_two_pow (n := 8) HCL.out (by decide)
    have hyc : y ≠ c := by
      intro e
      have h := congrArg (fun z => c ^^^ z) (hy.symm.trans e)
      rw [← Nat.xor_assoc, Nat.xor_self, Nat.zero_xor] at h
      exact absurd h (by decide)
    have e1' : bits .xor .u8 (c : Int) 2 = (y : Int) := e1
    have hback := HBACK.out y hyl
    have hbackD := HBACKD.out y hyl
    have hne := HNE.out y hyl hyc
    obtain ⟨S, hS⟩ : ∃ S, S = toB ((nums a).set k y) := ⟨_, rfl⟩
    have hSs : S.size = a.size := by rw [hS]; exact HSZ.out y
    rw [← hS] at hback hbackD hne
    have HS3 := Lib.hid (fun X => same_any a S X (by have := HA.out; omega) (by have := HA.out; omega))
    have df : decide (a = S) = false := decide_eq_false hne
    rw [df] at HS3
    have HB5 := Lib.hid (show Below w.heap.size w (W.setCell ⟨w3.heap.size, k, none⟩ (.int .u8 (y : Nat))) from HB4.out.setCell HLT.out _)
    clear hy hyl hyc hne hS hSs df e1
    go_wp2
    go_region
    all_goals (go_wp2_with fail)
    all_goals (refine (HS3.out _).mono ?_)
    all_goals (rintro e w5 ⟨rfl, hb5⟩)
    all_goals (first | have HB6 := Lib.hid (below_link HB5.out hb5) | have HB6 := Lib.hid (below_link HB5.out.drew hb5))
    all_goals clear hb5
    all_goals (go_wp2; go_ret)
    all_goals exact ⟨rfl, HB6.out⟩
  | 2, _ =>
    have e1 := u8_xor_nat c 4 HCL.out (by decide)
    obtain ⟨y, hy⟩ : ∃ y, y = c ^^^ 4 := ⟨_, rfl⟩
    rw [← hy] at e1
    have hyl : y < 256 := by rw [hy]; exact Nat.xor_lt_two_pow (n := 8) HCL.out (by decide)
    have hyc : y ≠ c := by
      intro e
      have h := congrArg (fun z => c ^^^ z) (hy.symm.trans e)
      rw [← Nat.xor_assoc, Nat.xor_self, Nat.zero_xor] at h
      exact absurd h (by decide)
    have e1' : bits .xor .u8 (c : Int) 4 = (y : Int) := e1
    have hback := HBACK.out y hyl
    have hbackD := HBACKD.out y hyl
    have hne := HNE.out y hyl hyc
    obtain ⟨S, hS⟩ : ∃ S, S = toB ((nums a).set k y) := ⟨_, rfl⟩
    have hSs : S.size = a.size := by rw [hS]; exact HSZ.out y
    rw [← hS] at hback hbackD hne
    have HS3 := Lib.hid (fun X => same_any a S X (by have := HA.out; omega) (by have := HA.out; omega))
    have df : decide (a = S) = false := decide_eq_false hne
    rw [df] at HS3
    have HB5 := Lib.hid (show Below w.heap.size w (W.setCell ⟨w3.heap.size, k, none⟩ (.int .u8 (y : Nat))) from HB4.out.setCell HLT.out _)
    clear hy hyl hyc hne hS hSs df e1
    go_wp2
    go_region
    all_goals (go_wp2_with fail)
    all_goals (refine (HS3.out _).mono ?_)
    all_goals (rintro e w5 ⟨rfl, hb5⟩)
    all_goals (first | have HB6 := Lib.hid (below_link HB5.out hb5) | have HB6 := Lib.hid (below_link HB5.out.drew hb5))
    all_goals clear hb5
    all_goals (go_wp2; go_ret)
    all_goals exact ⟨rfl, HB6.out⟩
  | 3, _ =>
    have e1 := u8_xor_nat c 8 HCL.out (by decide)
    obtain ⟨y, hy⟩ : ∃ y, y = c ^^^ 8 := ⟨_, rfl⟩
    rw [← hy] at e1
    have hyl : y < 256 := by rw [hy]; exact Nat.xor_lt_two_pow (n := 8) HCL.out (by decide)
    have hyc : y ≠ c := by
      intro e
      have h := congrArg (fun z => c ^^^ z) (hy.symm.trans e)
      rw [← Nat.xor_assoc, Nat.xor_self, Nat.zero_xor] at h
      exact absurd h (by decide)
    have e1' : bits .xor .u8 (c : Int) 8 = (y : Int) := e1
    have hback := HBACK.out y hyl
    have hbackD := HBACKD.out y hyl
    have hne := HNE.out y hyl hyc
    obtain ⟨S, hS⟩ : ∃ S, S = toB ((nums a).set k y) := ⟨_, rfl⟩
    have hSs : S.size = a.size := by rw [hS]; exact HSZ.out y
    rw [← hS] at hback hbackD hne
    have HS3 := Lib.hid (fun X => same_any a S X (by have := HA.out; omega) (by have := HA.out; omega))
    have df : decide (a = S) = false := decide_eq_false hne
    rw [df] at HS3
    have HB5 := Lib.hid (show Below w.heap.size w (W.setCell ⟨w3.heap.size, k, none⟩ (.int .u8 (y : Nat))) from HB4.out.setCell HLT.out _)
    clear hy hyl hyc hne hS hSs df e1
    go_wp2
    go_region
    all_goals (go_wp2_with fail)
    all_goals (refine (HS3.out _).mono ?_)
    all_goals (rintro e w5 ⟨rfl, hb5⟩)
    all_goals (first | have HB6 := Lib.hid (below_link HB5.out hb5) | have HB6 := Lib.hid (below_link HB5.out.drew hb5))
    all_goals clear hb5
    all_goals (go_wp2; go_ret)
    all_goals exact ⟨rfl, HB6.out⟩
  | 4, _ =>
    have e1 := u8_xor_nat c 16 HCL.out (by decide)
    obtain ⟨y, hy⟩ : ∃ y, y = c ^^^ 16 := ⟨_, rfl⟩
    rw [← hy] at e1
    have hyl : y < 256 := by rw [hy]; exact Nat.xor_lt_two_pow (n := 8) HCL.out (by decide)
    have hyc : y ≠ c := by
      intro e
      have h := congrArg (fun z => c ^^^ z) (hy.symm.trans e)
      rw [← Nat.xor_assoc, Nat.xor_self, Nat.zero_xor] at h
      exact absurd h (by decide)
    have e1' : bits .xor .u8 (c : Int) 16 = (y : Int) := e1
    have hback := HBACK.out y hyl
    have hbackD := HBACKD.out y hyl
    have hne := HNE.out y hyl hyc
    obtain ⟨S, hS⟩ : ∃ S, S = toB ((nums a).set k y) := ⟨_, rfl⟩
    have hSs : S.size = a.size := by rw [hS]; exact HSZ.out y
    rw [← hS] at hback hbackD hne
    have HS3 := Lib.hid (fun X => same_any a S X (by have := HA.out; omega) (by have := HA.out; omega))
    have df : decide (a = S) = false := decide_eq_false hne
    rw [df] at HS3
    have HB5 := Lib.hid (show Below w.heap.size w (W.setCell ⟨w3.heap.size, k, none⟩ (.int .u8 (y : Nat))) from HB4.out.setCell HLT.out _)
    clear hy hyl hyc hne hS hSs df e1
    go_wp2
    go_region
    all_goals (go_wp2_with fail)
    all_goals (refine (HS3.out _).mono ?_)
    all_goals (rintro e w5 ⟨rfl, hb5⟩)
    all_goals (first | have HB6 := Lib.hid (below_link HB5.out hb5) | have HB6 := Lib.hid (below_link HB5.out.drew hb5))
    all_goals clear hb5
    all_goals (go_wp2; go_ret)
    all_goals exact ⟨rfl, HB6.out⟩
  | 5, _ =>
    have e1 := u8_xor_nat c 32 HCL.out (by decide)
    obtain ⟨y, hy⟩ : ∃ y, y = c ^^^ 32 := ⟨_, rfl⟩
    rw [← hy] at e1
    have hyl : y < 256 := by rw [hy]; exact Nat.xor_lt_two_pow (n := 8) HCL.out (by decide)
    have hyc : y ≠ c := by
      intro e
      have h := congrArg (fun z => c ^^^ z) (hy.symm.trans e)
      rw [← Nat.xor_assoc, Nat.xor_self, Nat.zero_xor] at h
      exact absurd h (by decide)
    have e1' : bits .xor .u8 (c : Int) 32 = (y : Int) := e1
    have hback := HBACK.out y hyl
    have hbackD := HBACKD.out y hyl
    have hne := HNE.out y hyl hyc
    obtain ⟨S, hS⟩ : ∃ S, S = toB ((nums a).set k y) := ⟨_, rfl⟩
    have hSs : S.size = a.size := by rw [hS]; exact HSZ.out y
    rw [← hS] at hback hbackD hne
    have HS3 := Lib.hid (fun X => same_any a S X (by have := HA.out; omega) (by have := HA.out; omega))
    have df : decide (a = S) = false := decide_eq_false hne
    rw [df] at HS3
    have HB5 := Lib.hid (show Below w.heap.size w (W.setCell ⟨w3.heap.size, k, none⟩ (.int .u8 (y : Nat))) from HB4.out.setCell HLT.out _)
    clear hy hyl hyc hne hS hSs df e1
    go_wp2
    go_region
    all_goals (go_wp2_with fail)
    all_goals (refine (HS3.out _).mono ?_)
    all_goals (rintro e w5 ⟨rfl, hb5⟩)
    all_goals (first | have HB6 := Lib.hid (below_link HB5.out hb5) | have HB6 := Lib.hid (below_link HB5.out.drew hb5))
    all_goals clear hb5
    all_goals (go_wp2; go_ret)
    all_goals exact ⟨rfl, HB6.out⟩
  | 6, _ =>
    have e1 := u8_xor_nat c 64 HCL.out (by decide)
    obtain ⟨y, hy⟩ : ∃ y, y = c ^^^ 64 := ⟨_, rfl⟩
    rw [← hy] at e1
    have hyl : y < 256 := by rw [hy]; exact Nat.xor_lt_two_pow (n := 8) HCL.out (by decide)
    have hyc : y ≠ c := by
      intro e
      have h := congrArg (fun z => c ^^^ z) (hy.symm.trans e)
      rw [← Nat.xor_assoc, Nat.xor_self, Nat.zero_xor] at h
      exact absurd h (by decide)
    have e1' : bits .xor .u8 (c : Int) 64 = (y : Int) := e1
    have hback := HBACK.out y hyl
    have hbackD := HBACKD.out y hyl
    have hne := HNE.out y hyl hyc
    obtain ⟨S, hS⟩ : ∃ S, S = toB ((nums a).set k y) := ⟨_, rfl⟩
    have hSs : S.size = a.size := by rw [hS]; exact HSZ.out y
    rw [← hS] at hback hbackD hne
    have HS3 := Lib.hid (fun X => same_any a S X (by have := HA.out; omega) (by have := HA.out; omega))
    have df : decide (a = S) = false := decide_eq_false hne
    rw [df] at HS3
    have HB5 := Lib.hid (show Below w.heap.size w (W.setCell ⟨w3.heap.size, k, none⟩ (.int .u8 (y : Nat))) from HB4.out.setCell HLT.out _)
    clear hy hyl hyc hne hS hSs df e1
    go_wp2
    go_region
    all_goals (go_wp2_with fail)
    all_goals (refine (HS3.out _).mono ?_)
    all_goals (rintro e w5 ⟨rfl, hb5⟩)
    all_goals (first | have HB6 := Lib.hid (below_link HB5.out hb5) | have HB6 := Lib.hid (below_link HB5.out.drew hb5))
    all_goals clear hb5
    all_goals (go_wp2; go_ret)
    all_goals exact ⟨rfl, HB6.out⟩
  | 7, _ =>
    have e1 := u8_xor_nat c 128 HCL.out (by decide)
    obtain ⟨y, hy⟩ : ∃ y, y = c ^^^ 128 := ⟨_, rfl⟩
    rw [← hy] at e1
    have hyl : y < 256 := by rw [hy]; exact Nat.xor_lt_two_pow (n := 8) HCL.out (by decide)
    have hyc : y ≠ c := by
      intro e
      have h := congrArg (fun z => c ^^^ z) (hy.symm.trans e)
      rw [← Nat.xor_assoc, Nat.xor_self, Nat.zero_xor] at h
      exact absurd h (by decide)
    have e1' : bits .xor .u8 (c : Int) 128 = (y : Int) := e1
    have hback := HBACK.out y hyl
    have hbackD := HBACKD.out y hyl
    have hne := HNE.out y hyl hyc
    obtain ⟨S, hS⟩ : ∃ S, S = toB ((nums a).set k y) := ⟨_, rfl⟩
    have hSs : S.size = a.size := by rw [hS]; exact HSZ.out y
    rw [← hS] at hback hbackD hne
    have HS3 := Lib.hid (fun X => same_any a S X (by have := HA.out; omega) (by have := HA.out; omega))
    have df : decide (a = S) = false := decide_eq_false hne
    rw [df] at HS3
    have HB5 := Lib.hid (show Below w.heap.size w (W.setCell ⟨w3.heap.size, k, none⟩ (.int .u8 (y : Nat))) from HB4.out.setCell HLT.out _)
    clear hy hyl hyc hne hS hSs df e1
    go_wp2
    go_region
    all_goals (go_wp2_with fail)
    all_goals (refine (HS3.out _).mono ?_)
    all_goals (rintro e w5 ⟨rfl, hb5⟩)
    all_goals (first | have HB6 := Lib.hid (below_link HB5.out hb5) | have HB6 := Lib.hid (below_link HB5.out.drew hb5))
    all_goals clear hb5
    all_goals (go_wp2; go_ret)
    all_goals exact ⟨rfl, HB6.out⟩

theorem hsame_all (a b : ByteArray) (p q : Nat) (w : World) (hp : p < 65536) (hq : q < 65536) (hK : Kon w) :
    Calls Tryd.prog 9 #[.string a, .string b, .agg #[.int .u16 (p : Nat), .int .u16 (q : Nat)]] w fun e w' => e = .returned (.bool true) ∧ Below w.heap.size w w' := by
  by_cases hl : 500 < a.size ∨ (a.size ≤ 500 ∧ 500 < b.size)
  · exact hsame_long a b p q w hK hl
  have ha : a.size ≤ 500 := by omega
  have hb : b.size ≤ 500 := by omega
  by_cases he : a = b
  · subst he
    by_cases h0 : a.size = 0
    · obtain rfl : a = ⟨#[]⟩ := by
        apply ByteArray.ext
        exact Array.eq_empty_of_size_eq_zero h0
      exact hsame_eq_empty p q w hK hp hq
    · exact hsame_eq_full a p q w hK ha (by omega) hp hq
  · by_cases h0 : a.size = 0
    · obtain rfl : a = ⟨#[]⟩ := by
        apply ByteArray.ext
        exact Array.eq_empty_of_size_eq_zero h0
      exact hsame_ne_empty b p q w hK hb he hp hq
    · exact hsame_ne_full a b p q w hK ha (by omega) hb he hp hq

end Go.Proofs.YtfahmbkeibeceaaDoor
