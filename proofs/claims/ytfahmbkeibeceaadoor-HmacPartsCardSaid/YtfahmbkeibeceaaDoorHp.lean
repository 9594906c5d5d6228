/-
  The walk of HmacParts. Conditions: the table of round constants holds the standard's numbers.
-/
import Derived.Test.YtfahmbkeibeceaaDoorHb
import Derived.Test.YtfahmbkeibeceaaDoorJoin
import Derived.Deep.Strs
import Derived.Lib.Join
namespace Go.Proofs.YtfahmbkeibeceaaDoor
open Go.ChangeShapes Go.WideShapes Go.ChangeAt Go.RowKit Go.Great Go.ChangeMaps
open Sha
set_option linter.unusedVariables false

/-- Parts, as they lie in memory. -/
structure Parts (w : World) (A : Option Addr) (len cap : Nat) (S : Nat → ByteArray) : Prop where
  at_ : ∀ i, i < len → ∃ b off, A = some ⟨b, off, none⟩ ∧ b < w.heap.size ∧ w.cell? ⟨b, off + i, none⟩ = some (.string (S i))
  le : len ≤ cap

theorem parts_cell (W : World) (a : Addr) (v : Value) (h : W.cell? a = some v) : a.block < W.heap.size := by
  unfold World.cell? at h
  by_cases hlt : a.block < W.heap.size
  · exact hlt
  · rw [Array.getElem?_eq_none (by omega)] at h
    simp at h

/-- The parts that came in. -/
theorem open_parts {H : Type} {enc : TypeId × Value → H} {W : World} {base : Nat} {v : Value} {d : DataW H} {p : List MemPlace} (hv : Value.okWide Tryd.prog W .any base 34 v)
    (h : DataW.Trod enc Tryd.prog W 0 (fun _ => true) true 34 v d p) : ∃ A len cap S, v = .slice A len cap ∧ Parts W A len cap S := by
  obtain ⟨A, len, cap, rfl⟩ := okWide_slice Tryd.underlying34 hv
  obtain ⟨fuel, hf⟩ := h
  rcases Go.Deep.open_strs Tryd.underlying34 Tryd.underlying9 (by kernel_rfl) hf with ⟨hc, _⟩ | ⟨a, len', cap', m, Sx, hc, _, hlc, hcap, hm, _, hx⟩
  · obtain ⟨rfl, rfl, rfl⟩ : A = none ∧ len = 0 ∧ cap = 0 := by simpa [Value.cells] using hc
    exact ⟨none, 0, 0, fun _ => ⟨#[]⟩, rfl, ⟨fun i hi => absurd hi (by omega), Nat.le_refl _⟩⟩
  · obtain ⟨rfl, rfl, rfl⟩ : A = some a ∧ len = len' ∧ cap = cap' := by simpa [Value.cells] using hc
    have hml : len ≤ m := by rw [hm]; split <;> omega
    refine ⟨some a, len, cap, Sx, rfl, ⟨fun i hi => ?_, hlc⟩⟩
    obtain ⟨b, o, sp⟩ := a
    have hsp : sp = none := by
      have := World.cell?_spot (hx 0 (by omega)).1
      simpa [Addr.add] using this
    subst hsp
    have hci := (hx i (by omega)).1
    have ea : (⟨b, o, none⟩ : Addr).add i = ⟨b, o + i, none⟩ := by unfold Addr.add; split <;> simp_all
    rw [ea] at hci
    exact ⟨b, o, rfl, parts_cell _ _ _ hci, hci⟩

/-- The first parts, one behind the other. -/
def catN (S : Nat → ByteArray) : Nat → ByteArray
  | 0 => ⟨#[]⟩
  | i + 1 => catN S i ++ S i

theorem cat_list (S : Nat → ByteArray) (n : Nat) : (catN S n).data.toList = (((List.range n).map S).map (·.data.toList)).flatten := by
  induction n with
  | zero => rfl
  | succ n ih =>
    rw [catN, ByteArray.data_append, Array.toList_append, ih, List.range_succ]
    simp

theorem joined_none (l : List (List UInt8)) : Lib.join l [] = l.flatten := by
  cases l with
  | nil => rfl
  | cons x r => rw [Lib.join_cons]; simp [Lib.joinTail]

theorem joins_many {A : Option Addr} {len cap : Nat} {S : Nat → ByteArray} {w : World} (h : Parts w A len cap S) (hs : (catN S len).size ≤ 1048576) (hn : len ≤ 1048576) : Joins (.slice A len cap) (catN S len) w := by
  intro X hX
  by_cases h0 : len = 0
  · subst h0
    exact (join_none A cap ⟨#[]⟩ X).mono fun e w' ⟨h1, h2⟩ => ⟨h1, h2 ▸ Below.refl _ _⟩
  · obtain ⟨b, off, rfl, hb, -⟩ := h.at_ 0 (by omega)
    have hl : ((List.range len).map S).length = len := by simp
    have hj : (Lib.join (((List.range len).map S).map (·.data.toList)) (⟨#[]⟩ : ByteArray).data.toList) = (catN S len).data.toList := by
      rw [cat_list]; exact joined_none _
    have hr : (⟨(catN S len).data.toList.toArray⟩ : ByteArray) = catN S len := by apply ByteArray.ext; simp
    have hc := join_all b off cap ((List.range len).map S) ⟨#[]⟩ X (fun j x hx => by
      have hjl : j < len := by have := (List.getElem?_eq_some_iff.1 hx).1; rwa [hl] at this
      obtain ⟨b', off', he, hb', hc'⟩ := h.at_ j hjl
      injection he with he
      injection he with e1 e2
      subst e1; subst e2
      rw [World.cell?_of_block (a := ⟨b, off + j, none⟩) (hX.block b hb), hc']
      rw [List.getElem?_map, List.getElem?_range hjl] at hx
      exact congrArg (fun z => some (Value.string z)) (Option.some.inj hx))
      (Nat.lt_of_lt_of_le hb hX.size) (by rw [hl]; omega) (by rw [hl]; exact h.le) (by rw [hj]; show (catN S len).size ≤ _; omega)
    rw [hl, hj, hr] at hc
    exact hc

theorem joins_two (g : Nat) (x y : ByteArray) (w : World) (h : w.heap[g]? = some (.cells #[.string x, .string y] 9 (0, 0))) (hs : x.size + y.size ≤ 1048576) : Joins (.slice (some ⟨g, 0, none⟩) 2 2) ((⟨#[]⟩ ++ x) ++ y) w := by
  have hp : Parts w (some ⟨g, 0, none⟩) 2 2 (fun i => if i = 0 then x else y) := ⟨fun i hi => ⟨g, 0, rfl, (Array.getElem?_eq_some_iff.1 h).1, by
    rw [Nat.zero_add, cell_of_row _ _ i _ _ _ h]
    match i, hi with
    | 0, _ => rfl
    | 1, _ => rfl⟩, Nat.le_refl _⟩
  have e : catN (fun i => if i = 0 then x else y) 2 = (⟨#[]⟩ ++ x) ++ y := rfl
  have := joins_many hp (by rw [e, ByteArray.size_append, ByteArray.size_append]; show 0 + x.size + y.size ≤ _; omega) (by decide)
  rwa [e] at this

theorem cat_lt {S : Nat → ByteArray} {n : Nat} (h : ∀ j < n, (S j).size ≤ 60) : (catN S n).size ≤ 60 * n := by
  induction n with
  | zero => exact Nat.le_refl _
  | succ n ih =>
    rw [catN, ByteArray.size_append]
    have := ih fun j hj => h j (by omega)
    have := h n (by omega)
    omega

theorem hparts_long0 (k : Nat) (key : ByteArray) (A : Option Addr) (len cap : Nat) (w : World) (hK : Kon w) (hl : 200 < key.size) :
    Calls Tryd.prog 7 #[.int .u8 (k : Nat), .string key, .slice A len cap] w fun e w' => e = .returned (.bool true) ∧ Below w.heap.size w w' := by
  have HK := Lib.hid hK; clear hK
  have g0 : (200 : Int) < (key.size : Int) := by omega
  clear hl
  go_enter Tryd.func7, Tryd.ntmps7
  go_wp2_with fail
  refine (hawake _ HK.out).mono ?_
  rintro e w1 ⟨rfl, hb1⟩
  have HB1 := Lib.hid hb1; clear hb1
  go_wp2_with fail
  refine (hawake _ (HK.out.next HB1.out)).mono ?_
  rintro e w2 ⟨rfl, hb2⟩
  have HB2 := Lib.hid (below_link HB1.out hb2); clear hb2
  go_wp2
  go_ret
  exact ⟨rfl, HB2.out⟩

theorem hparts_long1 (k : Nat) (key : ByteArray) (A : Option Addr) (len cap : Nat) (w : World) (hK : Kon w) (h0 : key.size ≤ 200) (hl : 20 < len) :
    Calls Tryd.prog 7 #[.int .u8 (k : Nat), .string key, .slice A len cap] w fun e w' => e = .returned (.bool true) ∧ Below w.heap.size w w' := by
  have HK := Lib.hid hK; clear hK
  have g0 : ¬ (200 : Int) < (key.size : Int) := by omega
  have g1 : (20 : Int) < (len : Int) := by omega
  clear hl h0
  go_enter Tryd.func7, Tryd.ntmps7
  go_wp2_with fail
  refine (hawake _ HK.out).mono ?_
  rintro e w1 ⟨rfl, hb1⟩
  have HB1 := Lib.hid hb1; clear hb1
  go_wp2_with fail
  refine (hawake _ (HK.out.next HB1.out)).mono ?_
  rintro e w2 ⟨rfl, hb2⟩
  have HB2 := Lib.hid (below_link HB1.out hb2); clear hb2
  go_wp2
  go_ret
  exact ⟨rfl, HB2.out⟩

set_option maxHeartbeats 2000000 in
theorem hparts_256 (k : Nat) (key : ByteArray) (A : Option Addr) (len cap : Nat) (S : Nat → ByteArray) (w : World) (hK : Kon w) (hkj : k % 3 = 0) (h0 : key.size ≤ 200) (h1 : len ≤ 20) (hP : Parts w A len cap S) :
    Calls Tryd.prog 7 #[.int .u8 (k : Nat), .string key, .slice A len cap] w fun e w' => e = .returned (.bool true) ∧ Below w.heap.size w w' := by
  have HK := Lib.hid hK; clear hK
  have g0 : ¬ (200 : Int) < (key.size : Int) := by omega
  have g1 : ¬ (20 : Int) < (len : Int) := by omega
  have HJ := Lib.hid (fun X => hsize_256 k X hkj)
  have HP := Lib.hid hP; clear hP
  have HKS := Lib.hid (And.intro h0 h1)
  clear h0 hkj
  go_enter Tryd.func7, Tryd.ntmps7
  go_wp2_with fail
  refine (hawake _ HK.out).mono ?_
  rintro e w1 ⟨rfl, hb1⟩
  have HB1 := Lib.hid hb1; clear hb1
  go_wp2_with fail
  go_loopw [7, 8] (fun v x wr => ∃ i : Nat, i ≤ len ∧ x = .int .i64 (i : Nat) ∧ v = .string (catN S i) ∧ (∀ j < i, (S j).size ≤ 60) ∧ Below w.heap.size w wr) (fun _ x _ => len - (intOf x).toNat)
  case atStart => exact ⟨0, Nat.zero_le _, rfl, rfl, fun j hj => absurd hj (by omega), HB1.out⟩
  case round =>
    obtain ⟨i, hi, rfl, rfl, hS, hB⟩ := hrel
    clear HB1
    by_cases hlt : i < len
    · obtain ⟨b, off, rfl, hbl, hcl⟩ := HP.out.at_ i hlt
      have hc : wr.cell? ⟨b, off + i, none⟩ = some (.string (S i)) := by rw [World.cell?_of_block (a := ⟨b, off + i, none⟩) (hB.block b hbl)]; exact hcl
      have j1 : (i : Int) < (len : Int) := by omega
      have HB := Lib.hid hB
      have HS := Lib.hid hS
      by_cases h60 : 60 < (S i).size
      · have g2 : (60 : Int) < ((S i).size : Int) := by omega
        clear hB hS hcl hbl
        go_wp2
        go_ret
        exact ⟨rfl, HB.out⟩
      · have g2 : ¬ (60 : Int) < ((S i).size : Int) := by omega
        obtain ⟨C, hC⟩ : ∃ C, C = catN S i := ⟨_, rfl⟩
        obtain ⟨Q, hQ⟩ : ∃ Q, Q = S i := ⟨_, rfl⟩
        have hcs : C.size ≤ 60 * i := by rw [hC]; exact cat_lt hS
        have hnx : catN S (i + 1) = C ++ Q := by rw [hC, hQ]; rfl
        have HS2 := Lib.hid (show ∀ j < i + 1, (S j).size ≤ 60 from fun j hj => by
          by_cases e : j = i
          · subst e; omega
          · exact HS.out j (by omega))
        rw [← hC]
        rw [← hQ] at hc g2
        have c1 : ¬ 9223372036854775807 < C.size + Q.size := by rw [hQ]; omega
        have HNX := Lib.hid hnx
        clear hB hS hcl hbl hC hQ hcs hnx h60
        go_wp2
        go_roundw
        case rel => exact ⟨i + 1, by omega, by go_num, by rw [HNX.out], HS2.out, HB.out⟩
        case measure => simp [intOf]; omega
    · obtain rfl : i = len := by omega
      obtain ⟨T, hT⟩ : ∃ T, T = catN S i := ⟨_, rfl⟩
      have hTs : T.size ≤ 1200 := by rw [hT]; have := cat_lt hS; omega
      have hJ1 : ∀ X, Below w.heap.size w X → Joins (.slice A i cap) T X := fun X hX => by
        rw [hT]
        refine joins_many ⟨fun q hq => ?_, HP.out.le⟩ (by rw [← hT]; omega) (by omega)
        obtain ⟨b, off, e1, e2, e3⟩ := HP.out.at_ q hq
        exact ⟨b, off, e1, Nat.lt_of_lt_of_le e2 hX.size, by rw [World.cell?_of_block (a := ⟨b, off + q, none⟩) (hX.block b e2)]; exact e3⟩
      have HC1 := Lib.hid (fun X (hX : Below w.heap.size w X) => hsum_256 key T (.slice A i cap) X (HK.out.next hX) (by have := HKS.out; omega) (by omega) (hJ1 X hX))
      have HC2 := Lib.hid (fun (X : World) (hX : Below w.heap.size w X) => hsum_256 key T (.slice (some ⟨X.heap.size, 0, none⟩) 1 1) (X.alloc (.cells #[.string T] 9)) ((HK.out.next hX).alloc _) (by have := HKS.out; omega) (by omega)
        (joins_one _ _ _ _ _ (by rw [alloc_size]; exact Nat.lt_succ_self _) (cell_of_row _ _ 0 _ _ _ (heap_alloc_new X _))))
      have ea : (⟨#[]⟩ ++ T) ++ ⟨#[]⟩ = T := by apply ByteArray.ext; simp
      have eb : ((⟨#[]⟩ : ByteArray) ++ ⟨#[]⟩) ++ T = T := by apply ByteArray.ext; simp
      have HC3 := Lib.hid (fun (X : World) (hX : Below w.heap.size w X) => hsum_256 key T (.slice (some ⟨X.heap.size, 0, none⟩) 2 2) (X.alloc (.cells #[.string T, .string ⟨#[]⟩] 9)) ((HK.out.next hX).alloc _) (by have := HKS.out; omega) (by omega)
        (by have h := joins_two X.heap.size T ⟨#[]⟩ _ (heap_alloc_new X _) (by show T.size + 0 ≤ _; omega); rwa [ea] at h))
      have HC4 := Lib.hid (fun (X : World) (hX : Below w.heap.size w X) => hsum_256 key T (.slice (some ⟨X.heap.size, 0, none⟩) 2 2) (X.alloc (.cells #[.string ⟨#[]⟩, .string T] 9)) ((HK.out.next hX).alloc _) (by have := HKS.out; omega) (by omega)
        (by have h := joins_two X.heap.size ⟨#[]⟩ T _ (heap_alloc_new X _) (by show 0 + T.size ≤ _; omega); rwa [eb] at h))
      rw [← hT]
      generalize hmacOf 256 64 key T = R at *
      have HB := Lib.hid hB
      have j1 : ¬ (i : Int) < (i : Int) := by omega
      clear hB hS hJ1 hT hTs ea eb hlt hi h1
      go_wp2_with fail
      refine (HJ.out _).mono ?_
      rintro e w2 ⟨rfl, rfl⟩
      go_wp2_with fail
      refine (HC1.out _ HB.out).mono ?_
      rintro e w3 ⟨rfl, hb3⟩
      have HB3 := Lib.hid (below_link HB.out hb3); clear hb3
      go_wp2_with fail
      refine (HC2.out _ HB3.out).mono ?_
      rintro e w4 ⟨rfl, hb4⟩
      have HB4 := Lib.hid (below_link (below_alloc HB3.out _) hb4); clear hb4
      go_wp2_with fail
      refine (HC3.out _ HB4.out).mono ?_
      rintro e w5 ⟨rfl, hb5⟩
      have HB5 := Lib.hid (below_link (below_alloc HB4.out _) hb5); clear hb5
      go_wp2_with fail
      refine (HC4.out _ HB5.out).mono ?_
      rintro e w6 ⟨rfl, hb6⟩
      have HB6 := Lib.hid (below_link (below_alloc HB5.out _) hb6); clear hb6
      go_wp2
      go_ret
      exact ⟨rfl, HB6.out⟩

set_option maxHeartbeats 2000000 in
theorem hparts_384 (k : Nat) (key : ByteArray) (A : Option Addr) (len cap : Nat) (S : Nat → ByteArray) (w : World) (hK : Kon w) (hkj : k % 3 = 1) (h0 : key.size ≤ 200) (h1 : len ≤ 20) (hP : Parts w A len cap S) :
    Calls Tryd.prog 7 #[.int .u8 (k : Nat), .string key, .slice A len cap] w fun e w' => e = .returned (.bool true) ∧ Below w.heap.size w w' := by
  have HK := Lib.hid hK; clear hK
  have g0 : ¬ (200 : Int) < (key.size : Int) := by omega
  have g1 : ¬ (20 : Int) < (len : Int) := by omega
  have HJ := Lib.hid (fun X => hsize_384 k X hkj)
  have HP := Lib.hid hP; clear hP
  have HKS := Lib.hid (And.intro h0 h1)
  clear h0 hkj
  go_enter Tryd.func7, Tryd.ntmps7
  go_wp2_with fail
  refine (hawake _ HK.out).mono ?_
  rintro e w1 ⟨rfl, hb1⟩
  have HB1 := Lib.hid hb1; clear hb1
  go_wp2_with fail
  go_loopw [7, 8] (fun v x wr => ∃ i : Nat, i ≤ len ∧ x = .int .i64 (i : Nat) ∧ v = .string (catN S i) ∧ (∀ j < i, (S j).size ≤ 60) ∧ Below w.heap.size w wr) (fun _ x _ => len - (intOf x).toNat)
  case atStart => exact ⟨0, Nat.zero_le _, rfl, rfl, fun j hj => absurd hj (by omega), HB1.out⟩
  case round =>
    obtain ⟨i, hi, rfl, rfl, hS, hB⟩ := hrel
    clear HB1
    by_cases hlt : i < len
    · obtain ⟨b, off, rfl, hbl, hcl⟩ := HP.out.at_ i hlt
      have hc : wr.cell? ⟨b, off + i, none⟩ = some (.string (S i)) := by rw [World.cell?_of_block (a := ⟨b, off + i, none⟩) (hB.block b hbl)]; exact hcl
      have j1 : (i : Int) < (len : Int) := by omega
      have HB := Lib.hid hB
      have HS := Lib.hid hS
      by_cases h60 : 60 < (S i).size
      · have g2 : (60 : Int) < ((S i).size : Int) := by omega
        clear hB hS hcl hbl
        go_wp2
        go_ret
        exact ⟨rfl, HB.out⟩
      · have g2 : ¬ (60 : Int) < ((S i).size : Int) := by omega
        obtain ⟨C, hC⟩ : ∃ C, C = catN S i := ⟨_, rfl⟩
        obtain ⟨Q, hQ⟩ : ∃ Q, Q = S i := ⟨_, rfl⟩
        have hcs : C.size ≤ 60 * i := by rw [hC]; exact cat_lt hS
        have hnx : catN S (i + 1) = C ++ Q := by rw [hC, hQ]; rfl
        have HS2 := Lib.hid (show ∀ j < i + 1, (S j).size ≤ 60 from fun j hj => by
          by_cases e : j = i
          · subst e; omega
          · exact HS.out j (by omega))
        rw [← hC]
        rw [← hQ] at hc g2
        have c1 : ¬ 9223372036854775807 < C.size + Q.size := by rw [hQ]; omega
        have HNX := Lib.hid hnx
        clear hB hS hcl hbl hC hQ hcs hnx h60
        go_wp2
        go_roundw
        case rel => exact ⟨i + 1, by omega, by go_num, by rw [HNX.out], HS2.out, HB.out⟩
        case measure => simp [intOf]; omega
    · obtain rfl : i = len := by omega
      obtain ⟨T, hT⟩ : ∃ T, T = catN S i := ⟨_, rfl⟩
      have hTs : T.size ≤ 1200 := by rw [hT]; have := cat_lt hS; omega
      have hJ1 : ∀ X, Below w.heap.size w X → Joins (.slice A i cap) T X := fun X hX => by
        rw [hT]
        refine joins_many ⟨fun q hq => ?_, HP.out.le⟩ (by rw [← hT]; omega) (by omega)
        obtain ⟨b, off, e1, e2, e3⟩ := HP.out.at_ q hq
        exact ⟨b, off, e1, Nat.lt_of_lt_of_le e2 hX.size, by rw [World.cell?_of_block (a := ⟨b, off + q, none⟩) (hX.block b e2)]; exact e3⟩
      have HC1 := Lib.hid (fun X (hX : Below w.heap.size w X) => hsum_384 key T (.slice A i cap) X (HK.out.next hX) (by have := HKS.out; omega) (by omega) (hJ1 X hX))
      have HC2 := Lib.hid (fun (X : World) (hX : Below w.heap.size w X) => hsum_384 key T (.slice (some ⟨X.heap.size, 0, none⟩) 1 1) (X.alloc (.cells #[.string T] 9)) ((HK.out.next hX).alloc _) (by have := HKS.out; omega) (by omega)
        (joins_one _ _ _ _ _ (by rw [alloc_size]; exact Nat.lt_succ_self _) (cell_of_row _ _ 0 _ _ _ (heap_alloc_new X _))))
      have ea : (⟨#[]⟩ ++ T) ++ ⟨#[]⟩ = T := by apply ByteArray.ext; simp
      have eb : ((⟨#[]⟩ : ByteArray) ++ ⟨#[]⟩) ++ T = T := by apply ByteArray.ext; simp
      have HC3 := Lib.hid (fun (X : World) (hX : Below w.heap.size w X) => hsum_384 key T (.slice (some ⟨X.heap.size, 0, none⟩) 2 2) (X.alloc (.cells #[.string T, .string ⟨#[]⟩] 9)) ((HK.out.next hX).alloc _) (by have := HKS.out; omega) (by omega)
        (by have h := joins_two X.heap.size T ⟨#[]⟩ _ (heap_alloc_new X _) (by show T.size + 0 ≤ _; omega); rwa [ea] at h))
      have HC4 := Lib.hid (fun (X : World) (hX : Below w.heap.size w X) => hsum_384 key T (.slice (some ⟨X.heap.size, 0, none⟩) 2 2) (X.alloc (.cells #[.string ⟨#[]⟩, .string T] 9)) ((HK.out.next hX).alloc _) (by have := HKS.out; omega) (by omega)
        (by have h := joins_two X.heap.size ⟨#[]⟩ T _ (heap_alloc_new X _) (by show 0 + T.size ≤ _; omega); rwa [eb] at h))
      rw [← hT]
      generalize hmacOf 384 128 key T = R at *
      have HB := Lib.hid hB
      have j1 : ¬ (i : Int) < (i : Int) := by omega
      clear hB hS hJ1 hT hTs ea eb hlt hi h1
      go_wp2_with fail
      refine (HJ.out _).mono ?_
      rintro e w2 ⟨rfl, rfl⟩
      go_wp2_with fail
      refine (HC1.out _ HB.out).mono ?_
      rintro e w3 ⟨rfl, hb3⟩
      have HB3 := Lib.hid (below_link HB.out hb3); clear hb3
      go_wp2_with fail
      refine (HC2.out _ HB3.out).mono ?_
      rintro e w4 ⟨rfl, hb4⟩
      have HB4 := Lib.hid (below_link (below_alloc HB3.out _) hb4); clear hb4
      go_wp2_with fail
      refine (HC3.out _ HB4.out).mono ?_
      rintro e w5 ⟨rfl, hb5⟩
      have HB5 := Lib.hid (below_link (below_alloc HB4.out _) hb5); clear hb5
      go_wp2_with fail
      refine (HC4.out _ HB5.out).mono ?_
      rintro e w6 ⟨rfl, hb6⟩
      have HB6 := Lib.hid (below_link (below_alloc HB5.out _) hb6); clear hb6
      go_wp2
      go_ret
      exact ⟨rfl, HB6.out⟩

set_option maxHeartbeats 2000000 in
theorem hparts_512 (k : Nat) (key : ByteArray) (A : Option Addr) (len cap : Nat) (S : Nat → ByteArray) (w : World) (hK : Kon w) (hkj : k % 3 = 2) (h0 : key.size ≤ 200) (h1 : len ≤ 20) (hP : Parts w A len cap S) :
    Calls Tryd.prog 7 #[.int .u8 (k : Nat), .string key, .slice A len cap] w fun e w' => e = .returned (.bool true) ∧ Below w.heap.size w w' := by
  have HK := Lib.hid hK; clear hK
  have g0 : ¬ (200 : Int) < (key.size : Int) := by omega
  have g1 : ¬ (20 : Int) < (len : Int) := by omega
  have HJ := Lib.hid (fun X => hsize_512 k X hkj)
  have HP := Lib.hid hP; clear hP
  have HKS := Lib.hid (And.intro h0 h1)
  clear h0 hkj
  go_enter Tryd.func7, Tryd.ntmps7
  go_wp2_with fail
  refine (hawake _ HK.out).mono ?_
  rintro e w1 ⟨rfl, hb1⟩
  have HB1 := Lib.hid hb1; clear hb1
  go_wp2_with fail
  go_loopw [7, 8] (fun v x wr => ∃ i : Nat, i ≤ len ∧ x = .int .i64 (i : Nat) ∧ v = .string (catN S i) ∧ (∀ j < i, (S j).size ≤ 60) ∧ Below w.heap.size w wr) (fun _ x _ => len - (intOf x).toNat)
  case atStart => exact ⟨0, Nat.zero_le _, rfl, rfl, fun j hj => absurd hj (by omega), HB1.out⟩
  case round =>
    obtain ⟨i, hi, rfl, rfl, hS, hB⟩ := hrel
    clear HB1
    by_cases hlt : i < len
    · obtain ⟨b, off, rfl, hbl, hcl⟩ := HP.out.at_ i hlt
      have hc : wr.cell? ⟨b, off + i, none⟩ = some (.string (S i)) := by rw [World.cell?_of_block (a := ⟨b, off + i, none⟩) (hB.block b hbl)]; exact hcl
      have j1 : (i : Int) < (len : Int) := by omega
      have HB := Lib.hid hB
      have HS := Lib.hid hS
      by_cases h60 : 60 < (S i).size
      · have g2 : (60 : Int) < ((S i).size : Int) := by omega
        clear hB hS hcl hbl
        go_wp2
        go_ret
        exact ⟨rfl, HB.out⟩
      · have g2 : ¬ (60 : Int) < ((S i).size : Int) := by omega
        obtain ⟨C, hC⟩ : ∃ C, C = catN S i := ⟨_, rfl⟩
        obtain ⟨Q, hQ⟩ : ∃ Q, Q = S i := ⟨_, rfl⟩
        have hcs : C.size ≤ 60 * i := by rw [hC]; exact cat_lt hS
        have hnx : catN S (i + 1) = C ++ Q := by rw [hC, hQ]; rfl
        have HS2 := Lib.hid (show ∀ j < i + 1, (S j).size ≤ 60 from fun j hj => by
          by_cases e : j = i
          · subst e; omega
          · exact HS.out j (by omega))
        rw [← hC]
        rw [← hQ] at hc g2
        have c1 : ¬ 9223372036854775807 < C.size + Q.size := by rw [hQ]; omega
        have HNX := Lib.hid hnx
        clear hB hS hcl hbl hC hQ hcs hnx h60
        go_wp2
        go_roundw
        case rel => exact ⟨i + 1, by omega, by go_num, by rw [HNX.out], HS2.out, HB.out⟩
        case measure => simp [intOf]; omega
    · obtain rfl : i = len := by omega
      obtain ⟨T, hT⟩ : ∃ T, T = catN S i := ⟨_, rfl⟩
      have hTs : T.size ≤ 1200 := by rw [hT]; have := cat_lt hS; omega
      have hJ1 : ∀ X, Below w.heap.size w X → Joins (.slice A i cap) T X := fun X hX => by
        rw [hT]
        refine joins_many ⟨fun q hq => ?_, HP.out.le⟩ (by rw [← hT]; omega) (by omega)
        obtain ⟨b, off, e1, e2, e3⟩ := HP.out.at_ q hq
        exact ⟨b, off, e1, Nat.lt_of_lt_of_le e2 hX.size, by rw [World.cell?_of_block (a := ⟨b, off + q, none⟩) (hX.block b e2)]; exact e3⟩
      have HC1 := Lib.hid (fun X (hX : Below w.heap.size w X) => hsum_512 key T (.slice A i cap) X (HK.out.next hX) (by have := HKS.out; omega) (by omega) (hJ1 X hX))
      have HC2 := Lib.hid (fun (X : World) (hX : Below w.heap.size w X) => hsum_512 key T (.slice (some ⟨X.heap.size, 0, none⟩) 1 1) (X.alloc (.cells #[.string T] 9)) ((HK.out.next hX).alloc _) (by have := HKS.out; omega) (by omega)
        (joins_one _ _ _ _ _ (by rw [alloc_size]; exact Nat.lt_succ_self _) (cell_of_row _ _ 0 _ _ _ (heap_alloc_new X _))))
      have ea : (⟨#[]⟩ ++ T) ++ ⟨#[]⟩ = T := by apply ByteArray.ext; simp
      have eb : ((⟨#[]⟩ : ByteArray) ++ ⟨#[]⟩) ++ T = T := by apply ByteArray.ext; simp
      have HC3 := Lib.hid (fun (X : World) (hX : Below w.heap.size w X) => hsum_512 key T (.slice (some ⟨X.heap.size, 0, none⟩) 2 2) (X.alloc (.cells #[.string T, .string ⟨#[]⟩] 9)) ((HK.out.next hX).alloc _) (by have := HKS.out; omega) (by omega)
        (by have h := joins_two X.heap.size T ⟨#[]⟩ _ (heap_alloc_new X _) (by show T.size + 0 ≤ _; omega); rwa [ea] at h))
      have HC4 := Lib.hid (fun (X : World) (hX : Below w.heap.size w X) => hsum_512 key T (.slice (some ⟨X.heap.size, 0, none⟩) 2 2) (X.alloc (.cells #[.string ⟨#[]⟩, .string T] 9)) ((HK.out.next hX).alloc _) (by have := HKS.out; omega) (by omega)
        (by have h := joins_two X.heap.size ⟨#[]⟩ T _ (heap_alloc_new X _) (by show 0 + T.size ≤ _; omega); rwa [eb] at h))
      rw [← hT]
      generalize hmacOf 512 128 key T = R at *
      have HB := Lib.hid hB
      have j1 : ¬ (i : Int) < (i : Int) := by omega
      clear hB hS hJ1 hT hTs ea eb hlt hi h1
      go_wp2_with fail
      refine (HJ.out _).mono ?_
      rintro e w2 ⟨rfl, rfl⟩
      go_wp2_with fail
      refine (HC1.out _ HB.out).mono ?_
      rintro e w3 ⟨rfl, hb3⟩
      have HB3 := Lib.hid (below_link HB.out hb3); clear hb3
      go_wp2_with fail
      refine (HC2.out _ HB3.out).mono ?_
      rintro e w4 ⟨rfl, hb4⟩
      have HB4 := Lib.hid (below_link (below_alloc HB3.out _) hb4); clear hb4
      go_wp2_with fail
      refine (HC3.out _ HB4.out).mono ?_
      rintro e w5 ⟨rfl, hb5⟩
      have HB5 := Lib.hid (below_link (below_alloc HB4.out _) hb5); clear hb5
      go_wp2_with fail
      refine (HC4.out _ HB5.out).mono ?_
      rintro e w6 ⟨rfl, hb6⟩
      have HB6 := Lib.hid (below_link (below_alloc HB5.out _) hb6); clear hb6
      go_wp2
      go_ret
      exact ⟨rfl, HB6.out⟩

theorem hparts_all (k : Nat) (key : ByteArray) (A : Option Addr) (len cap : Nat) (S : Nat → ByteArray) (w : World) (hk : k < 256) (hK : Kon w) (hP : Parts w A len cap S) :
    Calls Tryd.prog 7 #[.int .u8 (k : Nat), .string key, .slice A len cap] w fun e w' => e = .returned (.bool true) ∧ Below w.heap.size w w' := by
  by_cases h0 : 200 < key.size
  · exact hparts_long0 k key A len cap w hK h0
  by_cases h1 : 20 < len
  · exact hparts_long1 k key A len cap w hK (by omega) h1
  have h3 : k % 3 = 0 ∨ k % 3 = 1 ∨ k % 3 = 2 := by omega
  rcases h3 with h | h | h
  · exact hparts_256 k key A len cap S w hK h (by omega) (by omega) hP
  · exact hparts_384 k key A len cap S w hK h (by omega) (by omega) hP
  · exact hparts_512 k key A len cap S w hK h (by omega) (by omega) hP

end Go.Proofs.YtfahmbkeibeceaaDoor
