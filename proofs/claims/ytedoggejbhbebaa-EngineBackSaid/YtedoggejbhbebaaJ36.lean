/-
  Joined: Cb. Conditions: as each part says.
-/
import Derived.Test.YtedoggejbhbebaaJ35

/-
  Contract of aes.Cipher.expand. Conditions: the key has 16 or 32 bytes; the box is the substitution's.
-/
namespace Go.Proofs.Ytedoggejbhbebaa
namespace Aes
open Go.ChangeShapes Go.WideShapes Go.ChangeAt Go.RowKit Go.Great Go.ChangeMaps
open Gf
set_option linter.unusedVariables false
set_option maxRecDepth 100000

theorem byteAt_extract (b : ByteArray) (o j : Nat) (h : o + j < b.size) : byteAt (b.extract o b.size) j = byteAt b (o + j) := by
  have hs : (b.extract o b.size).size = b.size - o := by simp
  rw [byteAt_get _ _ h, byteAt_get _ _ (show j < (b.extract o b.size).size by omega)]
  congr 1
  exact ByteArray.getElem_extract _

/-- A cipher whose words are made: below the words' bytes, behind them the boxes'. -/
structure Ex (w : World) (g R : Nat) (wl rest : List Nat) (X : World) : Prop where
  blk : Cb g R (wl ++ rest) X
  len : wl.length = 240
  below : Below g w X
theorem Ex.lt {w : World} {g R : Nat} {wl rest : List Nat} {X : World} (h : Ex w g R wl rest X) : g < X.heap.size := (Array.getElem?_eq_some_iff.1 h.blk).1
theorem Ex.next {w : World} {g R : Nat} {wl rest : List Nat} {X Y : World} (h : Ex w g R wl rest X) (hb : Below X.heap.size X Y) : Ex w g R wl rest Y :=
  ⟨keepBlock h.blk hb, h.len, h.below.trans (hb.mono (Nat.le_of_lt h.lt))⟩
theorem Ex.drew {w : World} {g R : Nat} {wl rest : List Nat} {X : World} (h : Ex w g R wl rest X) : Ex w g R wl rest X.drew := ⟨h.blk, h.len, h.below.drew⟩
theorem set4_append (l m : List Nat) (o : Nat) (d : Nat → Nat) (h : o + 4 ≤ l.length) : set4 (l ++ m) o d = set4 l o d ++ m := by
  unfold set4
  rw [List.set_append_left _ _ (by omega), List.set_append_left _ _ (by rw [List.length_set]; omega), List.set_append_left _ _ (by rw [List.length_set, List.length_set]; omega), List.set_append_left _ _ (by rw [List.length_set, List.length_set, List.length_set]; omega)]
theorem set4_length (l : List Nat) (o : Nat) (d : Nat → Nat) : (set4 l o d).length = l.length := by simp [set4]
theorem Ex.put {w : World} {g R : Nat} {wl rest : List Nat} {X : World} (h : Ex w g R wl rest X) (o : Nat) (d : Nat → Nat) (ho : o + 4 ≤ 240) : Ex w g R (set4 wl o d) rest (put4 X g (1 + o) d) where
  blk := by rw [← set4_append _ _ _ _ (by rw [h.len]; exact ho)]; exact h.blk.put4 o d
  len := by rw [set4_length]; exact h.len
  below := by
    rw [put4_eq]
    exact (((h.below.setCell (Nat.le_refl _) _).setCell (Nat.le_refl _) _).setCell (Nat.le_refl _) _).setCell (Nat.le_refl _) _

def noneF : Nat → Nat := fun _ => 0

theorem load_mid4 {ops : Array Oper} {rest : List Oper} {op : Oper} {a : Act} {X : World} {Q : Exit → Act → World → Prop} (hgd : op.guard = none) (x : Operand) (ho : op.op = .load 106 x)
    (g o : Nat) (hx : a.eval x = .pointer (some ⟨g, o, none⟩)) (d : Nat → Nat) (hr : X.rangeAt g o (valsK .u8 (allF d 4)).toList)
    (h : wpList Try.prog ops Q rest (a.put op.dst (.agg (valsK .u8 (allF d 4)))) X) : wpList Try.prog ops Q (op :: rest) a X :=
  wpList_load_mid hgd 106 x ho g o hx (valsK .u8 (allF d 4)).toList _ hr under4 rfl (by rw [Array.length_toList, valsK_size, allF_length]; exact zero4.2) (by rw [Array.toArray_toList]; exact h)
theorem Ex.cell {w : World} {g R : Nat} {wl rest : List Nat} {X : World} (h : Ex w g R wl rest X) {j x : Nat} (hx : wl[j]? = some x) : X.cell? ⟨g, 1 + j, none⟩ = some (.int .u8 (x : Nat)) :=
  h.blk.cell (by rw [List.getElem?_append_left (List.getElem?_eq_some_iff.1 hx).1]; exact hx)
theorem Ex.range {w : World} {g R : Nat} {wl rest : List Nat} {X : World} (h : Ex w g R wl rest X) (o : Nat) (d : Nat → Nat) (hd : ∀ j < 4, wl[o + j]? = some (d j)) : X.rangeAt g (1 + o) (valsK .u8 (allF d 4)).toList := fun j v hv => by
  have hj : j < 4 := by
    have := (List.getElem?_eq_some_iff.1 hv).1
    rw [Array.length_toList, valsK_size, allF_length] at this
    exact this
  have e : (valsK .u8 (allF d 4))[j]? = some v := by rw [← Array.getElem?_toList]; exact hv
  rw [valsK_get .u8 _ j _ (allF_get d 4 j hj)] at e
  rw [Nat.add_assoc, h.cell (hd j hj), e]
theorem Ex.row {w : World} {g R : Nat} {wl rest : List Nat} {X : World} (h : Ex w g R wl rest X) {c : Nat} (hc : g < c) (m : Array Value) : Ex w g R wl rest (X.setRow c m) :=
  ⟨by unfold Cb; rw [setRow_other _ _ _ _ (by omega)]; exact h.blk, h.len, below_setRow h.below (Nat.le_of_lt hc) _⟩
theorem Ex.setFar {w : World} {g R : Nat} {wl rest : List Nat} {X : World} (h : Ex w g R wl rest X) {c : Nat} (hc : g < c) (j : Nat) (v : Value) : Ex w g R wl rest (X.setCell ⟨c, j, none⟩ v) :=
  ⟨h.blk.far _ _ _ (by omega), h.len, h.below.setCell (by simp only []; omega) _⟩
theorem Ex.box {w : World} {g R : Nat} {wl rest : List Nat} {X : World} (h : Ex w g R wl rest X) (hT : ∀ j < 256, rest[j]? = some (sub j)) : Box g 241 sub X :=
  ⟨h.lt, fun j hj => by
    have := h.blk.cell (j := 240 + j) (x := sub j) (by rw [List.getElem?_append_right (by rw [h.len]; omega), h.len, Nat.add_sub_cancel_left]; exact hT j hj)
    rw [← this]
    congr 2
    omega⟩

/-- With a word in block c. -/
structure Exw (w : World) (g R : Nat) (wl rest : List Nat) (c : Nat) (v : Nat → Nat) (X : World) : Prop where
  ex : Ex w g R wl rest X
  row : Wd .u8 106 c (allF v 4) X
  far : g < c
theorem Exw.next {w : World} {g R : Nat} {wl rest : List Nat} {c : Nat} {v : Nat → Nat} {X Y : World} (h : Exw w g R wl rest c v X) (hb : Below X.heap.size X Y) : Exw w g R wl rest c v Y := ⟨h.ex.next hb, keepBlock h.row hb, h.far⟩
theorem Exw.drew {w : World} {g R : Nat} {wl rest : List Nat} {c : Nat} {v : Nat → Nat} {X : World} (h : Exw w g R wl rest c v X) : Exw w g R wl rest c v X.drew := ⟨h.ex.drew, h.row, h.far⟩
theorem Exw.put {w : World} {g R : Nat} {wl rest : List Nat} {c : Nat} {v : Nat → Nat} {X : World} (h : Exw w g R wl rest c v X) (u : Nat → Nat) : Exw w g R wl rest c u (X.setRow c (valsK .u8 (allF u 4))) := ⟨h.ex.row h.far _, h.row.setRow _, h.far⟩
theorem Exw.set0 {w : World} {g R : Nat} {wl rest : List Nat} {c : Nat} {v : Nat → Nat} {X : World} (h : Exw w g R wl rest c v X) (y : Nat) : Exw w g R wl rest c (fun i => if i = 0 then y else v i) (X.setCell ⟨c, 0, none⟩ (.int .u8 (y : Nat))) := ⟨h.ex.setFar h.far _ _, by
  have := h.row.set 0 y
  have e : (allF v 4).set 0 y = allF (fun i => if i = 0 then y else v i) 4 := rfl
  rw [e] at this
  exact this, h.far⟩
theorem Exw.cells {w : World} {g R : Nat} {wl rest : List Nat} {c : Nat} {v : Nat → Nat} {X : World} (h : Exw w g R wl rest c v X) : X.cell? ⟨c, 0, none⟩ = some (.int .u8 (v 0 : Nat)) ∧ X.cell? ⟨c, 1, none⟩ = some (.int .u8 (v 1 : Nat)) ∧ X.cell? ⟨c, 2, none⟩ = some (.int .u8 (v 2 : Nat)) ∧ X.cell? ⟨c, 3, none⟩ = some (.int .u8 (v 3 : Nat)) :=
  have k : ∀ j, j < 4 → X.cell? ⟨c, j, none⟩ = some (.int .u8 (v j : Nat)) := fun j hj => h.row.cell (allF_get v 4 j hj)
  ⟨k 0 (by decide), k 1 (by decide), k 2 (by decide), k 3 (by decide)⟩

theorem set4_congr (l : List Nat) (o : Nat) {d e : Nat → Nat} (h : ∀ i < 4, d i = e i) : set4 l o d = set4 l o e := by
  unfold set4
  rw [h 0 (by decide), h 1 (by decide), h 2 (by decide), h 3 (by decide)]
theorem div_step {n k : Nat} (hn : n = 4 ∨ n = 8) (hk : n ≤ k) (h : k % n = 0) : k / n = (k - 1) / n + 1 := by
  rcases hn with rfl | rfl <;> omega
theorem div_stay {n k : Nat} (hn : n = 4 ∨ n = 8) (h : k % n ≠ 0) : k / n = (k - 1) / n := by
  rcases hn with rfl | rfl <;> omega

theorem times_two : ∀ a < 256, xt 8 27 a = times a 2 := by decide +kernel

set_option maxRecDepth 100000 in
set_option maxHeartbeats 8000000 in
theorem expand_any (g n : Nat) (key : ByteArray) (rest : List Nat) (w : World) (hn : n = 4 ∨ n = 8) (hk : key.size = 4 * n) (hC : Cb g (n + 6) (zerosN 240 ++ rest) w) (hT : ∀ j < 256, rest[j]? = some (sub j)) :
    Calls Try.prog 75 #[.pointer (some ⟨g, 0, none⟩), .string key] w fun e w' => e = .returned (.tuple #[]) ∧ Cb g (n + 6) (allF (wordAt n (nums key)) 240 ++ rest) w' ∧ Below g w w' := by
  have hEx : Ex w g (n + 6) (stepF (byteAt key) noneF 240 0) rest w := ⟨by
    rw [stepF_zero, show allF noneF 240 = zerosN 240 from allF_zero 240]; exact hC, by rw [stepF_length], Below.refl _ _⟩
  obtain ⟨R, hR⟩ : ∃ R, R = n + 6 := ⟨_, rfl⟩
  rw [← hR] at hEx ⊢
  have HR := Lib.hid hR; clear hR
  have HE := Lib.hid hEx
  have HN := Lib.hid hn
  have HK := Lib.hid hk
  have HT := Lib.hid hT
  have g1 : (key.size : Int) / 4 = (n : Int) := by omega
  have hn8 : n ≤ 8 := by omega
  clear hEx hn hk hC hT
  go_enter Try.func75, Try.ntmps75
  go_wp2
  go_loopw [13] (fun i wr => ∃ k : Nat, k ≤ n ∧ i = .int .i64 (k : Nat) ∧ Ex w g R (stepF (byteAt key) noneF 240 (k * 4)) rest wr) (fun i _ => n - (intOf i).toNat)
  case atStart => exact ⟨0, Nat.zero_le _, rfl, HE.out⟩
  case round =>
    obtain ⟨k, hk, rfl, hS⟩ := hrel
    by_cases hlt : k < n
    · have d1 : decide ((k : Int) < (n : Int)) = true := by simp; omega
      have d2 : decide (k < n) = true := by simp; omega
      have hol : k * 4 + 4 ≤ key.size := by have := HK.out; omega
      obtain ⟨d, hd⟩ : ∃ d : Nat → Nat, d = fun j => byteAt key (k * 4 + j) := ⟨_, rfl⟩
      have hth := hS.drew.blk.there (k * 4) (by rw [List.length_append, hS.len]; omega)
      have hcp := fun ty => run_copy4 ty wr.drew g (1 + k * 4) 4 (key.extract (4 * k) key.size) d (by simp; omega) (fun j hj => by rw [byteAt_extract _ _ _ (by omega), hd, Nat.mul_comm 4 k]) hth
      have hst := hS.drew.put (k * 4) d (by omega)
      rw [hd, set4_step, ← hd, ← show (k + 1) * 4 = k * 4 + 4 by omega] at hst
      have q1 : IntKind.i64.wrap (4 * (k : Int)) = 4 * (k : Int) := by rw [IntKind.wrap_i64]; omega
      have q3 : 4 * (k : Int) ≤ (key.size : Int) := by omega
      have q4 : (k : Int) < 60 := by omega
      have HST := Lib.hid hst
      have HLT := Lib.hid hlt
      clear hst hd hth hS hlt hol
      go_wp2
      go_region
      all_goals (go_wp2; go_roundw)
      all_goals first
        | exact ⟨k + 1, by have := HLT.out; omega, by go_num, HST.out⟩
        | (have := HLT.out; simp [intOf]; omega)
    · have d1 : decide ((k : Int) < (n : Int)) = false := by simp; omega
      have d2 : decide (k < n) = false := by simp; omega
      have e0 : k = n := by omega
      rw [e0] at hS
      have hS2 : Ex w g R (stepF (wordAt n (nums key)) noneF 240 (n * 4)) rest wr := by
        have e : stepF (byteAt key) noneF 240 (n * 4) = stepF (wordAt n (nums key)) noneF 240 (n * 4) := by
          unfold stepF
          refine List.map_congr_left fun j hj => ?_
          by_cases h : j < n * 4
          · rw [if_pos h, if_pos h, wordAt_key n (nums key) (by rw [nums_length]; exact HK.out) j (by omega)]
            rfl
          · rw [if_neg h, if_neg h]
        rw [← e]; exact hS
      obtain ⟨W, hW⟩ : ∃ W, W = wordAt n (nums key) := ⟨_, rfl⟩
      rw [← hW] at hS2
      have HW := Lib.hid hW
      have HS2 := Lib.hid hS2
      clear hS hS2 hW e0
      go_wp2
      go_loopw [6, 7] (fun p i wr => ∃ k : Nat, n ≤ k ∧ k ≤ 4 * (n + 7) ∧ i = .int .i64 (k : Nat) ∧ p = .int .u8 (pw ((k - 1) / n) : Nat) ∧ Ex w g R (stepF W noneF 240 (k * 4)) rest wr) (fun _ i _ => 4 * (n + 7) - (intOf i).toNat)
      case atStart => exact ⟨n, Nat.le_refl _, by omega, rfl, by rw [Nat.div_eq_of_lt (by have := HN.out; omega)]; rfl, HS2.out⟩
      case round =>
        obtain ⟨k, hnk, hk, rfl, rfl, hS⟩ := hrel
        have cr := hS.blk.rounds
        have hn1 : 4 ≤ n := by have := HN.out; omega
        have hR8 : R ≤ 14 := by have := HR.out; omega
        by_cases hlt : k < 4 * (n + 7)
        · have g2 : (k : Int) < 4 * ((R : Int) + 1) := by have := HR.out; omega
          obtain ⟨m, hm⟩ : ∃ m, m = k - 1 := ⟨_, rfl⟩
          obtain ⟨m2, hm2⟩ : ∃ m, m = k - n := ⟨_, rfl⟩
          obtain ⟨t, ht⟩ : ∃ t, t = k % n := ⟨_, rfl⟩
          obtain ⟨p, hp⟩ : ∃ p, p = pw ((k - 1) / n) := ⟨_, rfl⟩
          have hpl : p < 256 := by rw [hp]; exact pw_lt _
          have htl : t < n := by rw [ht]; exact Nat.mod_lt _ (by omega)
          rw [← hp]
          obtain ⟨C, hC⟩ : ∃ C : Nat → Nat, C = fun i => W (m * 4 + i) := ⟨_, rfl⟩
          obtain ⟨K, hK⟩ : ∃ K : Nat → Nat, K = fun i => W (m2 * 4 + i) := ⟨_, rfl⟩
          have hCl : ∀ i, C i < 256 := fun i => by rw [hC, HW.out]; exact wordAt_lt (nums_lt key) _
          have hKl : ∀ i, K i < 256 := fun i => by rw [hK, HW.out]; exact wordAt_lt (nums_lt key) _
          have hrg := hS.range (m * 4) C (fun j hj => by rw [stepF_get _ _ _ _ _ (by omega), if_pos (by omega), hC])
          have hnx : ∀ i < 4, W (k * 4 + i) = K i ^^^ (turned n k (C 0) (C 1) (C 2) (C 3)).getD i 0 := fun i hi => by
            have := wordAt_next n (nums key) (by rw [nums_length]; exact HK.out) (by omega) k i hnk (by omega) hi
            rw [← HW.out] at this
            rw [Nat.mul_comm k 4, this, hK, hC, hm2, hm]
            have e0 : (k - 1) * 4 + 0 = 4 * k - 4 := by omega
            have e1 : (k - 1) * 4 + 1 = 4 * k - 3 := by omega
            have e2 : (k - 1) * 4 + 2 = 4 * k - 2 := by omega
            have e3 : (k - 1) * 4 + 3 = 4 * k - 1 := by omega
            simp only [e0, e1, e2, e3, Nat.mul_comm (k - n) 4]
          have q1 : (k : Int) - 1 = (m : Int) := by omega
          have q1' : IntKind.i64.wrap (m : Int) = (m : Int) := by rw [IntKind.wrap_i64]; omega
          have q2 : (k : Int) - (n : Int) = (m2 : Int) := by omega
          have q2' : IntKind.i64.wrap (m2 : Int) = (m2 : Int) := by rw [IntKind.wrap_i64]; omega
          have q3 : Int.tmod (k : Int) (n : Int) = (t : Int) := by rw [Int.tmod_eq_emod_of_nonneg (by omega), ht]; exact (Int.natCast_emod k n).symm
          have q4 : (k : Int) % (n : Int) = (t : Int) := by rw [ht]; exact (Int.natCast_emod k n).symm
          have q5 : ¬ (n : Int) = 0 := by omega
          have q6 : (m : Int) < 60 := by omega
          have q7 : (m2 : Int) < 60 := by omega
          have q8 : (k : Int) < 60 := by omega
          obtain ⟨c, hc⟩ : ∃ c, c = wr.heap.size := ⟨_, rfl⟩
          have hSZ : (valsK .u8 (allF C 4)).size = 4 := by rw [valsK_size, allF_length]
          have st := storeOld (wr.alloc (.cells (valsK .u8 (zerosN 4)) 106)) c 106 (valsK .u8 (zerosN 4)) (valsK .u8 (allF C 4)) (by rw [hc]; exact heap_alloc_new wr _) (by rw [hSZ, valsK_size]; rfl) (valsK_one _ _)
          have hxw : Exw w g R (stepF W noneF 240 (k * 4)) rest c C ((wr.alloc (.cells (valsK .u8 (zerosN 4)) 106)).setRow c (valsK .u8 (allF C 4))) := by
            rw [hc]; exact ⟨hS.next (below_new_col wr (allF C 4)), new_col wr (allF C 4), hS.lt⟩
          have hc' := hc.symm
          have HXW := Lib.hid hxw
          have HRG := Lib.hid hrg
          have HF := Lib.hid (show (4 ≤ n ∧ n ≤ 8 ∧ n ≤ k ∧ k < 4 * (n + 7) ∧ m = k - 1 ∧ m2 = k - n ∧ t = k % n ∧ t < n) ∧ p = pw ((k - 1) / n) ∧ p < 256 from ⟨⟨hn1, hn8, hnk, hlt, hm, hm2, ht, htl⟩, hp, hpl⟩)
          have HCK := Lib.hid (And.intro hC (And.intro hK (And.intro hCl hKl)))
          have HNX := Lib.hid hnx
          have hz4 := zero4.1
          have hne4 := zeros4_ne .u8
          clear hxw hrg hS hlt hm hm2 ht htl hp hpl hC hK hCl hKl hnx hc hSZ
          by_cases ht0 : t = 0
          · have b1 : ((t : Int) == 0) = true := by simp; omega
            have HT0 := Lib.hid ht0; clear ht0
            go_wp2_with (refine load_mid4 (by rfl) _ (by rfl) g (1 + m * 4) (by rfl) C ?_ ?_; exact HRG.out)
            clear st hz4 hne4 q3 q4 q1 b1 cr hc'
            generalize (wr.alloc (.cells (valsK .u8 (zerosN 4)) 106)).setRow c (valsK .u8 (allF C 4)) = wq at *
            obtain ⟨y0, y1, y2, y3⟩ := HXW.out.cells
            obtain ⟨E, hE⟩ : ∃ E : Nat → Nat, E = fun i => sub (col4 (C 1) (C 2) (C 3) (C 0) i) := ⟨_, rfl⟩
            have C1 : Hid (∀ X, Box g 241 sub X → Calls Try.prog 97 #[.agg #[.int .u8 (C 1 : Nat), .int .u8 (C 2 : Nat), .int .u8 (C 3 : Nat), .int .u8 (C 0 : Nat)], .pointer (some ⟨g, 241, none⟩)] X fun e w' => e = .returned (.agg (valsK .u8 (allF E 4))) ∧ Below X.heap.size X w') := Lib.hid (fun X hX => by
              rw [hE]; exact column_any (col4 (C 1) (C 2) (C 3) (C 0)) sub g 241 X (col4_lt (HCK.out.2.2.1 1) (HCK.out.2.2.1 2) (HCK.out.2.2.1 3) (HCK.out.2.2.1 0)) hX)
            have HEE := Lib.hid hE; clear hE
            go_still_tail 12, (by kernel_rfl)
            change wpList _ _ _ _ _ wq.drew
            have HXD := Lib.hid HXW.out.drew
            clear y0 y1 y2 y3 HXW
            generalize wq.drew = wd at *
            go_wp2_with fail
            refine (C1.out _ (HXD.out.ex.box HT.out)).mono ?_
            rintro e w3 ⟨rfl, hb3⟩
            have H3 := Lib.hid (HXD.out.next hb3)
            have H4 := Lib.hid ((HXD.out.next hb3).put E)
            clear hb3
            have z0 := H4.out.cells.1
            have f0 := H4.out.row.frozen 0
            obtain ⟨z, hz⟩ : ∃ z, z = E 0 ^^^ p := ⟨_, rfl⟩
            have hE0 : E 0 < 256 := by rw [HEE.out]; exact sub_lt _ (HCK.out.2.2.1 1)
            have qz := u8_xor_nat (E 0) p hE0 HF.out.2.2
            rw [← hz] at qz
            have H5 := Lib.hid (H4.out.set0 z)
            obtain ⟨V, hV⟩ : ∃ V : Nat → Nat, V = fun i => if i = 0 then z else E i := ⟨_, rfl⟩
            rw [← hV] at H5
            have hzl : z < 256 := by rw [hz]; exact Nat.xor_lt_two_pow (n := 8) hE0 HF.out.2.2
            have HVV := Lib.hid (show (∀ i < 4, V i = (turned n k (C 0) (C 1) (C 2) (C 3)).getD i 0) ∧ (∀ i < 4, V i < 256) from by
              have h1 := HF.out.1
              have hkn : k % n = 0 := by have := HT0.out; omega
              have hpw : pw (k / n - 1) = p := by rw [HF.out.2.1, div_step HN.out (by omega) hkn, Nat.add_sub_cancel]
              constructor
              · intro i hi
                unfold turned
                rw [if_pos hkn, hpw, hV, hz, HEE.out]
                match i, hi with
                | 0, _ => rfl
                | 1, _ => rfl
                | 2, _ => rfl
                | 3, _ => rfl
              · intro i hi
                rw [hV]
                show (if i = 0 then z else E i) < 256
                split
                · exact hzl
                · rw [HEE.out]; exact sub_lt _ (col4_lt (HCK.out.2.2.1 1) (HCK.out.2.2.1 2) (HCK.out.2.2.1 3) (HCK.out.2.2.1 0) i hi))
            have CT := Lib.hid (fun X => twice_any p X HF.out.2.2)
            clear hV hz hE0 hzl
            go_wp2_with (refine store_whole (by rfl) 106 _ _ (by rfl) _ (by rfl) (allF E 4) (allF C 4) (by rfl) ?_ ?_ ?_ ?_; exact H3.out.row; (rw [valsK_size, valsK_size, allF_length, allF_length]); (rw [valsK_size, allF_length]; exact zero4.2))
            refine (CT.out _).mono ?_
            rintro e w5 ⟨rfl, rfl⟩
            clear z0 f0 qz
            generalize (w3.setRow c (valsK .u8 (allF E 4))).setCell ⟨c, 0, none⟩ (.int .u8 (z : Nat)) = wt at *
            obtain ⟨D, hD⟩ : ∃ D : Nat → Nat, D = fun i => K i ^^^ V i := ⟨_, rfl⟩
            have CS : Hid (∀ X, Calls Try.prog 98 #[.agg #[.int .u8 (K 0 : Nat), .int .u8 (K 1 : Nat), .int .u8 (K 2 : Nat), .int .u8 (K 3 : Nat)], .agg #[.int .u8 (V 0 : Nat), .int .u8 (V 1 : Nat), .int .u8 (V 2 : Nat), .int .u8 (V 3 : Nat)]] X fun e w' => e = .returned (.agg (valsK .u8 (allF D 4))) ∧ Below X.heap.size X w') := Lib.hid (fun X => by
              rw [hD]; exact sum_any K V X (fun i _ => HCK.out.2.2.2 i) HVV.out.2)
            obtain ⟨x0, x1, x2, x3⟩ := H5.out.cells
            have ck : ∀ i < 4, wt.cell? ⟨g, 1 + m2 * 4 + i, none⟩ = some (.int .u8 (K i : Nat)) := fun i hi => by
              have h1 := HF.out.1
              rw [Nat.add_assoc]
              exact H5.out.ex.cell (by rw [stepF_get _ _ _ _ _ (by omega), if_pos (by omega), HCK.out.2.1])
            have k0 : wt.cell? ⟨g, 1 + m2 * 4, none⟩ = some (.int .u8 (K 0 : Nat)) := ck 0 (by decide)
            have k1 := ck 1 (by decide)
            have k2 := ck 2 (by decide)
            have k3 := ck 3 (by decide)
            have hnew : ∀ Y, Ex w g R (stepF W noneF 240 (k * 4)) rest Y → Ex w g R (stepF W noneF 240 ((k + 1) * 4)) rest (put4 Y g (1 + k * 4) D) := fun Y hY => by
              have h1 := HF.out.1
              have h2 := hY.put (k * 4) D (by omega)
              rw [set4_congr _ _ (e := fun i => W (k * 4 + i)) (fun i hi => by show _ = W (k * 4 + i); rw [hD, HNX.out i hi, ← HVV.out.1 i hi]), set4_step, ← show (k + 1) * 4 = k * 4 + 4 by omega] at h2
              exact h2
            have HNEW := Lib.hid hnew
            clear hnew ck hD
            go_wp2
            go_region_with ((go_at_call 98; with_reducible refine (CS.out _).mono ?_; rintro e w9 ⟨rfl, hb9⟩; have h9 := H5.out.ex.drew.next hb9; have st := storePut w9 g (1 + k * 4) D (h9.blk.there (k * 4) (by have := HF.out.1; rw [List.length_append, stepF_length]; omega)); have H9 := Lib.hid h9; clear h9 hb9))
            all_goals (go_wp2; go_roundw)
            all_goals first
              | exact ⟨k + 1, by have := HF.out.1; omega, by have := HF.out.1; omega, by go_num, by have h1 := HF.out.1; have hkn : k % n = 0 := by { have := HT0.out; omega }; rw [Nat.add_sub_cancel, div_step HN.out (by omega) hkn, pw, ← HF.out.2.1, times_two p HF.out.2.2], HNEW.out _ H9.out⟩
              | (have := HF.out.1; simp [intOf]; omega)
          · have b1 : ((t : Int) == 0) = false := by simp; omega
            have HT0 := Lib.hid ht0
            by_cases h48 : n = 8 ∧ t = 4
            · have b2 : ((t : Int) == 4) = true := by simp; omega
              have H48 := Lib.hid h48
              clear ht0 h48
              go_wp2_with (refine load_mid4 (by rfl) _ (by rfl) g (1 + m * 4) (by rfl) C ?_ ?_; exact HRG.out)
              clear st hz4 hne4 q3 q4 q1 b1 b2 cr hc'
              generalize (wr.alloc (.cells (valsK .u8 (zerosN 4)) 106)).setRow c (valsK .u8 (allF C 4)) = wq at *
              obtain ⟨y0, y1, y2, y3⟩ := HXW.out.cells
              obtain ⟨V, hV⟩ : ∃ V : Nat → Nat, V = fun i => sub (C i) := ⟨_, rfl⟩
              have C1 : Hid (∀ X, Box g 241 sub X → Calls Try.prog 97 #[.agg #[.int .u8 (C 0 : Nat), .int .u8 (C 1 : Nat), .int .u8 (C 2 : Nat), .int .u8 (C 3 : Nat)], .pointer (some ⟨g, 241, none⟩)] X fun e w' => e = .returned (.agg (valsK .u8 (allF V 4))) ∧ Below X.heap.size X w') := Lib.hid (fun X hX => by
                rw [hV]; exact column_any C sub g 241 X (fun i _ => HCK.out.2.2.1 i) hX)
              have HVV := Lib.hid (show (∀ i < 4, V i = (turned n k (C 0) (C 1) (C 2) (C 3)).getD i 0) ∧ (∀ i < 4, V i < 256) from by
                have h1 := HF.out.1
                have hkn : ¬ k % n = 0 := by have := HT0.out; omega
                have hk4 : n = 8 ∧ k % n = 4 := ⟨H48.out.1, by have := H48.out.2; omega⟩
                constructor
                · intro i hi
                  unfold turned
                  rw [if_neg hkn, if_pos hk4, hV]
                  match i, hi with
                  | 0, _ => rfl
                  | 1, _ => rfl
                  | 2, _ => rfl
                  | 3, _ => rfl
                · intro i hi
                  rw [hV]
                  exact sub_lt _ (HCK.out.2.2.1 i))
              clear hV
              go_still_tail 4, (by kernel_rfl)
              change wpList _ _ _ _ _ wq.drew
              have HXD := Lib.hid HXW.out.drew
              clear y0 y1 y2 y3 HXW
              generalize wq.drew = wd at *
              go_wp2_with fail
              refine (C1.out _ (HXD.out.ex.box HT.out)).mono ?_
              rintro e w3 ⟨rfl, hb3⟩
              have H3 := Lib.hid (HXD.out.next hb3)
              have H5 := Lib.hid ((HXD.out.next hb3).put V)
              clear hb3
              go_wp2_with (refine store_whole (by rfl) 106 _ _ (by rfl) _ (by rfl) (allF V 4) (allF C 4) (by rfl) ?_ ?_ ?_ ?_; exact H3.out.row; (rw [valsK_size, valsK_size, allF_length, allF_length]); (rw [valsK_size, allF_length]; exact zero4.2))
              generalize w3.setRow c (valsK .u8 (allF V 4)) = wt at *
              obtain ⟨D, hD⟩ : ∃ D : Nat → Nat, D = fun i => K i ^^^ V i := ⟨_, rfl⟩
              have CS : Hid (∀ X, Calls Try.prog 98 #[.agg #[.int .u8 (K 0 : Nat), .int .u8 (K 1 : Nat), .int .u8 (K 2 : Nat), .int .u8 (K 3 : Nat)], .agg #[.int .u8 (V 0 : Nat), .int .u8 (V 1 : Nat), .int .u8 (V 2 : Nat), .int .u8 (V 3 : Nat)]] X fun e w' => e = .returned (.agg (valsK .u8 (allF D 4))) ∧ Below X.heap.size X w') := Lib.hid (fun X => by
                rw [hD]; exact sum_any K V X (fun i _ => HCK.out.2.2.2 i) HVV.out.2)
              obtain ⟨x0, x1, x2, x3⟩ := H5.out.cells
              have ck : ∀ i < 4, wt.cell? ⟨g, 1 + m2 * 4 + i, none⟩ = some (.int .u8 (K i : Nat)) := fun i hi => by
                have h1 := HF.out.1
                rw [Nat.add_assoc]
                exact H5.out.ex.cell (by rw [stepF_get _ _ _ _ _ (by omega), if_pos (by omega), HCK.out.2.1])
              have k0 : wt.cell? ⟨g, 1 + m2 * 4, none⟩ = some (.int .u8 (K 0 : Nat)) := ck 0 (by decide)
              have k1 := ck 1 (by decide)
              have k2 := ck 2 (by decide)
              have k3 := ck 3 (by decide)
              have hnew : ∀ Y, Ex w g R (stepF W noneF 240 (k * 4)) rest Y → Ex w g R (stepF W noneF 240 ((k + 1) * 4)) rest (put4 Y g (1 + k * 4) D) := fun Y hY => by
                have h1 := HF.out.1
                have h2 := hY.put (k * 4) D (by omega)
                rw [set4_congr _ _ (e := fun i => W (k * 4 + i)) (fun i hi => by show _ = W (k * 4 + i); rw [hD, HNX.out i hi, ← HVV.out.1 i hi]), set4_step, ← show (k + 1) * 4 = k * 4 + 4 by omega] at h2
                exact h2
              have HNEW := Lib.hid hnew
              clear hnew ck hD
              go_wp2
              go_region_with ((go_at_call 98; with_reducible refine (CS.out _).mono ?_; rintro e w9 ⟨rfl, hb9⟩; have h9 := H5.out.ex.drew.next hb9; have st := storePut w9 g (1 + k * 4) D (h9.blk.there (k * 4) (by have := HF.out.1; rw [List.length_append, stepF_length]; omega)); have H9 := Lib.hid h9; clear h9 hb9))
              all_goals (go_wp2; go_roundw)
              all_goals first
                | exact ⟨k + 1, by have := HF.out.1; omega, by have := HF.out.1; omega, by go_num, by have h1 := HF.out.1; have hkn : k % n ≠ 0 := by { have := HT0.out; omega }; rw [Nat.add_sub_cancel, div_stay HN.out hkn, ← HF.out.2.1], HNEW.out _ H9.out⟩
                | (have := HF.out.1; simp [intOf]; omega)
            · have b2 : ((t : Int) == 4) = false := by
                have : t < n := HF.out.1.2.2.2.2.2.2.2
                have := HN.out
                simp; omega
              have H48 := Lib.hid h48
              clear ht0 h48
              go_wp2_with (refine load_mid4 (by rfl) _ (by rfl) g (1 + m * 4) (by rfl) C ?_ ?_; exact HRG.out)
              clear st hz4 hne4 q3 q4 q1 b1 b2 cr hc'
              generalize (wr.alloc (.cells (valsK .u8 (zerosN 4)) 106)).setRow c (valsK .u8 (allF C 4)) = wt at *
              have HVV := Lib.hid (show (∀ i < 4, C i = (turned n k (C 0) (C 1) (C 2) (C 3)).getD i 0) ∧ (∀ i < 4, C i < 256) from by
                have h1 := HF.out.1
                have hkn : ¬ k % n = 0 := by have := HT0.out; omega
                have hk4 : ¬ (n = 8 ∧ k % n = 4) := fun hh => H48.out ⟨hh.1, by have := hh.2; omega⟩
                constructor
                · intro i hi
                  unfold turned
                  rw [if_neg hkn, if_neg hk4]
                  match i, hi with
                  | 0, _ => rfl
                  | 1, _ => rfl
                  | 2, _ => rfl
                  | 3, _ => rfl
                · intro i hi
                  exact HCK.out.2.2.1 i)
              obtain ⟨D, hD⟩ : ∃ D : Nat → Nat, D = fun i => K i ^^^ C i := ⟨_, rfl⟩
              have CS : Hid (∀ X, Calls Try.prog 98 #[.agg #[.int .u8 (K 0 : Nat), .int .u8 (K 1 : Nat), .int .u8 (K 2 : Nat), .int .u8 (K 3 : Nat)], .agg #[.int .u8 (C 0 : Nat), .int .u8 (C 1 : Nat), .int .u8 (C 2 : Nat), .int .u8 (C 3 : Nat)]] X fun e w' => e = .returned (.agg (valsK .u8 (allF D 4))) ∧ Below X.heap.size X w') := Lib.hid (fun X => by
                rw [hD]; exact sum_any K C X (fun i _ => HCK.out.2.2.2 i) HVV.out.2)
              obtain ⟨x0, x1, x2, x3⟩ := HXW.out.cells
              have ck : ∀ i < 4, wt.cell? ⟨g, 1 + m2 * 4 + i, none⟩ = some (.int .u8 (K i : Nat)) := fun i hi => by
                have h1 := HF.out.1
                rw [Nat.add_assoc]
                exact HXW.out.ex.cell (by rw [stepF_get _ _ _ _ _ (by omega), if_pos (by omega), HCK.out.2.1])
              have k0 : wt.cell? ⟨g, 1 + m2 * 4, none⟩ = some (.int .u8 (K 0 : Nat)) := ck 0 (by decide)
              have k1 := ck 1 (by decide)
              have k2 := ck 2 (by decide)
              have k3 := ck 3 (by decide)
              have hnew : ∀ Y, Ex w g R (stepF W noneF 240 (k * 4)) rest Y → Ex w g R (stepF W noneF 240 ((k + 1) * 4)) rest (put4 Y g (1 + k * 4) D) := fun Y hY => by
                have h1 := HF.out.1
                have h2 := hY.put (k * 4) D (by omega)
                rw [set4_congr _ _ (e := fun i => W (k * 4 + i)) (fun i hi => by show _ = W (k * 4 + i); rw [hD, HNX.out i hi, ← HVV.out.1 i hi]), set4_step, ← show (k + 1) * 4 = k * 4 + 4 by omega] at h2
                exact h2
              have HNEW := Lib.hid hnew
              clear hnew ck hD
              go_wp2
              go_region_with ((go_at_call 98; with_reducible refine (CS.out _).mono ?_; rintro e w9 ⟨rfl, hb9⟩; have h9 := HXW.out.ex.drew.next hb9; have st := storePut w9 g (1 + k * 4) D (h9.blk.there (k * 4) (by have := HF.out.1; rw [List.length_append, stepF_length]; omega)); have H9 := Lib.hid h9; clear h9 hb9))
              all_goals (go_wp2; go_roundw)
              all_goals first
                | exact ⟨k + 1, by have := HF.out.1; omega, by have := HF.out.1; omega, by go_num, by have h1 := HF.out.1; have hkn : k % n ≠ 0 := by { have := HT0.out; omega }; rw [Nat.add_sub_cancel, div_stay HN.out hkn, ← HF.out.2.1], HNEW.out _ H9.out⟩
                | (have := HF.out.1; simp [intOf]; omega)
        · have g2 : ¬ (k : Int) < 4 * ((R : Int) + 1) := by have := HR.out; omega
          have hfin : Cb g R (allF W 240 ++ rest) wr := by
            have e : stepF W noneF 240 (k * 4) = allF W 240 := by
              unfold stepF allF
              refine List.map_congr_left fun j hj => ?_
              by_cases h : j < k * 4
              · rw [if_pos h]
              · rw [if_neg h, HW.out]
                unfold wordAt
                rw [List.getD_eq_getElem?_getD, List.getElem?_eq_none (by rw [allWords_length n (nums key) (by rw [nums_length]; exact HK.out)]; omega)]
                rfl
            rw [← e]; exact hS.blk
          rw [HW.out] at hfin
          have HFIN := Lib.hid (And.intro hfin hS.below)
          clear hS hfin hlt
          go_wp2
          go_end0
          exact ⟨rfl, HFIN.out⟩

end Aes
end Go.Proofs.Ytedoggejbhbebaa
