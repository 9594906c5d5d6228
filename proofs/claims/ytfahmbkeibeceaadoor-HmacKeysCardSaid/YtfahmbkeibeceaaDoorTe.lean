/-
  Contract of the method block of dromondref05.Form. Conditions: the block has sixteen words.
-/
import Derived.Test.YtfahmbkeibeceaaDoorTd
namespace Go.Proofs.YtfahmbkeibeceaaDoor
open Go.ChangeShapes Go.WideShapes Go.ChangeAt Go.RowKit Go.Great
open Sha
set_option linter.unusedVariables false

theorem Ba32.start (w : World) (gb ob : Nat) (bs : List Nat) (s : St) (hb : Bs gb ob bs w) (hg : gb < w.heap.size) :
    Ba32 w gb ob bs zeros80 s ((((w.alloc (.cells #[.int .i64 32, .int .i64 64, .int .u64 2, .int .u64 13, .int .u64 22, .int .u64 6, .int .u64 11, .int .u64 25, .int .u64 7, .int .u64 18, .int .u64 3, .int .u64 17, .int .u64 19, .int .u64 10] 47)).alloc (.cells (valsK .u64 s.list) 49)).alloc (.cells #[.int .u64 0, .int .u64 0, .int .u64 0, .int .u64 0, .int .u64 0, .int .u64 0, .int .u64 0, .int .u64 0] 49)).alloc (.cells (valsK .u64 zeros80) 67)) where
  hf := keepAlloc (keepAlloc (keepAlloc (heap_alloc_new w _) _) _) _
  hh := by
    have := keepAlloc (keepAlloc (heap_alloc_new (w.alloc (.cells #[.int .i64 32, .int .i64 64, .int .u64 2, .int .u64 13, .int .u64 22, .int .u64 6, .int .u64 11, .int .u64 25, .int .u64 7, .int .u64 18, .int .u64 3, .int .u64 17, .int .u64 19, .int .u64 10] 47)) (.cells (valsK .u64 s.list) 49)) (.cells #[.int .u64 0, .int .u64 0, .int .u64 0, .int .u64 0, .int .u64 0, .int .u64 0, .int .u64 0, .int .u64 0] 49)) (.cells (valsK .u64 zeros80) 67)
    rwa [alloc_size] at this
  hr := by
    have := keepAlloc (heap_alloc_new ((w.alloc (.cells #[.int .i64 32, .int .i64 64, .int .u64 2, .int .u64 13, .int .u64 22, .int .u64 6, .int .u64 11, .int .u64 25, .int .u64 7, .int .u64 18, .int .u64 3, .int .u64 17, .int .u64 19, .int .u64 10] 47)).alloc (.cells (valsK .u64 s.list) 49)) (.cells #[.int .u64 0, .int .u64 0, .int .u64 0, .int .u64 0, .int .u64 0, .int .u64 0, .int .u64 0, .int .u64 0] 49)) (.cells (valsK .u64 zeros80) 67)
    rwa [alloc_size, alloc_size] at this
  hw := by
    have := heap_alloc_new (((w.alloc (.cells #[.int .i64 32, .int .i64 64, .int .u64 2, .int .u64 13, .int .u64 22, .int .u64 6, .int .u64 11, .int .u64 25, .int .u64 7, .int .u64 18, .int .u64 3, .int .u64 17, .int .u64 19, .int .u64 10] 47)).alloc (.cells (valsK .u64 s.list) 49)).alloc (.cells #[.int .u64 0, .int .u64 0, .int .u64 0, .int .u64 0, .int .u64 0, .int .u64 0, .int .u64 0, .int .u64 0] 49)) (.cells (valsK .u64 zeros80) 67)
    rwa [alloc_size, alloc_size, alloc_size] at this
  hb := (((hb.of (heap_alloc_old _ _ hg)).of (heap_alloc_old _ _ (by rw [alloc_size]; omega))).of (heap_alloc_old _ _ (by rw [alloc_size, alloc_size]; omega))).of (heap_alloc_old _ _ (by rw [alloc_size, alloc_size, alloc_size]; omega))
  lt := hg
  below := below_alloc (below_alloc (below_alloc ((Below.refl _ _).alloc (Nat.le_refl _) _) _) _) _

set_option maxRecDepth 10000 in
set_option maxHeartbeats 8000000 in
theorem refBlock_32 (s : St) (gb ob cap : Nat) (bs : List Nat) (w : World) (hs : s.Small 32) (hbl : bs.length = 64) (hbs : ∀ c ∈ bs, c < 256) (hB : Bs gb ob bs w) (hg : gb < w.heap.size) :
    Calls Tryd.prog 25 #[.agg form32, .agg (valsK .u64 s.list), .slice (some ⟨gb, ob, none⟩) 64 cap] w fun e w' =>
      e = .returned (.agg (valsK .u64 (Sha.block 32 (kAt 32) s bs).list)) ∧ Below w.heap.size w w' := by
  have HSt := Lib.hid (Ba32.start w gb ob bs s hB hg); clear hB hg
  obtain ⟨m, hm⟩ : ∃ m, m = wordsOf 32 bs := ⟨_, rfl⟩
  have hml : ∀ j < 16, m j < 2 ^ 32 := by
    intro j _
    rw [hm]
    refine Nat.lt_of_lt_of_le (beVal_lt _ fun c hc => hbs c (List.mem_of_mem_drop (List.mem_of_mem_take hc))) ?_
    rw [show (2 : Nat) ^ 32 = 256 ^ (32 / 8) by decide]
    exact Nat.pow_le_pow_right (by decide) (by rw [List.length_take]; omega)
  have HML := Lib.hid (fun i => word_lt hml i); clear hml
  have HM := Lib.hid hm; clear hm
  have HS := Lib.hid hs; clear hs
  have HBL := Lib.hid hbl; clear hbl
  have HBS := Lib.hid hbs; clear hbs
  have hz := zero80_64.1
  have hne := zeros_ne_64
  unfold form32
  go_enter Tryd.func25, Tryd.ntmps25
  go_wp2_with fail
  clear hz hne
  go_loopw [9] (fun x wr => ∃ i : Nat, i ≤ 64 ∧ x = .int .i64 (i : Nat) ∧ Ba32 w gb ob bs (upTo 32 m i) s wr) (fun x _ => 64 - (intOf x).toNat)
  case atStart => exact ⟨0, Nat.zero_le _, rfl, by rw [upTo_zero]; exact HSt.out⟩
  case round =>
    obtain ⟨i, hi, rfl, hS⟩ := hrel
    have hpr : wr.cell? ⟨w.heap.size, 1, none⟩ = some (.int .i64 64) := hS.form 1
    by_cases hlt : i < 64
    · by_cases h16 : i < 16
      · have HQ := Lib.hid (show Ba32 w gb ob bs ((upTo 32 m i).set i (pv 4 bs i 0)) s wr by rw [pv_zero, upTo_set0 _ _ _ (by omega)]; exact hS); clear hS
        go_wp2
        go_loopw [10] (fun y wr => ∃ j : Nat, j ≤ 4 ∧ y = .int .i64 (j : Nat) ∧ Ba32 w gb ob bs ((upTo 32 m i).set i (pv 4 bs i j)) s wr) (fun y _ => 4 - (intOf y).toNat)
        case atStart => exact ⟨0, Nat.zero_le _, rfl, HQ.out⟩
        case round =>
          obtain ⟨j, hj, rfl, hS⟩ := hrel
          by_cases hlj : j < 4
          · obtain ⟨v, hv⟩ : ∃ v, v = pv 4 bs i j := ⟨_, rfl⟩
            obtain ⟨p, hp⟩ : ∃ p, p = 4 * i := ⟨_, rfl⟩
            obtain ⟨a, ha⟩ : ∃ a, a = p + j := ⟨_, rfl⟩
            have hal : a < bs.length := by have := HBL.out; omega
            obtain ⟨cc, hc⟩ : ∃ cc, bs[a]? = some cc := ⟨_, List.getElem?_eq_getElem hal⟩
            have hcl : cc < 256 := HBS.out cc (List.mem_of_getElem? hc)
            have hvl : v < 72057594037927936 := by rw [hv]; exact pv_lt HBS.out i j (by omega)
            have hnx := pv_next (s := 4) (b := bs) (i := i) (j := j) (c := cc) (by rw [← hp, ← ha]; exact hc)
            rw [← hv] at hnx hS
            obtain ⟨z, ez⟩ : ∃ z, z = v * 256 + cc := ⟨_, rfl⟩
            rw [← ez] at hnx
            have q0 : IntKind.i64.wrap (4 * (i : Int)) = (p : Int) := by rw [IntKind.wrap_i64]; omega
            have q1 : IntKind.i64.wrap ((p : Int) + (j : Int)) = (a : Int) := by rw [IntKind.wrap_i64]; omega
            have q2 : (a : Int) < 64 := by have := HBL.out; omega
            have q3 : (i : Int) < 80 := by omega
            have q4 : IntKind.u64.wrap ((v : Int) * 256) = ((v * 256 : Nat) : Int) := by rw [IntKind.wrap_u64]; omega
            have q5 : IntKind.u64.wrap (cc : Int) = (cc : Int) := by rw [IntKind.wrap_u64]; omega
            obtain ⟨u, eu⟩ : ∃ u, u = v * 256 := ⟨_, rfl⟩
            rw [← eu] at q4
            have q6 : IntKind.u64.wrap ((u : Int) + (cc : Int)) = (z : Int) := by rw [IntKind.wrap_u64]; omega
            have hb := hS.hb a cc hc
            have hcell := hS.hw.cell (j := i) (x := v) (by rw [List.getElem?_set, if_pos rfl, upTo_length, if_pos (by omega)])
            have hf := hS.hw.frozen i
            have hss : (((upTo 32 m i).set i v).set i z) = (upTo 32 m i).set i (pv 4 bs i (j + 1)) := by rw [List.set_set, hnx]
            have HST := Lib.hid hss; clear hss
            have HS2 := Lib.hid hS; clear hS
            clear hv hp ha hal hc hcl hvl hnx ez eu
            go_wp2
            go_region
            all_goals (go_wp2; go_roundw)
            all_goals first
              | exact ⟨j + 1, by omega, by go_num, by rw [← HST.out]; exact (HS2.out.step i z).drew⟩
              | exact ⟨j + 1, by omega, by go_num, by rw [← HST.out]; exact HS2.out.drew.step i z⟩
              | (simp [intOf]; omega)
          · obtain rfl : j = 4 := by omega
            have hw : (upTo 32 m i).set i (pv 4 bs i 4) = upTo 32 m (i + 1) := by
              rw [← upTo_next, word_low _ _ _ h16, HM.out]; rfl
            rw [hw] at hS
            have HQ := Lib.hid hS; clear hS hw
            go_wp2
            go_roundw
            case rel => exact ⟨i + 1, by omega, by go_num, HQ.out⟩
            case measure => simp [intOf]; omega
      · obtain ⟨a, ea⟩ : ∃ a, a = i - 16 := ⟨_, rfl⟩
        obtain ⟨b, eb⟩ : ∃ b, b = i - 15 := ⟨_, rfl⟩
        obtain ⟨c, ec⟩ : ∃ c, c = i - 7 := ⟨_, rfl⟩
        obtain ⟨d, ed⟩ : ∃ d, d = i - 2 := ⟨_, rfl⟩
        have hwi := word_high 32 m i (by omega)
        rw [← ea, ← eb, ← ec, ← ed] at hwi
        have ga : (upTo 32 m i)[a]? = some (word 32 m a) := by rw [upTo_get _ _ _ _ (by omega), if_pos (by omega)]
        have gb' : (upTo 32 m i)[b]? = some (word 32 m b) := by rw [upTo_get _ _ _ _ (by omega), if_pos (by omega)]
        have gc : (upTo 32 m i)[c]? = some (word 32 m c) := by rw [upTo_get _ _ _ _ (by omega), if_pos (by omega)]
        have gd : (upTo 32 m i)[d]? = some (word 32 m d) := by rw [upTo_get _ _ _ _ (by omega), if_pos (by omega)]
        obtain ⟨A, eA⟩ : ∃ A, A = word 32 m a := ⟨_, rfl⟩
        obtain ⟨B, eB⟩ : ∃ B, B = word 32 m b := ⟨_, rfl⟩
        obtain ⟨C, eC⟩ : ∃ C, C = word 32 m c := ⟨_, rfl⟩
        obtain ⟨D, eD⟩ : ∃ D, D = word 32 m d := ⟨_, rfl⟩
        have lA : A < 4294967296 := by rw [eA]; exact HML.out a
        have lB : B < 4294967296 := by rw [eB]; exact HML.out b
        have lC : C < 4294967296 := by rw [eC]; exact HML.out c
        have lD : D < 4294967296 := by rw [eD]; exact HML.out d
        rw [← eA] at ga hwi
        rw [← eB] at gb' hwi
        rw [← eC] at gc hwi
        rw [← eD] at gd hwi
        obtain ⟨S0, eS0⟩ : ∃ S0, S0 = little 32 6 B := ⟨_, rfl⟩
        obtain ⟨S1, eS1⟩ : ∃ S1, S1 = little 32 9 D := ⟨_, rfl⟩
        rw [← eS0, ← eS1] at hwi
        have H6 := Lib.hid (show ∀ X, Calls Tryd.prog 39 #[.agg #[.int .i64 32, .int .i64 64, .int .u64 2, .int .u64 13, .int .u64 22, .int .u64 6, .int .u64 11, .int .u64 25, .int .u64 7, .int .u64 18, .int .u64 3, .int .u64 17, .int .u64 19, .int .u64 10], .int .u64 (B : Nat), .int .i64 6, .bool true] X fun e w' => e = .returned (.int .u64 (S0 : Nat)) ∧ Below X.heap.size X w' from fun X => by rw [eS0]; exact three6_32 B X lB)
        have H9 := Lib.hid (show ∀ X, Calls Tryd.prog 39 #[.agg #[.int .i64 32, .int .i64 64, .int .u64 2, .int .u64 13, .int .u64 22, .int .u64 6, .int .u64 11, .int .u64 25, .int .u64 7, .int .u64 18, .int .u64 3, .int .u64 17, .int .u64 19, .int .u64 10], .int .u64 (D : Nat), .int .i64 9, .bool true] X fun e w' => e = .returned (.int .u64 (S1 : Nat)) ∧ Below X.heap.size X w' from fun X => by rw [eS1]; exact three9_32 D X lD)
        obtain ⟨t1, et1⟩ : ∃ t, t = (A + S0) % 18446744073709551616 := ⟨_, rfl⟩
        obtain ⟨t2, et2⟩ : ∃ t, t = (t1 + C) % 18446744073709551616 := ⟨_, rfl⟩
        obtain ⟨t3, et3⟩ : ∃ t, t = (t2 + S1) % 18446744073709551616 := ⟨_, rfl⟩
        obtain ⟨t4, et4⟩ : ∃ t, t = t3 % 4294967296 := ⟨_, rfl⟩
        have KPp : t3 < 18446744073709551616 ∧ t4 = t3 % 4294967296 := ⟨by rw [et3]; exact Nat.mod_lt _ (by decide), et4⟩
        have KP := Lib.hid (show ∀ X, Calls Tryd.prog 38 #[.agg #[.int .i64 32, .int .i64 64, .int .u64 2, .int .u64 13, .int .u64 22, .int .u64 6, .int .u64 11, .int .u64 25, .int .u64 7, .int .u64 18, .int .u64 3, .int .u64 17, .int .u64 19, .int .u64 10], .int .u64 (t3 : Nat)] X fun e w' => e = .returned (.int .u64 (t4 : Nat)) ∧ Below X.heap.size X w' from fun X => keepR_32 t3 t4 X KPp.1 KPp.2)
        have s1 : IntKind.u64.wrap ((A : Int) + (S0 : Int)) = (t1 : Int) := by rw [IntKind.wrap_u64]; omega
        have s2 : IntKind.u64.wrap ((t1 : Int) + (C : Int)) = (t2 : Int) := by rw [IntKind.wrap_u64]; omega
        have s3 : IntKind.u64.wrap ((t2 : Int) + (S1 : Int)) = (t3 : Int) := by rw [IntKind.wrap_u64]; omega
        have hwt : word 32 m i = t4 := by rw [hwi, et4, et3, et2, et1, show (2 : Nat) ^ 32 = 4294967296 by decide]; omega
        have hst := upTo_next 32 m i
        rw [hwt] at hst
        have i1 : IntKind.i64.wrap ((i : Int) - 16) = (a : Int) := by rw [IntKind.wrap_i64]; omega
        have i2 : IntKind.i64.wrap ((i : Int) - 15) = (b : Int) := by rw [IntKind.wrap_i64]; omega
        have i3 : IntKind.i64.wrap ((i : Int) - 7) = (c : Int) := by rw [IntKind.wrap_i64]; omega
        have i4 : IntKind.i64.wrap ((i : Int) - 2) = (d : Int) := by rw [IntKind.wrap_i64]; omega
        have j1 : (a : Int) < 80 := by omega
        have j2 : (b : Int) < 80 := by omega
        have j3 : (c : Int) < 80 := by omega
        have j4 : (d : Int) < 80 := by omega
        have j5 : (i : Int) < 80 := by omega
        obtain ⟨l, el⟩ : ∃ l, l = upTo 32 m i := ⟨_, rfl⟩
        have hll : i < l.length := by rw [el, upTo_length]; omega
        have hne2 : a ≠ i ∧ b ≠ i ∧ c ≠ i ∧ d ≠ i := by omega
        rw [← el] at ga gb' gc gd hst hS
        have HR := Lib.hid (fun X (h : Ba32 w gb ob bs l s X) => h.look (i := i) ga gb' gc gd hll)
        have HR2 := Lib.hid (fun X v (h : Ba32 w gb ob bs l s X) => (h.step i v).look (i := i) (a := a) (b := b) (c := c) (d := d) (A := A) (B := B) (C := C) (D := D) (by rw [List.getElem?_set_ne (fun x => hne2.1 x.symm)]; exact ga) (by rw [List.getElem?_set_ne (fun x => hne2.2.1 x.symm)]; exact gb') (by rw [List.getElem?_set_ne (fun x => hne2.2.2.1 x.symm)]; exact gc) (by rw [List.getElem?_set_ne (fun x => hne2.2.2.2 x.symm)]; exact gd) (by rw [List.length_set]; exact hll))
        have HST := Lib.hid hst; clear hst
        clear hwt hwi et1 et2 et3 et4 KPp eS0 eS1 lA lB lC lD eA eB eC eD ga gb' gc gd hll hne2 ea eb ec ed el
        have hSd := hS.drew
        go_wp2
        go_region_held3 (fun X => X.cell? ⟨w.heap.size, 0, none⟩ = some (.int .i64 32) ∧ X.cell? ⟨w.heap.size, 1, none⟩ = some (.int .i64 64) ∧ X.cell? ⟨w.heap.size, 2, none⟩ = some (.int .u64 2) ∧ X.cell? ⟨w.heap.size, 3, none⟩ = some (.int .u64 13) ∧ X.cell? ⟨w.heap.size, 4, none⟩ = some (.int .u64 22) ∧ X.cell? ⟨w.heap.size, 5, none⟩ = some (.int .u64 6) ∧ X.cell? ⟨w.heap.size, 6, none⟩ = some (.int .u64 11) ∧ X.cell? ⟨w.heap.size, 7, none⟩ = some (.int .u64 25) ∧ X.cell? ⟨w.heap.size, 8, none⟩ = some (.int .u64 7) ∧ X.cell? ⟨w.heap.size, 9, none⟩ = some (.int .u64 18) ∧ X.cell? ⟨w.heap.size, 10, none⟩ = some (.int .u64 3) ∧ X.cell? ⟨w.heap.size, 11, none⟩ = some (.int .u64 17) ∧ X.cell? ⟨w.heap.size, 12, none⟩ = some (.int .u64 19) ∧ X.cell? ⟨w.heap.size, 13, none⟩ = some (.int .u64 10) ∧ X.cell? ⟨w.heap.size + 1 + 1 + 1, a, none⟩ = some (.int .u64 (A : Nat)) ∧ X.cell? ⟨w.heap.size + 1 + 1 + 1, b, none⟩ = some (.int .u64 (B : Nat)) ∧ X.cell? ⟨w.heap.size + 1 + 1 + 1, c, none⟩ = some (.int .u64 (C : Nat)) ∧ X.cell? ⟨w.heap.size + 1 + 1 + 1, d, none⟩ = some (.int .u64 (D : Nat)) ∧ X.cell? ⟨w.heap.size + 1 + 1 + 1, i, none⟩ = some (peek X ⟨w.heap.size + 1 + 1 + 1, i, none⟩) ∧ X.frozen? ⟨w.heap.size + 1 + 1 + 1, i, none⟩ = false) (first | (refine HR.out _ ?_; (with_reducible assumption)) | (refine HR2.out _ _ ?_; (with_reducible assumption)))
          (first | (go_at_call 39; with_reducible refine (H6.out _).mono ?_; rintro e' w' ⟨rfl, hbw⟩; have hbx' := Ba32.next (by with_reducible assumption) hbw) | (go_at_call 39; with_reducible refine (H9.out _).mono ?_; rintro e' w' ⟨rfl, hbw⟩; have hbx' := Ba32.next (by with_reducible assumption) hbw) | (go_at_call 38; with_reducible refine (KP.out _).mono ?_; rintro e' w' ⟨rfl, hbw⟩; have hbx' := Ba32.next (by with_reducible assumption) hbw))
        all_goals (go_wp2; go_roundw)
        all_goals first
          | (exact ⟨i + 1, by omega, by go_num, by rw [← HST.out]; exact Ba32.step (by with_reducible assumption) i t4⟩)
          | (refine ⟨_, _, _, _, _, _, _, _, _, _, _, _, _, _, _, _, _, _, _, _, _, _, _, _, _, _, _, _, _, _, _, _, _, _, _, _, _, _, ?_, rfl⟩; exact ⟨i + 1, by omega, by go_num, by rw [← HST.out]; exact Ba32.step (by with_reducible assumption) i t4⟩)
          | (simp [intOf]; omega)
    · obtain rfl : i = 64 := by omega
      obtain ⟨l, hl⟩ : ∃ l, l = upTo 32 m 64 := ⟨_, rfl⟩
      rw [← hl] at hS
      have HL := Lib.hid hl; clear hl
      have hz := zero80_64.1
      have hne := zeros_ne_64
      obtain ⟨X1, hX1⟩ : ∃ X, X = wr.alloc (.cells (valsK .u64 ks) 67) := ⟨_, rfl⟩
      have hb1 : Below wr.heap.size wr X1 := by rw [hX1]; exact (Below.refl _ _).alloc (Nat.le_refl _) _
      have hS1 := hS.next hb1
      have hlt1 : w.heap.size + 1 + 1 + 1 < X1.heap.size := (Array.getElem?_eq_some_iff.1 hS1.hw).1
      have st1 := storeNew X1 67 (valsK .u64 zeros80) (valsK .u64 ks) (by rw [ks_size]; exact zero80_64.2) (by rw [ks_size]; rfl) ks_one
      have hv1 : Wd .u64 49 (w.heap.size + 1) s.list (X1.alloc (.cells (valsK .u64 ks) 67)) := keepAlloc hS1.hh _
      have c0 := hv1.cell (j := 0) (x := s.a) rfl
      have c1 := hv1.cell (j := 1) (x := s.b) rfl
      have c2 := hv1.cell (j := 2) (x := s.c) rfl
      have c3 := hv1.cell (j := 3) (x := s.d) rfl
      have c4 := hv1.cell (j := 4) (x := s.e) rfl
      have c5 := hv1.cell (j := 5) (x := s.f) rfl
      have c6 := hv1.cell (j := 6) (x := s.g) rfl
      have c7 := hv1.cell (j := 7) (x := s.h) rfl
      have hR0 : Bb32 w X1.heap.size l s.list s.list ((X1.alloc (.cells (valsK .u64 ks) 67)).alloc (.cells #[.int .u64 (s.a : Nat), .int .u64 (s.b : Nat), .int .u64 (s.c : Nat), .int .u64 (s.d : Nat), .int .u64 (s.e : Nat), .int .u64 (s.f : Nat), .int .u64 (s.g : Nat), .int .u64 (s.h : Nat)] 49)) :=
        ⟨keepAlloc (keepAlloc hS1.hf _) _, keepAlloc (keepAlloc hS1.hh _) _, keepAlloc (keepAlloc hS1.hr _) _, keepAlloc (keepAlloc hS1.hw _) _, keepAlloc (heap_alloc_new X1 _) _,
         by have := heap_alloc_new (X1.alloc (.cells (valsK .u64 ks) 67)) (.cells (valsK .u64 s.list) 49); rw [alloc_size] at this; exact this,
         hlt1, below_alloc (below_alloc hS1.below _) _⟩
      have HR0 := Lib.hid hR0; clear hR0
      have HX1 := Lib.hid hX1
      clear hS1 hlt1 hv1 hb1 hX1 hS
      go_wp2_with fail
      refine (kRef _).mono ?_
      rintro e w1 ⟨rfl, hw1⟩
      rw [← HX1.out] at hw1
      subst hw1
      go_wp2_with fail
      clear c0 c1 c2 c3 c4 c5 c6 c7 st1 hz hne HX1 hpr hlt hi
      obtain ⟨Kb, hKb⟩ : ∃ Kb, Kb = w1.heap.size := ⟨_, rfl⟩
      rw [← hKb] at HR0 ⊢
      clear hKb
      refine refLoop3_32 HML HS HL ?_ HR0.out
      intro d13 d14 d15 d16 d17 d18 d19 d82 d83 d84 d85 d86 d87 d88 d89 d90 d91 d92 d93 d94 d95 d96 d97 d98 d99 d100 d101 d102 d103 d104 d105 d106 d107 d108 d109 d110 d111 d112 d113 d114 d115 d116 d117 d118 d119 d120 d121 d122 d123 d124 d125 d126 d127 d128 d129 d130 d131 d132 d133 d134 d135 d136 d137 d138 d139 d140 d141 d142 d143 d144 d145 d146 d147 d148 d149 d150 d151 d152 d153 d154 d155 d156 d157 d158 d159 d160 d161 d162 d163 d164 d165 d166 d167 d168 d169 d170 d171 d172 d173 d174 wr hR
      obtain ⟨v, hv⟩ : ∃ v, v = Sha.rounds 32 (kAt 32) m 64 s := ⟨_, rfl⟩
      rw [← hv] at hR
      have HV := Lib.hid hv; clear hv
      have HQ := Lib.hid (show Bb32 w Kb l (mixAt 32 s v 0) v.list wr from hR); clear hR
      go_wp2
      go_loopw [20] (fun x wr => ∃ j : Nat, j ≤ 8 ∧ x = .int .i64 (j : Nat) ∧ Bb32 w Kb l (mixAt 32 s v j) v.list wr) (fun x _ => 8 - (intOf x).toNat)
      case atStart => exact ⟨0, Nat.zero_le _, rfl, HQ.out⟩
      case round =>
        obtain ⟨j, hj, rfl, hR⟩ := hrel
        by_cases hlj : j < 8
        · obtain ⟨x, y, h1, h2, h3⟩ := mix_step 32 s v j hlj
          obtain ⟨z, hz⟩ : ∃ z, z = (x + y) % 2 ^ 32 := ⟨_, rfl⟩
          rw [← hz] at h3
          obtain ⟨t, ht⟩ : ∃ t, t = (x + y) % 18446744073709551616 := ⟨_, rfl⟩
          have s1 : IntKind.u64.wrap ((x : Int) + (y : Int)) = (t : Int) := by rw [IntKind.wrap_u64]; omega
          have KZp : t < 18446744073709551616 ∧ z = t % 4294967296 := ⟨by rw [ht]; exact Nat.mod_lt _ (by decide), by rw [hz, ht, show (2 : Nat) ^ 32 = 4294967296 by decide]; omega⟩
          have KZ := Lib.hid (show ∀ X, Calls Tryd.prog 38 #[.agg #[.int .i64 32, .int .i64 64, .int .u64 2, .int .u64 13, .int .u64 22, .int .u64 6, .int .u64 11, .int .u64 25, .int .u64 7, .int .u64 18, .int .u64 3, .int .u64 17, .int .u64 19, .int .u64 10], .int .u64 (t : Nat)] X fun e w' => e = .returned (.int .u64 (z : Nat)) ∧ Below X.heap.size X w' from fun X => keepR_32 t z X KZp.1 KZp.2)
          have j1 : (j : Int) < 8 := by omega
          have c1 := hR.hh.cell h1
          have c2 := hR.hv.cell h2
          have q0 : wr.cell? ⟨w.heap.size, 0, none⟩ = some (.int .i64 32) := hR.form 0
          have q1 : wr.cell? ⟨w.heap.size, 1, none⟩ = some (.int .i64 64) := hR.form 1
          have q2 : wr.cell? ⟨w.heap.size, 2, none⟩ = some (.int .u64 2) := hR.form 2
          have q3 : wr.cell? ⟨w.heap.size, 3, none⟩ = some (.int .u64 13) := hR.form 3
          have q4 : wr.cell? ⟨w.heap.size, 4, none⟩ = some (.int .u64 22) := hR.form 4
          have q5 : wr.cell? ⟨w.heap.size, 5, none⟩ = some (.int .u64 6) := hR.form 5
          have q6 : wr.cell? ⟨w.heap.size, 6, none⟩ = some (.int .u64 11) := hR.form 6
          have q7 : wr.cell? ⟨w.heap.size, 7, none⟩ = some (.int .u64 25) := hR.form 7
          have q8 : wr.cell? ⟨w.heap.size, 8, none⟩ = some (.int .u64 7) := hR.form 8
          have q9 : wr.cell? ⟨w.heap.size, 9, none⟩ = some (.int .u64 18) := hR.form 9
          have q10 : wr.cell? ⟨w.heap.size, 10, none⟩ = some (.int .u64 3) := hR.form 10
          have q11 : wr.cell? ⟨w.heap.size, 11, none⟩ = some (.int .u64 17) := hR.form 11
          have q12 : wr.cell? ⟨w.heap.size, 12, none⟩ = some (.int .u64 19) := hR.form 12
          have q13 : wr.cell? ⟨w.heap.size, 13, none⟩ = some (.int .u64 10) := hR.form 13
          have H1 := Lib.hid h1; clear h1
          have H3 := Lib.hid h3; clear h3 hz h2 ht KZp
          have RR := Lib.hid hR; clear hR
          go_wp2
          go_region_with (go_at_call 38; with_reducible refine (KZ.out _).mono ?_; rintro e' w' ⟨rfl, hbw⟩; have hR' := Bb32.next RR.out.drew hbw; have c4 := hR'.hh.cell H1.out; have c5 := hR'.hh.frozen j; have HR' := Lib.hid hR'; clear hR' hbw)
          all_goals (go_wp2; go_roundw)
          all_goals first
            | exact ⟨j + 1, by omega, by go_num, by rw [← H3.out]; exact HR'.out.stepH j z⟩
            | (refine ⟨_, _, _, _, _, _, _, _, _, _, _, _, _, _, _, _, ?_, rfl⟩; exact ⟨j + 1, by omega, by go_num, by rw [← H3.out]; exact HR'.out.stepH j z⟩)
            | exact ⟨j + 1, by omega, by go_num, by rw [← H3.out]; exact (HR'.out.stepH j z).drew⟩
            | (simp [intOf]; omega)
        · obtain rfl : j = 8 := by omega
          obtain ⟨t, ht⟩ : ∃ t, t = s.add 32 v := ⟨_, rfl⟩
          have hm8 : mixAt 32 s v 8 = t.list := by rw [ht]; rfl
          rw [hm8] at hR
          have HT := Lib.hid ht; clear ht hm8
          have v0 := hR.hh.cell (j := 0) (x := t.a) rfl
          have y0 := hR.hr.cell (j := 0) (x := 0) rfl
          have z0 := hR.hr.frozen 0
          have v1 := hR.hh.cell (j := 1) (x := t.b) rfl
          have y1 := hR.hr.cell (j := 1) (x := 0) rfl
          have z1 := hR.hr.frozen 1
          have v2 := hR.hh.cell (j := 2) (x := t.c) rfl
          have y2 := hR.hr.cell (j := 2) (x := 0) rfl
          have z2 := hR.hr.frozen 2
          have v3 := hR.hh.cell (j := 3) (x := t.d) rfl
          have y3 := hR.hr.cell (j := 3) (x := 0) rfl
          have z3 := hR.hr.frozen 3
          have v4 := hR.hh.cell (j := 4) (x := t.e) rfl
          have y4 := hR.hr.cell (j := 4) (x := 0) rfl
          have z4 := hR.hr.frozen 4
          have v5 := hR.hh.cell (j := 5) (x := t.f) rfl
          have y5 := hR.hr.cell (j := 5) (x := 0) rfl
          have z5 := hR.hr.frozen 5
          have v6 := hR.hh.cell (j := 6) (x := t.g) rfl
          have y6 := hR.hr.cell (j := 6) (x := 0) rfl
          have z6 := hR.hr.frozen 6
          have v7 := hR.hh.cell (j := 7) (x := t.h) rfl
          have y7 := hR.hr.cell (j := 7) (x := 0) rfl
          have z7 := hR.hr.frozen 7
          have RR := Lib.hid hR; clear hR
          go_wp2
          refine bodyPost_ret (results_cell_row rfl _ _ (w.heap.size + 1 + 1) 49 (valsK .u64 t.list) (0, 0) _ rfl (put8_same_64 t RR.out.hr) Tryd.underlying49 rfl row8_size_64) rfl ⟨?_, put8_below_64 t RR.out.below (by omega)⟩
          rw [HT.out, HV.out, HM.out]
          rfl

theorem Ba64.start (w : World) (gb ob : Nat) (bs : List Nat) (s : St) (hb : Bs gb ob bs w) (hg : gb < w.heap.size) :
    Ba64 w gb ob bs zeros80 s ((((w.alloc (.cells #[.int .i64 64, .int .i64 80, .int .u64 28, .int .u64 34, .int .u64 39, .int .u64 14, .int .u64 18, .int .u64 41, .int .u64 1, .int .u64 8, .int .u64 7, .int .u64 19, .int .u64 61, .int .u64 6] 47)).alloc (.cells (valsK .u64 s.list) 49)).alloc (.cells #[.int .u64 0, .int .u64 0, .int .u64 0, .int .u64 0, .int .u64 0, .int .u64 0, .int .u64 0, .int .u64 0] 49)).alloc (.cells (valsK .u64 zeros80) 67)) where
  hf := keepAlloc (keepAlloc (keepAlloc (heap_alloc_new w _) _) _) _
  hh := by
    have := keepAlloc (keepAlloc (heap_alloc_new (w.alloc (.cells #[.int .i64 64, .int .i64 80, .int .u64 28, .int .u64 34, .int .u64 39, .int .u64 14, .int .u64 18, .int .u64 41, .int .u64 1, .int .u64 8, .int .u64 7, .int .u64 19, .int .u64 61, .int .u64 6] 47)) (.cells (valsK .u64 s.list) 49)) (.cells #[.int .u64 0, .int .u64 0, .int .u64 0, .int .u64 0, .int .u64 0, .int .u64 0, .int .u64 0, .int .u64 0] 49)) (.cells (valsK .u64 zeros80) 67)
    rwa [alloc_size] at this
  hr := by
    have := keepAlloc (heap_alloc_new ((w.alloc (.cells #[.int .i64 64, .int .i64 80, .int .u64 28, .int .u64 34, .int .u64 39, .int .u64 14, .int .u64 18, .int .u64 41, .int .u64 1, .int .u64 8, .int .u64 7, .int .u64 19, .int .u64 61, .int .u64 6] 47)).alloc (.cells (valsK .u64 s.list) 49)) (.cells #[.int .u64 0, .int .u64 0, .int .u64 0, .int .u64 0, .int .u64 0, .int .u64 0, .int .u64 0, .int .u64 0] 49)) (.cells (valsK .u64 zeros80) 67)
    rwa [alloc_size, alloc_size] at this
  hw := by
    have := heap_alloc_new (((w.alloc (.cells #[.int .i64 64, .int .i64 80, .int .u64 28, .int .u64 34, .int .u64 39, .int .u64 14, .int .u64 18, .int .u64 41, .int .u64 1, .int .u64 8, .int .u64 7, .int .u64 19, .int .u64 61, .int .u64 6] 47)).alloc (.cells (valsK .u64 s.list) 49)).alloc (.cells #[.int .u64 0, .int .u64 0, .int .u64 0, .int .u64 0, .int .u64 0, .int .u64 0, .int .u64 0, .int .u64 0] 49)) (.cells (valsK .u64 zeros80) 67)
    rwa [alloc_size, alloc_size, alloc_size] at this
  hb := (((hb.of (heap_alloc_old _ _ hg)).of (heap_alloc_old _ _ (by rw [alloc_size]; omega))).of (heap_alloc_old _ _ (by rw [alloc_size, alloc_size]; omega))).of (heap_alloc_old _ _ (by rw [alloc_size, alloc_size, alloc_size]; omega))
  lt := hg
  below := below_alloc (below_alloc (below_alloc ((Below.refl _ _).alloc (Nat.le_refl _) _) _) _) _

set_option maxRecDepth 10000 in
set_option maxHeartbeats 8000000 in
theorem refBlock_64 (s : St) (gb ob cap : Nat) (bs : List Nat) (w : World) (hs : s.Small 64) (hbl : bs.length = 128) (hbs : ∀ c ∈ bs, c < 256) (hB : Bs gb ob bs w) (hg : gb < w.heap.size) :
    Calls Tryd.prog 25 #[.agg form64, .agg (valsK .u64 s.list), .slice (some ⟨gb, ob, none⟩) 128 cap] w fun e w' =>
      e = .returned (.agg (valsK .u64 (Sha.block 64 (kAt 64) s bs).list)) ∧ Below w.heap.size w w' := by
  have HSt := Lib.hid (Ba64.start w gb ob bs s hB hg); clear hB hg
  obtain ⟨m, hm⟩ : ∃ m, m = wordsOf 64 bs := ⟨_, rfl⟩
  have hml : ∀ j < 16, m j < 2 ^ 64 := by
    intro j _
    rw [hm]
    refine Nat.lt_of_lt_of_le (beVal_lt _ fun c hc => hbs c (List.mem_of_mem_drop (List.mem_of_mem_take hc))) ?_
    rw [show (2 : Nat) ^ 64 = 256 ^ (64 / 8) by decide]
    exact Nat.pow_le_pow_right (by decide) (by rw [List.length_take]; omega)
  have HML := Lib.hid (fun i => word_lt hml i); clear hml
  have HM := Lib.hid hm; clear hm
  have HS := Lib.hid hs; clear hs
  have HBL := Lib.hid hbl; clear hbl
  have HBS := Lib.hid hbs; clear hbs
  have hz := zero80_64.1
  have hne := zeros_ne_64
  unfold form64
  go_enter Tryd.func25, Tryd.ntmps25
  go_wp2_with fail
  clear hz hne
  go_loopw [9] (fun x wr => ∃ i : Nat, i ≤ 80 ∧ x = .int .i64 (i : Nat) ∧ Ba64 w gb ob bs (upTo 64 m i) s wr) (fun x _ => 80 - (intOf x).toNat)
  case atStart => exact ⟨0, Nat.zero_le _, rfl, by rw [upTo_zero]; exact HSt.out⟩
  case round =>
    obtain ⟨i, hi, rfl, hS⟩ := hrel
    have hpr : wr.cell? ⟨w.heap.size, 1, none⟩ = some (.int .i64 80) := hS.form 1
    by_cases hlt : i < 80
    · by_cases h16 : i < 16
      · have HQ := Lib.hid (show Ba64 w gb ob bs ((upTo 64 m i).set i (pv 8 bs i 0)) s wr by rw [pv_zero, upTo_set0 _ _ _ (by omega)]; exact hS); clear hS
        go_wp2
        go_loopw [10] (fun y wr => ∃ j : Nat, j ≤ 8 ∧ y = .int .i64 (j : Nat) ∧ Ba64 w gb ob bs ((upTo 64 m i).set i (pv 8 bs i j)) s wr) (fun y _ => 8 - (intOf y).toNat)
        case atStart => exact ⟨0, Nat.zero_le _, rfl, HQ.out⟩
        case round =>
          obtain ⟨j, hj, rfl, hS⟩ := hrel
          by_cases hlj : j < 8
          · obtain ⟨v, hv⟩ : ∃ v, v = pv 8 bs i j := ⟨_, rfl⟩
            obtain ⟨p, hp⟩ : ∃ p, p = 8 * i := ⟨_, rfl⟩
            obtain ⟨a, ha⟩ : ∃ a, a = p + j := ⟨_, rfl⟩
            have hal : a < bs.length := by have := HBL.out; omega
            obtain ⟨cc, hc⟩ : ∃ cc, bs[a]? = some cc := ⟨_, List.getElem?_eq_getElem hal⟩
            have hcl : cc < 256 := HBS.out cc (List.mem_of_getElem? hc)
            have hvl : v < 72057594037927936 := by rw [hv]; exact pv_lt HBS.out i j (by omega)
            have hnx := pv_next (s := 8) (b := bs) (i := i) (j := j) (c := cc) (by rw [← hp, ← ha]; exact hc)
            rw [← hv] at hnx hS
            obtain ⟨z, ez⟩ : ∃ z, z = v * 256 + cc := ⟨_, rfl⟩
            rw [← ez] at hnx
            have q0 : IntKind.i64.wrap (8 * (i : Int)) = (p : Int) := by rw [IntKind.wrap_i64]; omega
            have q1 : IntKind.i64.wrap ((p : Int) + (j : Int)) = (a : Int) := by rw [IntKind.wrap_i64]; omega
            have q2 : (a : Int) < 128 := by have := HBL.out; omega
            have q3 : (i : Int) < 80 := by omega
            have q4 : IntKind.u64.wrap ((v : Int) * 256) = ((v * 256 : Nat) : Int) := by rw [IntKind.wrap_u64]; omega
            have q5 : IntKind.u64.wrap (cc : Int) = (cc : Int) := by rw [IntKind.wrap_u64]; omega
            obtain ⟨u, eu⟩ : ∃ u, u = v * 256 := ⟨_, rfl⟩
            rw [← eu] at q4
            have q6 : IntKind.u64.wrap ((u : Int) + (cc : Int)) = (z : Int) := by rw [IntKind.wrap_u64]; omega
            have hb := hS.hb a cc hc
            have hcell := hS.hw.cell (j := i) (x := v) (by rw [List.getElem?_set, if_pos rfl, upTo_length, if_pos (by omega)])
            have hf := hS.hw.frozen i
            have hss : (((upTo 64 m i).set i v).set i z) = (upTo 64 m i).set i (pv 8 bs i (j + 1)) := by rw [List.set_set, hnx]
            have HST := Lib.hid hss; clear hss
            have HS2 := Lib.hid hS; clear hS
            clear hv hp ha hal hc hcl hvl hnx ez eu
            go_wp2
            go_region
            all_goals (go_wp2; go_roundw)
            all_goals first
              | exact ⟨j + 1, by omega, by go_num, by rw [← HST.out]; exact (HS2.out.step i z).drew⟩
              | exact ⟨j + 1, by omega, by go_num, by rw [← HST.out]; exact HS2.out.drew.step i z⟩
              | (simp [intOf]; omega)
          · obtain rfl : j = 8 := by omega
            have hw : (upTo 64 m i).set i (pv 8 bs i 8) = upTo 64 m (i + 1) := by
              rw [← upTo_next, word_low _ _ _ h16, HM.out]; rfl
            rw [hw] at hS
            have HQ := Lib.hid hS; clear hS hw
            go_wp2
            go_roundw
            case rel => exact ⟨i + 1, by omega, by go_num, HQ.out⟩
            case measure => simp [intOf]; omega
      · obtain ⟨a, ea⟩ : ∃ a, a = i - 16 := ⟨_, rfl⟩
        obtain ⟨b, eb⟩ : ∃ b, b = i - 15 := ⟨_, rfl⟩
        obtain ⟨c, ec⟩ : ∃ c, c = i - 7 := ⟨_, rfl⟩
        obtain ⟨d, ed⟩ : ∃ d, d = i - 2 := ⟨_, rfl⟩
        have hwi := word_high 64 m i (by omega)
        rw [← ea, ← eb, ← ec, ← ed] at hwi
        have ga : (upTo 64 m i)[a]? = some (word 64 m a) := by rw [upTo_get _ _ _ _ (by omega), if_pos (by omega)]
        have gb' : (upTo 64 m i)[b]? = some (word 64 m b) := by rw [upTo_get _ _ _ _ (by omega), if_pos (by omega)]
        have gc : (upTo 64 m i)[c]? = some (word 64 m c) := by rw [upTo_get _ _ _ _ (by omega), if_pos (by omega)]
        have gd : (upTo 64 m i)[d]? = some (word 64 m d) := by rw [upTo_get _ _ _ _ (by omega), if_pos (by omega)]
        obtain ⟨A, eA⟩ : ∃ A, A = word 64 m a := ⟨_, rfl⟩
        obtain ⟨B, eB⟩ : ∃ B, B = word 64 m b := ⟨_, rfl⟩
        obtain ⟨C, eC⟩ : ∃ C, C = word 64 m c := ⟨_, rfl⟩
        obtain ⟨D, eD⟩ : ∃ D, D = word 64 m d := ⟨_, rfl⟩
        have lA : A < 18446744073709551616 := by rw [eA]; exact HML.out a
        have lB : B < 18446744073709551616 := by rw [eB]; exact HML.out b
        have lC : C < 18446744073709551616 := by rw [eC]; exact HML.out c
        have lD : D < 18446744073709551616 := by rw [eD]; exact HML.out d
        rw [← eA] at ga hwi
        rw [← eB] at gb' hwi
        rw [← eC] at gc hwi
        rw [← eD] at gd hwi
        obtain ⟨S0, eS0⟩ : ∃ S0, S0 = little 64 6 B := ⟨_, rfl⟩
        obtain ⟨S1, eS1⟩ : ∃ S1, S1 = little 64 9 D := ⟨_, rfl⟩
        rw [← eS0, ← eS1] at hwi
        have H6 := Lib.hid (show ∀ X, Calls Tryd.prog 39 #[.agg #[.int .i64 64, .int .i64 80, .int .u64 28, .int .u64 34, .int .u64 39, .int .u64 14, .int .u64 18, .int .u64 41, .int .u64 1, .int .u64 8, .int .u64 7, .int .u64 19, .int .u64 61, .int .u64 6], .int .u64 (B : Nat), .int .i64 6, .bool true] X fun e w' => e = .returned (.int .u64 (S0 : Nat)) ∧ Below X.heap.size X w' from fun X => by rw [eS0]; exact three6_64 B X lB)
        have H9 := Lib.hid (show ∀ X, Calls Tryd.prog 39 #[.agg #[.int .i64 64, .int .i64 80, .int .u64 28, .int .u64 34, .int .u64 39, .int .u64 14, .int .u64 18, .int .u64 41, .int .u64 1, .int .u64 8, .int .u64 7, .int .u64 19, .int .u64 61, .int .u64 6], .int .u64 (D : Nat), .int .i64 9, .bool true] X fun e w' => e = .returned (.int .u64 (S1 : Nat)) ∧ Below X.heap.size X w' from fun X => by rw [eS1]; exact three9_64 D X lD)
        obtain ⟨t1, et1⟩ : ∃ t, t = (A + S0) % 18446744073709551616 := ⟨_, rfl⟩
        obtain ⟨t2, et2⟩ : ∃ t, t = (t1 + C) % 18446744073709551616 := ⟨_, rfl⟩
        obtain ⟨t3, et3⟩ : ∃ t, t = (t2 + S1) % 18446744073709551616 := ⟨_, rfl⟩
        obtain ⟨t4, et4⟩ : ∃ t, t = t3 % 18446744073709551616 := ⟨_, rfl⟩
        have KPp : t3 < 18446744073709551616 ∧ t4 = t3 % 18446744073709551616 := ⟨by rw [et3]; exact Nat.mod_lt _ (by decide), et4⟩
        have KP := Lib.hid (show ∀ X, Calls Tryd.prog 38 #[.agg #[.int .i64 64, .int .i64 80, .int .u64 28, .int .u64 34, .int .u64 39, .int .u64 14, .int .u64 18, .int .u64 41, .int .u64 1, .int .u64 8, .int .u64 7, .int .u64 19, .int .u64 61, .int .u64 6], .int .u64 (t3 : Nat)] X fun e w' => e = .returned (.int .u64 (t4 : Nat)) ∧ Below X.heap.size X w' from fun X => keepR_64 t3 t4 X KPp.1 KPp.2)
        have s1 : IntKind.u64.wrap ((A : Int) + (S0 : Int)) = (t1 : Int) := by rw [IntKind.wrap_u64]; omega
        have s2 : IntKind.u64.wrap ((t1 : Int) + (C : Int)) = (t2 : Int) := by rw [IntKind.wrap_u64]; omega
        have s3 : IntKind.u64.wrap ((t2 : Int) + (S1 : Int)) = (t3 : Int) := by rw [IntKind.wrap_u64]; omega
        have hwt : word 64 m i = t4 := by rw [hwi, et4, et3, et2, et1, show (2 : Nat) ^ 64 = 18446744073709551616 by decide]; omega
        have hst := upTo_next 64 m i
        rw [hwt] at hst
        have i1 : IntKind.i64.wrap ((i : Int) - 16) = (a : Int) := by rw [IntKind.wrap_i64]; omega
        have i2 : IntKind.i64.wrap ((i : Int) - 15) = (b : Int) := by rw [IntKind.wrap_i64]; omega
        have i3 : IntKind.i64.wrap ((i : Int) - 7) = (c : Int) := by rw [IntKind.wrap_i64]; omega
        have i4 : IntKind.i64.wrap ((i : Int) - 2) = (d : Int) := by rw [IntKind.wrap_i64]; omega
        have j1 : (a : Int) < 80 := by omega
        have j2 : (b : Int) < 80 := by omega
        have j3 : (c : Int) < 80 := by omega
        have j4 : (d : Int) < 80 := by omega
        have j5 : (i : Int) < 80 := by omega
        obtain ⟨l, el⟩ : ∃ l, l = upTo 64 m i := ⟨_, rfl⟩
        have hll : i < l.length := by rw [el, upTo_length]; omega
        have hne2 : a ≠ i ∧ b ≠ i ∧ c ≠ i ∧ d ≠ i := by omega
        rw [← el] at ga gb' gc gd hst hS
        have HR := Lib.hid (fun X (h : Ba64 w gb ob bs l s X) => h.look (i := i) ga gb' gc gd hll)
        have HR2 := Lib.hid (fun X v (h : Ba64 w gb ob bs l s X) => (h.step i v).look (i := i) (a := a) (b := b) (c := c) (d := d) (A := A) (B := B) (C := C) (D := D) (by rw [List.getElem?_set_ne (fun x => hne2.1 x.symm)]; exact ga) (by rw [List.getElem?_set_ne (fun x => hne2.2.1 x.symm)]; exact gb') (by rw [List.getElem?_set_ne (fun x => hne2.2.2.1 x.symm)]; exact gc) (by rw [List.getElem?_set_ne (fun x => hne2.2.2.2 x.symm)]; exact gd) (by rw [List.length_set]; exact hll))
        have HST := Lib.hid hst; clear hst
        clear hwt hwi et1 et2 et3 et4 KPp eS0 eS1 lA lB lC lD eA eB eC eD ga gb' gc gd hll hne2 ea eb ec ed el
        have hSd := hS.drew
        go_wp2
        go_region_held3 (fun X => X.cell? ⟨w.heap.size, 0, none⟩ = some (.int .i64 64) ∧ X.cell? ⟨w.heap.size, 1, none⟩ = some (.int .i64 80) ∧ X.cell? ⟨w.heap.size, 2, none⟩ = some (.int .u64 28) ∧ X.cell? ⟨w.heap.size, 3, none⟩ = some (.int .u64 34) ∧ X.cell? ⟨w.heap.size, 4, none⟩ = some (.int .u64 39) ∧ X.cell? ⟨w.heap.size, 5, none⟩ = some (.int .u64 14) ∧ X.cell? ⟨w.heap.size, 6, none⟩ = some (.int .u64 18) ∧ X.cell? ⟨w.heap.size, 7, none⟩ = some (.int .u64 41) ∧ X.cell? ⟨w.heap.size, 8, none⟩ = some (.int .u64 1) ∧ X.cell? ⟨w.heap.size, 9, none⟩ = some (.int .u64 8) ∧ X.cell? ⟨w.heap.size, 10, none⟩ = some (.int .u64 7) ∧ X.cell? ⟨w.heap.size, 11, none⟩ = some (.int .u64 19) ∧ X.cell? ⟨w.heap.size, 12, none⟩ = some (.int .u64 61) ∧ X.cell? ⟨w.heap.size, 13, none⟩ = some (.int .u64 6) ∧ X.cell? ⟨w.heap.size + 1 + 1 + 1, a, none⟩ = some (.int .u64 (A : Nat)) ∧ X.cell? ⟨w.heap.size + 1 + 1 + 1, b, none⟩ = some (.int .u64 (B : Nat)) ∧ X.cell? ⟨w.heap.size + 1 + 1 + 1, c, none⟩ = some (.int .u64 (C : Nat)) ∧ X.cell? ⟨w.heap.size + 1 + 1 + 1, d, none⟩ = some (.int .u64 (D : Nat)) ∧ X.cell? ⟨w.heap.size + 1 + 1 + 1, i, none⟩ = some (peek X ⟨w.heap.size + 1 + 1 + 1, i, none⟩) ∧ X.frozen? ⟨w.heap.size + 1 + 1 + 1, i, none⟩ = false) (first | (refine HR.out _ ?_; (with_reducible assumption)) | (refine HR2.out _ _ ?_; (with_reducible assumption)))
          (first | (go_at_call 39; with_reducible refine (H6.out _).mono ?_; rintro e' w' ⟨rfl, hbw⟩; have hbx' := Ba64.next (by with_reducible assumption) hbw) | (go_at_call 39; with_reducible refine (H9.out _).mono ?_; rintro e' w' ⟨rfl, hbw⟩; have hbx' := Ba64.next (by with_reducible assumption) hbw) | (go_at_call 38; with_reducible refine (KP.out _).mono ?_; rintro e' w' ⟨rfl, hbw⟩; have hbx' := Ba64.next (by with_reducible assumption) hbw))
        all_goals (go_wp2; go_roundw)
        all_goals first
          | (exact ⟨i + 1, by omega, by go_num, by rw [← HST.out]; exact Ba64.step (by with_reducible assumption) i t4⟩)
          | (refine ⟨_, _, _, _, _, _, _, _, _, _, _, _, _, _, _, _, _, _, _, _, _, _, _, _, _, _, _, _, _, _, _, _, _, _, _, _, _, _, ?_, rfl⟩; exact ⟨i + 1, by omega, by go_num, by rw [← HST.out]; exact Ba64.step (by with_reducible assumption) i t4⟩)
          | (simp [intOf]; omega)
    · obtain rfl : i = 80 := by omega
      obtain ⟨l, hl⟩ : ∃ l, l = upTo 64 m 80 := ⟨_, rfl⟩
      rw [← hl] at hS
      have HL := Lib.hid hl; clear hl
      have hz := zero80_64.1
      have hne := zeros_ne_64
      obtain ⟨X1, hX1⟩ : ∃ X, X = wr.alloc (.cells (valsK .u64 ks) 67) := ⟨_, rfl⟩
      have hb1 : Below wr.heap.size wr X1 := by rw [hX1]; exact (Below.refl _ _).alloc (Nat.le_refl _) _
      have hS1 := hS.next hb1
      have hlt1 : w.heap.size + 1 + 1 + 1 < X1.heap.size := (Array.getElem?_eq_some_iff.1 hS1.hw).1
      have st1 := storeNew X1 67 (valsK .u64 zeros80) (valsK .u64 ks) (by rw [ks_size]; exact zero80_64.2) (by rw [ks_size]; rfl) ks_one
      have hv1 : Wd .u64 49 (w.heap.size + 1) s.list (X1.alloc (.cells (valsK .u64 ks) 67)) := keepAlloc hS1.hh _
      have c0 := hv1.cell (j := 0) (x := s.a) rfl
      have c1 := hv1.cell (j := 1) (x := s.b) rfl
      have c2 := hv1.cell (j := 2) (x := s.c) rfl
      have c3 := hv1.cell (j := 3) (x := s.d) rfl
      have c4 := hv1.cell (j := 4) (x := s.e) rfl
      have c5 := hv1.cell (j := 5) (x := s.f) rfl
      have c6 := hv1.cell (j := 6) (x := s.g) rfl
      have c7 := hv1.cell (j := 7) (x := s.h) rfl
      have hR0 : Bb64 w X1.heap.size l s.list s.list ((X1.alloc (.cells (valsK .u64 ks) 67)).alloc (.cells #[.int .u64 (s.a : Nat), .int .u64 (s.b : Nat), .int .u64 (s.c : Nat), .int .u64 (s.d : Nat), .int .u64 (s.e : Nat), .int .u64 (s.f : Nat), .int .u64 (s.g : Nat), .int .u64 (s.h : Nat)] 49)) :=
        ⟨keepAlloc (keepAlloc hS1.hf _) _, keepAlloc (keepAlloc hS1.hh _) _, keepAlloc (keepAlloc hS1.hr _) _, keepAlloc (keepAlloc hS1.hw _) _, keepAlloc (heap_alloc_new X1 _) _,
         by have := heap_alloc_new (X1.alloc (.cells (valsK .u64 ks) 67)) (.cells (valsK .u64 s.list) 49); rw [alloc_size] at this; exact this,
         hlt1, below_alloc (below_alloc hS1.below _) _⟩
      have HR0 := Lib.hid hR0; clear hR0
      have HX1 := Lib.hid hX1
      clear hS1 hlt1 hv1 hb1 hX1 hS
      go_wp2_with fail
      refine (kRef _).mono ?_
      rintro e w1 ⟨rfl, hw1⟩
      rw [← HX1.out] at hw1
      subst hw1
      go_wp2_with fail
      clear c0 c1 c2 c3 c4 c5 c6 c7 st1 hz hne HX1 hpr hlt hi
      obtain ⟨Kb, hKb⟩ : ∃ Kb, Kb = w1.heap.size := ⟨_, rfl⟩
      rw [← hKb] at HR0 ⊢
      clear hKb
      refine refLoop3_64 HML HS HL ?_ HR0.out
      intro d13 d14 d15 d16 d17 d18 d19 d82 d83 d84 d85 d86 d87 d88 d89 d90 d91 d92 d93 d94 d95 d96 d97 d98 d99 d100 d101 d102 d103 d104 d105 d106 d107 d108 d109 d110 d111 d112 d113 d114 d115 d116 d117 d118 d119 d120 d121 d122 d123 d124 d125 d126 d127 d128 d129 d130 d131 d132 d133 d134 d135 d136 d137 d138 d139 d140 d141 d142 d143 d144 d145 d146 d147 d148 d149 d150 d151 d152 d153 d154 d155 d156 d157 d158 d159 d160 d161 d162 d163 d164 d165 d166 d167 d168 d169 d170 d171 d172 d173 d174 wr hR
      obtain ⟨v, hv⟩ : ∃ v, v = Sha.rounds 64 (kAt 64) m 80 s := ⟨_, rfl⟩
      rw [← hv] at hR
      have HV := Lib.hid hv; clear hv
      have HQ := Lib.hid (show Bb64 w Kb l (mixAt 64 s v 0) v.list wr from hR); clear hR
      go_wp2
      go_loopw [20] (fun x wr => ∃ j : Nat, j ≤ 8 ∧ x = .int .i64 (j : Nat) ∧ Bb64 w Kb l (mixAt 64 s v j) v.list wr) (fun x _ => 8 - (intOf x).toNat)
      case atStart => exact ⟨0, Nat.zero_le _, rfl, HQ.out⟩
      case round =>
        obtain ⟨j, hj, rfl, hR⟩ := hrel
        by_cases hlj : j < 8
        · obtain ⟨x, y, h1, h2, h3⟩ := mix_step 64 s v j hlj
          obtain ⟨z, hz⟩ : ∃ z, z = (x + y) % 2 ^ 64 := ⟨_, rfl⟩
          rw [← hz] at h3
          obtain ⟨t, ht⟩ : ∃ t, t = (x + y) % 18446744073709551616 := ⟨_, rfl⟩
          have s1 : IntKind.u64.wrap ((x : Int) + (y : Int)) = (t : Int) := by rw [IntKind.wrap_u64]; omega
          have KZp : t < 18446744073709551616 ∧ z = t % 18446744073709551616 := ⟨by rw [ht]; exact Nat.mod_lt _ (by decide), by rw [hz, ht, show (2 : Nat) ^ 64 = 18446744073709551616 by decide]; omega⟩
          have KZ := Lib.hid (show ∀ X, Calls Tryd.prog 38 #[.agg #[.int .i64 64, .int .i64 80, .int .u64 28, .int .u64 34, .int .u64 39, .int .u64 14, .int .u64 18, .int .u64 41, .int .u64 1, .int .u64 8, .int .u64 7, .int .u64 19, .int .u64 61, .int .u64 6], .int .u64 (t : Nat)] X fun e w' => e = .returned (.int .u64 (z : Nat)) ∧ Below X.heap.size X w' from fun X => keepR_64 t z X KZp.1 KZp.2)
          have j1 : (j : Int) < 8 := by omega
          have c1 := hR.hh.cell h1
          have c2 := hR.hv.cell h2
          have q0 : wr.cell? ⟨w.heap.size, 0, none⟩ = some (.int .i64 64) := hR.form 0
          have q1 : wr.cell? ⟨w.heap.size, 1, none⟩ = some (.int .i64 80) := hR.form 1
          have q2 : wr.cell? ⟨w.heap.size, 2, none⟩ = some (.int .u64 28) := hR.form 2
          have q3 : wr.cell? ⟨w.heap.size, 3, none⟩ = some (.int .u64 34) := hR.form 3
          have q4 : wr.cell? ⟨w.heap.size, 4, none⟩ = some (.int .u64 39) := hR.form 4
          have q5 : wr.cell? ⟨w.heap.size, 5, none⟩ = some (.int .u64 14) := hR.form 5
          have q6 : wr.cell? ⟨w.heap.size, 6, none⟩ = some (.int .u64 18) := hR.form 6
          have q7 : wr.cell? ⟨w.heap.size, 7, none⟩ = some (.int .u64 41) := hR.form 7
          have q8 : wr.cell? ⟨w.heap.size, 8, none⟩ = some (.int .u64 1) := hR.form 8
          have q9 : wr.cell? ⟨w.heap.size, 9, none⟩ = some (.int .u64 8) := hR.form 9
          have q10 : wr.cell? ⟨w.heap.size, 10, none⟩ = some (.int .u64 7) := hR.form 10
          have q11 : wr.cell? ⟨w.heap.size, 11, none⟩ = some (.int .u64 19) := hR.form 11
          have q12 : wr.cell? ⟨w.heap.size, 12, none⟩ = some (.int .u64 61) := hR.form 12
          have q13 : wr.cell? ⟨w.heap.size, 13, none⟩ = some (.int .u64 6) := hR.form 13
          have H1 := Lib.hid h1; clear h1
          have H3 := Lib.hid h3; clear h3 hz h2 ht KZp
          have RR := Lib.hid hR; clear hR
          go_wp2
          go_region_with (go_at_call 38; with_reducible refine (KZ.out _).mono ?_; rintro e' w' ⟨rfl, hbw⟩; have hR' := Bb64.next RR.out.drew hbw; have c4 := hR'.hh.cell H1.out; have c5 := hR'.hh.frozen j; have HR' := Lib.hid hR'; clear hR' hbw)
          all_goals (go_wp2; go_roundw)
          all_goals first
            | exact ⟨j + 1, by omega, by go_num, by rw [← H3.out]; exact HR'.out.stepH j z⟩
            | (refine ⟨_, _, _, _, _, _, _, _, _, _, _, _, _, _, _, _, ?_, rfl⟩; exact ⟨j + 1, by omega, by go_num, by rw [← H3.out]; exact HR'.out.stepH j z⟩)
            | exact ⟨j + 1, by omega, by go_num, by rw [← H3.out]; exact (HR'.out.stepH j z).drew⟩
            | (simp [intOf]; omega)
        · obtain rfl : j = 8 := by omega
          obtain ⟨t, ht⟩ : ∃ t, t = s.add 64 v := ⟨_, rfl⟩
          have hm8 : mixAt 64 s v 8 = t.list := by rw [ht]; rfl
          rw [hm8] at hR
          have HT := Lib.hid ht; clear ht hm8
          have v0 := hR.hh.cell (j := 0) (x := t.a) rfl
          have y0 := hR.hr.cell (j := 0) (x := 0) rfl
          have z0 := hR.hr.frozen 0
          have v1 := hR.hh.cell (j := 1) (x := t.b) rfl
          have y1 := hR.hr.cell (j := 1) (x := 0) rfl
          have z1 := hR.hr.frozen 1
          have v2 := hR.hh.cell (j := 2) (x := t.c) rfl
          have y2 := hR.hr.cell (j := 2) (x := 0) rfl
          have z2 := hR.hr.frozen 2
          have v3 := hR.hh.cell (j := 3) (x := t.d) rfl
          have y3 := hR.hr.cell (j := 3) (x := 0) rfl
          have z3 := hR.hr.frozen 3
          have v4 := hR.hh.cell (j := 4) (x := t.e) rfl
          have y4 := hR.hr.cell (j := 4) (x := 0) rfl
          have z4 := hR.hr.frozen 4
          have v5 := hR.hh.cell (j := 5) (x := t.f) rfl
          have y5 := hR.hr.cell (j := 5) (x := 0) rfl
          have z5 := hR.hr.frozen 5
          have v6 := hR.hh.cell (j := 6) (x := t.g) rfl
          have y6 := hR.hr.cell (j := 6) (x := 0) rfl
          have z6 := hR.hr.frozen 6
          have v7 := hR.hh.cell (j := 7) (x := t.h) rfl
          have y7 := hR.hr.cell (j := 7) (x := 0) rfl
          have z7 := hR.hr.frozen 7
          have RR := Lib.hid hR; clear hR
          go_wp2
          refine bodyPost_ret (results_cell_row rfl _ _ (w.heap.size + 1 + 1) 49 (valsK .u64 t.list) (0, 0) _ rfl (put8_same_64 t RR.out.hr) Tryd.underlying49 rfl row8_size_64) rfl ⟨?_, put8_below_64 t RR.out.below (by omega)⟩
          rw [HT.out, HV.out, HM.out]
          rfl

end Go.Proofs.YtfahmbkeibeceaaDoor
