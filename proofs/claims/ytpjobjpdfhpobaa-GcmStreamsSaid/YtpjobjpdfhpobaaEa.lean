/-
  The reference's words of a key: slices of integers that grow by append; contract of dromondref07.Words. Conditions: the key has 16 or 32 bytes; the table is the substitution's.
-/
import Derived.Test.YtpjobjpdfhpobaaCb
import Derived.Deep.RegionLaw
import Derived.Deep.AppendLies
namespace Go.Proofs.Ytpjobjpdfhpobaa
namespace Aes
open Go.ChangeShapes Go.WideShapes Go.ChangeAt Go.RowKit Go.Great Go.ChangeMaps
open Gf
set_option linter.unusedVariables false
set_option maxRecDepth 100000

theorem infoInt : (Try.prog.info? 3).map (fun i => (i.zero, i.size, i.bytes)) = some (some (.int .i64 0), 1, 8) := by kernel_rfl
theorem zero4i : (∀ w, (zeroValue 93).run Try.prog w = .ok (.agg (valsK .i64 (zerosN 4))) w) ∧ (Try.prog.info? 93).map (·.size) = some 4 :=
  zero_of_info (P := Try.prog) (t := 93) (v := .agg (valsK .i64 (zerosN 4))) (n := 4) (by kernel_rfl)
theorem under4i : Try.prog.underlying 93 = some (.array 4 3) := by kernel_rfl

theorem storeK {ops : Array Oper} {rest : List Oper} {op : Oper} {a : Act} {X : World} {Q : Exit → Act → World → Prop} (hgd : op.guard = none) (k : IntKind) (T : TypeId) (x y : Operand) (ho : op.op = .store T x y)
    (g : Nat) (hx : a.eval x = .pointer (some ⟨g, 0, none⟩)) (l m : List Nat) (hy : a.eval y = .agg (valsK k l)) (hg : Wd k T g m X) (hm : (valsK k m).size = (valsK k l).size) (hi : (Try.prog.info? T).map (·.size) = some (valsK k l).size)
    (h : wpList Try.prog ops Q rest (a.put op.dst undef) (X.setRow g (valsK k l))) : wpList Try.prog ops Q (op :: rest) a X :=
  wpList_plain hgd fun _ hK => by
    unfold Oper.wp execOp
    simp only [ho, hx, hy, Instr.storeAt, Instr.sureAddr, Sem.run_bind, Sem.run_pure, Result.andThen_ok, run_storeVar_row (P := Try.prog) X g T T (valsK k m) (valsK k l) hg hi hm (valsK_one _ _)]
    exact hK _ _ h

theorem addr_add (g j : Nat) : (⟨g, 0, none⟩ : Addr).add j = ⟨g, j, none⟩ := by unfold Addr.add; split <;> simp_all

/-- Integers as cells. -/
def iCells (l : List Nat) : List Value := l.map fun (n : Nat) => Value.int .i64 (n : Int)
theorem iCells_snoc (l : List Nat) (c : Nat) : iCells l ++ [Value.int .i64 (c : Int)] = iCells (l ++ [c]) := by simp [iCells]
theorem iCells_length (l : List Nat) : (iCells l).length = l.length := by simp [iCells]
theorem iCells_get (l : List Nat) (j c : Nat) (h : l[j]? = some c) : (iCells l)[j]? = some (.int .i64 (c : Int)) := by
  unfold iCells; rw [List.getElem?_map, h]; rfl

/-- The words in the making, and the table. -/
structure Wi (w : World) (v : Value) (l : List Nat) (X : World) : Prop where
  row : X.ownsRow (w.heap.size + 1) 3 1 v l.length (iCells l)
  tab : Wd .i64 68 w.heap.size (allF sub 256) X
  below : Below w.heap.size w X
theorem own_below3 {B k n : Nat} {e : TypeId} {v : Value} {xs : List Value} {w w' : World} (h : w.ownsRow B e k v n xs) (hb : Below w.heap.size w w') : w'.ownsRow B e k v n xs := by
  obtain ⟨hl, h | ⟨g, cap, cur, hv, hg, hc, r⟩⟩ := h
  · exact ⟨hl, .inl h⟩
  · exact ⟨hl, .inr ⟨g, cap, cur, hv, hg, keepBlock hc hb, r⟩⟩
theorem Wi.next {w X Y : World} {v : Value} {l : List Nat} (h : Wi w v l X) (hb : Below X.heap.size X Y) : Wi w v l Y := ⟨own_below3 h.row hb, keepBlock h.tab hb, below_link h.below hb⟩
theorem Wi.drew {w X : World} {v : Value} {l : List Nat} (h : Wi w v l X) : Wi w v l X.drew := ⟨h.row, h.tab, h.below.drew⟩
theorem Wi.lt {w X : World} {v : Value} {l : List Nat} (h : Wi w v l X) : w.heap.size + 1 ≤ X.heap.size := (Array.getElem?_eq_some_iff.1 h.tab).1
/-- Behind an append. -/
theorem Wi.grow {w X Y : World} {v v' : Value} {l : List Nat} {c : Nat} (h : Wi w v l X) (hown : Y.ownsRow (w.heap.size + 1) 3 1 v' (l.length + 1) (iCells l ++ [.int .i64 (c : Int)])) (hg : X.grownBy Y v.ownBlock) : Wi w v' (l ++ [c]) Y where
  row := by rw [List.length_append, ← iCells_snoc]; exact hown
  tab := by
    have hlt := (Array.getElem?_eq_some_iff.1 h.tab).1
    unfold Wd
    rw [hg.block _ hlt (fun e => by have := (h.row.lt _ e.symm).1; omega)]
    exact h.tab
  below := h.below.grown hg (by have := h.lt; omega) (fun g he => by have := (h.row.lt g he).1; omega)

/-- With a word in block c. -/
structure Wx (w : World) (v : Value) (l : List Nat) (c : Nat) (x : List Nat) (X : World) : Prop where
  wi : Wi w v l X
  row : Wd .i64 93 c x X
  far : w.heap.size < c
  own : v.ownBlock ≠ some c
theorem Wx.next {w X Y : World} {v : Value} {l x : List Nat} {c : Nat} (h : Wx w v l c x X) (hb : Below X.heap.size X Y) : Wx w v l c x Y := ⟨h.wi.next hb, keepBlock h.row hb, h.far, h.own⟩
theorem Wx.drew {w X : World} {v : Value} {l x : List Nat} {c : Nat} (h : Wx w v l c x X) : Wx w v l c x X.drew := ⟨h.wi.drew, h.row, h.far, h.own⟩
theorem ownsRow_setRow {B k n c : Nat} {e : TypeId} {v : Value} {xs : List Value} {X : World} (h : X.ownsRow B e k v n xs) (hc : v.ownBlock ≠ some c) (m : Array Value) : (X.setRow c m).ownsRow B e k v n xs := by
  obtain ⟨hl, h | ⟨g, cap, cur, hv, hg, hcc, r⟩⟩ := h
  · exact ⟨hl, .inl h⟩
  · refine ⟨hl, .inr ⟨g, cap, cur, hv, hg, ?_, r⟩⟩
    rw [setRow_other _ _ _ _ (fun e => hc (by rw [hv]; show some g = some c; rw [e]))]
    exact hcc
theorem Wx.put {w X : World} {v : Value} {l x : List Nat} {c : Nat} (h : Wx w v l c x X) (y : List Nat) : Wx w v l c y (X.setRow c (valsK .i64 y)) :=
  ⟨⟨ownsRow_setRow h.wi.row h.own _, by unfold Wd; rw [setRow_other _ _ _ _ (by have := h.far; omega)]; exact h.wi.tab, below_setRow h.wi.below (by have := h.far; omega) _⟩, h.row.setRow _, h.far, h.own⟩
/-- A new word. -/
theorem Wi.word {w X : World} {v : Value} {l : List Nat} (h : Wi w v l X) (x : List Nat) : Wx w v l X.heap.size x ((X.alloc (.cells (valsK .i64 (zerosN 4)) 93)).setRow X.heap.size (valsK .i64 x)) :=
  Wx.put (x := zerosN 4) ⟨h.next ((Below.refl _ _).alloc (Nat.le_refl _) _), heap_alloc_new X _, by have := h.lt; omega, fun e => by have := (h.row.lt _ e).2; omega⟩ x
theorem Wi.word2 {w X : World} {v : Value} {l : List Nat} (h : Wi w v l X) (x : List Nat) : Wx w v l X.heap.size x ((X.alloc (.cells (valsK .i64 x) 93)).drew) :=
  Wx.drew ⟨h.next ((Below.refl _ _).alloc (Nat.le_refl _) _), heap_alloc_new X _, by have := h.lt; omega, fun e => by have := (h.row.lt _ e).2; omega⟩
theorem Wx.cells {w X : World} {v : Value} {l : List Nat} {c a0 a1 a2 a3 : Nat} (h : Wx w v l c [a0, a1, a2, a3] X) : X.cell? ⟨c, 0, none⟩ = some (.int .i64 (a0 : Nat)) ∧ X.cell? ⟨c, 1, none⟩ = some (.int .i64 (a1 : Nat)) ∧ X.cell? ⟨c, 2, none⟩ = some (.int .i64 (a2 : Nat)) ∧ X.cell? ⟨c, 3, none⟩ = some (.int .i64 (a3 : Nat)) :=
  ⟨h.row.cell rfl, h.row.cell rfl, h.row.cell rfl, h.row.cell rfl⟩
theorem div_stepW {n k : Nat} (hn : n = 4 ∨ n = 8) (hk : n ≤ k) (h : k % n = 0) : k / n = (k - 1) / n + 1 := div_step hn hk h

/-- Behind an append. -/
theorem Wx.grow {w X Y : World} {v v' : Value} {l x : List Nat} {c d : Nat} (h : Wx w v l c x X) (hown : Y.ownsRow (w.heap.size + 1) 3 1 v' (l.length + 1) (iCells l ++ [.int .i64 (d : Int)])) (hg : X.grownBy Y v.ownBlock) (hv : v'.ownBlock = v.ownBlock ∨ v'.ownBlock = some X.heap.size) : Wx w v' (l ++ [d]) c x Y where
  wi := h.wi.grow hown hg
  row := by
    have hlt := (Array.getElem?_eq_some_iff.1 h.row).1
    unfold Wd; rw [hg.block _ hlt (fun e => h.own e.symm)]; exact h.row
  far := h.far
  own := by
    have hlt := (Array.getElem?_eq_some_iff.1 h.row).1
    rcases hv with e | e
    · rw [e]; exact h.own
    · rw [e]; intro e2; injection e2 with e2; omega

/-- What Words returns. -/
def WordsAt (w : World) (n : Nat) (kl : List Nat) (e : Ending) (w' : World) : Prop :=
  ∃ g cap, e = .returned (.slice (some ⟨g, 0, none⟩) (16 * (n + 7)) cap) ∧ g < w'.heap.size ∧ (∀ j < 16 * (n + 7), w'.cell? ⟨g, j, none⟩ = some (.int .i64 (wordAt n kl j : Nat))) ∧ Below w.heap.size w w'

theorem cell_one_new (w : World) (v : Value) (t : TypeId) : ∀ j u, [v][j]? = some u → (w.alloc (.cells #[v] t)).cell? ((⟨w.heap.size, 0, none⟩ : Addr).add j) = some u := by
  intro j u h
  match j with
  | 0 => simp at h; subst h; rw [show (⟨w.heap.size, 0, none⟩ : Addr).add 0 = ⟨w.heap.size, 0, none⟩ from rfl, cell_of_row _ _ _ _ _ _ (heap_alloc_new w _)]; rfl
  | j + 1 => simp at h

theorem nums_take (b : ByteArray) (k : Nat) (h : k < b.size) : (nums b).take (k + 1) = (nums b).take k ++ [b[k].toNat] := by
  have hl : k < (nums b).length := by rw [nums_length]; exact h
  rw [List.take_succ_eq_append_getElem hl]
  congr 2
  simp [nums]
  rfl

set_option maxRecDepth 100000 in
set_option maxHeartbeats 8000000 in
theorem words_any (n : Nat) (key : ByteArray) (w : World) (hn : n = 4 ∨ n = 8) (hk : key.size = 4 * n) :
    Calls Try.prog 45 #[.agg (valsK .i64 (allF sub 256)), .string key] w (WordsAt w n (nums key)) := by
  obtain ⟨i0, hi, hz0, hz1, hz2⟩ := info_parts infoInt
  obtain ⟨TB, hTB⟩ : ∃ TB, TB = allF sub 256 := ⟨_, rfl⟩
  have h0 : Wi w (.slice none 0 0) [] (w.alloc (.cells (valsK .i64 (allF sub 256)) 68)) := ⟨⟨rfl, .inl ⟨rfl, rfl⟩⟩, heap_alloc_new w _, (Below.refl _ _).alloc (Nat.le_refl _) _⟩
  have H0 := Lib.hid h0
  have HN := Lib.hid hn
  have HK := Lib.hid hk
  have HTB := Lib.hid hTB
  rw [← hTB] at H0 ⊢
  have g1 : (key.size : Int) / 4 = (n : Int) := by omega
  have hks : key.size ≤ 32 := by omega
  have hn8 : n ≤ 8 := by omega
  clear hTB h0 hn hk
  go_enter Try.func45, Try.ntmps45
  go_wp2
  go_loopw [6, 7] (fun v i wr => ∃ k : Nat, k ≤ key.size ∧ i = .int .i64 (k : Nat) ∧ Wi w v ((nums key).take k) wr) (fun _ i _ => key.size - (intOf i).toNat)
  case atStart => exact ⟨0, Nat.zero_le _, rfl, H0.out⟩
  case round =>
    obtain ⟨k, hk, rfl, hW⟩ := hrel
    by_cases hlt : k < key.size
    · have d1 : decide ((k : Int) < (key.size : Int)) = true := by simp; omega
      have d2 : decide (k < key.size) = true := by simp; omega
      have hnx := nums_take key k hlt
      have hll : ((nums key).take k).length = k := by rw [List.length_take, nums_length]; omega
      obtain ⟨L, hL⟩ : ∃ L, L = (nums key).take k := ⟨_, rfl⟩
      rw [← hL] at hnx hW hll
      obtain ⟨d, hd⟩ : ∃ d, d = key[k].toNat := ⟨_, rfl⟩
      rw [← hd] at hnx
      have hd2 : (key[k].toNat : Int) = (d : Int) := by rw [hd]
      have hdl : d < 256 := by rw [hd]; exact key[k].toNat_lt
      have q1 : IntKind.i64.wrap (d : Int) = (d : Int) := by rw [IntKind.wrap_i64]; omega
      have HNX := Lib.hid hnx
      have HLL := Lib.hid hll
      have HW := Lib.hid hW
      clear hnx hL hd hW
      go_wp2_with (at_builtin; refine wpList_append_own _ rfl _ _ 70 rfl (w.heap.size + 1) 3 i0 (.int .i64 0) 1 8 Try.underlying70 hi hz0 hz1 hz2 rfl (by decide) _ _ _ rfl (HW.out.row.alloc _) ⟨wr.heap.size, 0, none⟩ 1 1 [Value.int .i64 (d : Int)] rfl rfl ?c1 ?c2 ?c3 ?c4 ?c5 ?_)
      case c1 => exact cell_one_new _ _ _
      case c2 => intro u hu; simp at hu; subst hu; rfl
      case c3 => unfold maxLen; omega
      case c4 => omega
      case c5 => have := HW.out.lt; simp; omega
      intro v' w3 hown' hgrow _
      have HO3 := Lib.hid ((HW.out.next ((Below.refl _ _).alloc (Nat.le_refl _) _)).grow (by rw [HLL.out]; exact hown') hgrow)
      clear hgrow hown'
      go_wp2
      go_roundw
      case rel => exact ⟨k + 1, by omega, by go_num, by rw [HNX.out]; exact HO3.out⟩
      case measure => simp [intOf]; omega
    · obtain rfl : k = key.size := by omega
      have hW2 : Wi w u6 (wordsTo n (nums key) (n - n)) wr := by
        rw [Nat.sub_self]
        have e : (nums key).take key.size = nums key := List.take_of_length_le (by rw [nums_length]; exact Nat.le_refl _)
        rw [e] at hW; exact hW
      have HW2 := Lib.hid hW2
      have d1 : decide ((key.size : Int) < (key.size : Int)) = false := by simp
      clear hW hW2 hlt
      go_wp2
      go_loopw [6, 8, 9] (fun v p i wr => ∃ k : Nat, n ≤ k ∧ k ≤ 4 * (n + 7) ∧ i = .int .i64 (k : Nat) ∧ p = .int .i64 (pw ((k - 1) / n) : Nat) ∧ Wi w v (wordsTo n (nums key) (k - n)) wr) (fun _ _ i _ => 4 * (n + 7) - (intOf i).toNat)
      case atStart => exact ⟨n, Nat.le_refl _, by omega, rfl, by rw [Nat.div_eq_of_lt (by have := HN.out; omega)]; rfl, HW2.out⟩
      case round =>
        obtain ⟨k, hnk, hk, rfl, rfl, hW⟩ := hrel
        have hn1 : 4 ≤ n := by have := HN.out; omega
        by_cases hlt : k < 4 * (n + 7)
        · have g2 : (k : Int) < 4 * ((n : Int) + 7) := by omega
          obtain ⟨t, ht⟩ : ∃ t, t = k % n := ⟨_, rfl⟩
          obtain ⟨p, hp⟩ : ∃ p, p = pw ((k - 1) / n) := ⟨_, rfl⟩
          have hpl : p < 256 := by rw [hp]; exact pw_lt _
          have htl : t < n := by rw [ht]; exact Nat.mod_lt _ (by omega)
          rw [← hp]
          obtain ⟨L, hL⟩ : ∃ L, L = wordsTo n (nums key) (k - n) := ⟨_, rfl⟩
          rw [← hL] at hW
          obtain ⟨M, hM⟩ : ∃ M, M = L.length := ⟨_, rfl⟩
          have hMk : M = 4 * k := by rw [hM, hL, wordsTo_length n (nums key) (by rw [nums_length]; exact HK.out)]; omega
          have hLl : ∀ c ∈ L, c < 256 := by rw [hL]; exact wordsTo_lt (nums_lt key) _
          have hnext : wordsTo n (nums key) (k + 1 - n) = L ++ nextFour n k L := by
            rw [show k + 1 - n = (k - n) + 1 by omega, wordsTo, ← hL, show n + (k - n) = k by omega]
          obtain ⟨gW, cap, hv, hge, hgl⟩ := hW.row.form (by rw [← hM, hMk]; omega)
          rw [← hM] at hv
          subst hv
          have hcell : ∀ j, j < M → wr.cell? ⟨gW, j, none⟩ = some (.int .i64 (L.getD j 0 : Nat)) := fun j hj => by
            have := hW.row.cells (g := gW) rfl j (.int .i64 ((L.getD j 0 : Nat) : Int)) (iCells_get _ _ _ (by rw [List.getD_eq_getElem?_getD, List.getElem?_eq_getElem (by omega)]; rfl))
            rwa [show (⟨gW, 0, none⟩ : Addr).add j = ⟨gW, j, none⟩ from by unfold Addr.add; split <;> simp_all] at this
          obtain ⟨o0, ho0⟩ : ∃ o, o = 4 * k - 4 := ⟨_, rfl⟩
          obtain ⟨o1, ho1⟩ : ∃ o, o = 4 * k - 3 := ⟨_, rfl⟩
          obtain ⟨o2, ho2⟩ : ∃ o, o = 4 * k - 2 := ⟨_, rfl⟩
          obtain ⟨o3, ho3⟩ : ∃ o, o = 4 * k - 1 := ⟨_, rfl⟩
          obtain ⟨a0, ha0⟩ : ∃ a, a = L.getD o0 0 := ⟨_, rfl⟩
          obtain ⟨a1, ha1⟩ : ∃ a, a = L.getD o1 0 := ⟨_, rfl⟩
          obtain ⟨a2, ha2⟩ : ∃ a, a = L.getD o2 0 := ⟨_, rfl⟩
          obtain ⟨a3, ha3⟩ : ∃ a, a = L.getD o3 0 := ⟨_, rfl⟩
          have c0 := hcell o0 (by omega)
          have c1 := hcell o1 (by omega)
          have c2 := hcell o2 (by omega)
          have c3 := hcell o3 (by omega)
          rw [← ha0] at c0
          rw [← ha1] at c1
          rw [← ha2] at c2
          rw [← ha3] at c3
          have l0 : a0 < 256 := by rw [ha0]; exact getD_lt hLl _
          have l1 : a1 < 256 := by rw [ha1]; exact getD_lt hLl _
          have l2 : a2 < 256 := by rw [ha2]; exact getD_lt hLl _
          have l3 : a3 < 256 := by rw [ha3]; exact getD_lt hLl _
          have p0 : IntKind.i64.wrap (4 * (k : Int)) = 4 * (k : Int) := by rw [IntKind.wrap_i64]; omega
          have b0 : 4 * (k : Int) - 4 = (o0 : Int) := by omega
          have b1 : 4 * (k : Int) - 3 = (o1 : Int) := by omega
          have b2 : 4 * (k : Int) - 2 = (o2 : Int) := by omega
          have b3 : 4 * (k : Int) - 1 = (o3 : Int) := by omega
          have e0 : IntKind.i64.wrap (o0 : Int) = (o0 : Int) := by rw [IntKind.wrap_i64]; omega
          have e1 : IntKind.i64.wrap (o1 : Int) = (o1 : Int) := by rw [IntKind.wrap_i64]; omega
          have e2 : IntKind.i64.wrap (o2 : Int) = (o2 : Int) := by rw [IntKind.wrap_i64]; omega
          have e3 : IntKind.i64.wrap (o3 : Int) = (o3 : Int) := by rw [IntKind.wrap_i64]; omega
          have f0 : (o0 : Int) < (M : Int) := by omega
          have f1 : (o1 : Int) < (M : Int) := by omega
          have f2 : (o2 : Int) < (M : Int) := by omega
          have f3 : (o3 : Int) < (M : Int) := by omega
          have q3 : Int.tmod (k : Int) (n : Int) = (t : Int) := by rw [Int.tmod_eq_emod_of_nonneg (by omega), ht]; exact (Int.natCast_emod k n).symm
          have q4 : (k : Int) % (n : Int) = (t : Int) := by rw [ht]; exact (Int.natCast_emod k n).symm
          have q5 : ¬ (n : Int) = 0 := by omega
          have HW3 := Lib.hid hW.drew
          have HWP := Lib.hid hW
          have HF := Lib.hid (show (4 ≤ n ∧ n ≤ 8 ∧ n ≤ k ∧ k < 4 * (n + 7) ∧ t = k % n ∧ t < n ∧ M = 4 * k) ∧ (p = pw ((k - 1) / n) ∧ p < 256) ∧ (a0 < 256 ∧ a1 < 256 ∧ a2 < 256 ∧ a3 < 256) ∧ M = L.length ∧ (∀ c ∈ L, c < 256) from ⟨⟨hn1, hn8, hnk, hlt, ht, htl, hMk⟩, ⟨hp, hpl⟩, ⟨l0, l1, l2, l3⟩, hM, hLl⟩)
          have HNX := Lib.hid hnext
          have hdef : nextFour n k L = (List.range 4).map fun j => L.getD (4 * (k - n) + j) 0 ^^^ (turned n k a0 a1 a2 a3).getD j 0 := by
            rw [ha0, ha1, ha2, ha3, ho0, ho1, ho2, ho3]; rfl
          have HDEF := Lib.hid hdef
          clear hW hlt ht htl hp hpl hL hM hMk hLl hnext hcell ho0 ho1 ho2 ho3 ha0 ha1 ha2 ha3 l0 l1 l2 l3 hnk hn1 hdef hge hgl hk
          have n0 := World.new_ne wr _ c0
          have n1 := World.new_ne wr _ c1
          have n2 := World.new_ne wr _ c2
          have n3 := World.new_ne wr _ c3
          go_wp2
          go_region_held3 (fun X => X.cell? ⟨gW, o0, none⟩ = some (.int .i64 (a0 : Nat)) ∧ X.cell? ⟨gW, o1, none⟩ = some (.int .i64 (a1 : Nat)) ∧ X.cell? ⟨gW, o2, none⟩ = some (.int .i64 (a2 : Nat)) ∧ X.cell? ⟨gW, o3, none⟩ = some (.int .i64 (a3 : Nat))) (go_keep) (fail)
          obtain ⟨c, hc⟩ : ∃ c, c = wr.heap.size := ⟨_, rfl⟩
          have hc' := hc.symm
          have HX := Lib.hid (show Wx w (.slice (some ⟨gW, 0, none⟩) M cap) L c [a0, a1, a2, a3] ((wr.alloc (.cells #[.int .i64 (a0 : Nat), .int .i64 (a1 : Nat), .int .i64 (a2 : Nat), .int .i64 (a3 : Nat)] 93)).drew) from by
            rw [hc]; exact HWP.out.word2 [a0, a1, a2, a3])
          rw [hc']
          clear c0 c1 c2 c3 n0 n1 n2 n3 p0 b0 b1 b2 b3 e0 e1 e2 e3 f0 f1 f2 f3 hc hc' HW3 HWP
          generalize (wr.alloc (.cells #[.int .i64 (a0 : Nat), .int .i64 (a1 : Nat), .int .i64 (a2 : Nat), .int .i64 (a3 : Nat)] 93)).drew = wq at *
          obtain ⟨y0, y1, y2, y3⟩ := HX.out.cells
          by_cases ht0 : t = 0
          · have b1 : ((t : Int) == 0) = true := by simp; omega
            have HT0 := Lib.hid ht0; clear ht0
            obtain ⟨s0, hs0⟩ : ∃ s, s = sub a0 := ⟨_, rfl⟩
            obtain ⟨s1, hs1⟩ : ∃ s, s = sub a1 := ⟨_, rfl⟩
            obtain ⟨s2, hs2⟩ : ∃ s, s = sub a2 := ⟨_, rfl⟩
            obtain ⟨s3, hs3⟩ : ∃ s, s = sub a3 := ⟨_, rfl⟩
            have tb : ∀ a, a < 256 → wq.cell? ⟨w.heap.size, a, none⟩ = some (.int .i64 (sub a : Nat)) := fun a ha => HX.out.wi.tab.cell (allF_get sub 256 a ha)
            have t0 := tb a0 HF.out.2.2.1.1
            have t1 := tb a1 HF.out.2.2.1.2.1
            have t2 := tb a2 HF.out.2.2.1.2.2.1
            have t3 := tb a3 HF.out.2.2.1.2.2.2
            rw [← hs0] at t0
            rw [← hs1] at t1
            rw [← hs2] at t2
            rw [← hs3] at t3
            have u0 : (a0 : Int) < 256 := by have := HF.out.2.2.1.1; omega
            have u1 : (a1 : Int) < 256 := by have := HF.out.2.2.1.2.1; omega
            have u2 : (a2 : Int) < 256 := by have := HF.out.2.2.1.2.2.1; omega
            have u3 : (a3 : Int) < 256 := by have := HF.out.2.2.1.2.2.2; omega
            have sl1 : s1 < 256 := by rw [hs1]; exact sub_lt _ HF.out.2.2.1.2.1
            obtain ⟨z, hz⟩ : ∃ z, z = s1 ^^^ p := ⟨_, rfl⟩
            have qz := i64_xor_nat s1 p (by omega) (by have := HF.out.2.1.2; omega)
            rw [← hz] at qz
            have HZL := Lib.hid (show ∀ c ∈ [z, s2, s3, s0], c < 256 from by
              intro c hc
              simp only [List.mem_cons, List.not_mem_nil, or_false] at hc
              rcases hc with rfl | rfl | rfl | rfl
              · rw [hz]; exact Nat.xor_lt_two_pow (n := 8) sl1 HF.out.2.1.2
              · rw [hs2]; exact sub_lt _ HF.out.2.2.1.2.2.1
              · rw [hs3]; exact sub_lt _ HF.out.2.2.1.2.2.2
              · rw [hs0]; exact sub_lt _ HF.out.2.2.1.1)
            have HZD := Lib.hid (show turned n k a0 a1 a2 a3 = [z, s2, s3, s0] from by
              have h1 := HF.out.1
              have hkn : k % n = 0 := by have := HT0.out; omega
              have hpw : pw (k / n - 1) = p := by rw [HF.out.2.1.1, div_step HN.out (by omega) hkn, Nat.add_sub_cancel]
              unfold turned
              rw [if_pos hkn, hpw, hz, hs0, hs1, hs2, hs3])
            have CT := Lib.hid (fun X => rtimes_any p 2 X HF.out.2.1.2 (by decide))
            clear hs0 hs1 hs2 hs3 hz tb sl1
            go_wp2
            go_still_tail 19, (by kernel_rfl)
            change wpList _ _ _ _ _ wq.drew
            have HXD := Lib.hid HX.out.drew
            clear y0 y1 y2 y3 t0 t1 t2 t3 HX
            generalize wq.drew = wd at *
            have HX2 := Lib.hid (HXD.out.put [z, s2, s3, s0])
            go_wp2_with (refine storeK (by rfl) .i64 93 _ _ (by rfl) _ (by rfl) [z, s2, s3, s0] [a0, a1, a2, a3] (by rfl) ?_ ?_ ?_ ?_; exact HXD.out.row; rfl; exact zero4i.2)
            refine (CT.out _).mono ?_
            rintro e w5 ⟨rfl, rfl⟩
            generalize wd.setRow c (valsK .i64 [z, s2, s3, s0]) = wt at *
            obtain ⟨y0, y1, y2, y3⟩ := HX2.out.cells
            clear b1 q3 q4 qz u0 u1 u2 u3
            clear y0 y1 y2 y3
            go_wp2
            go_loopw [6, 11] (fun v i wr => ∃ j : Nat, j ≤ 4 ∧ i = .int .i64 (j : Nat) ∧ Wx w v (L ++ (nextFour n k L).take j) c [z, s2, s3, s0] wr) (fun _ i _ => 4 - (intOf i).toNat)
            case atStart => exact ⟨0, Nat.zero_le _, rfl, by rw [List.take_zero, List.append_nil]; exact HX2.out⟩
            case round =>
              obtain ⟨j, hj, rfl, hX⟩ := hrel
              have h1 := HF.out.1
              have hML := HF.out.2.2.2.1
              by_cases hjt : j < 4
              · obtain ⟨o, ho⟩ : ∃ o, o = 4 * (k - n) + j := ⟨_, rfl⟩
                obtain ⟨e, he⟩ : ∃ e, e = L.getD o 0 := ⟨_, rfl⟩
                obtain ⟨f, hf⟩ : ∃ f, f = [z, s2, s3, s0].getD j 0 := ⟨_, rfl⟩
                have hfj : [z, s2, s3, s0][j]? = some f := by rw [hf, List.getD_eq_getElem?_getD, List.getElem?_eq_getElem (show j < [z, s2, s3, s0].length from hjt)]; rfl
                obtain ⟨N, hN⟩ : ∃ N, N = L ++ (nextFour n k L).take j := ⟨_, rfl⟩
                rw [← hN] at hX
                obtain ⟨P, hP⟩ : ∃ P, P = N.length := ⟨_, rfl⟩
                have hPk : P = M + j := by rw [hP, hN, List.length_append, List.length_take, nextFour_length, ← hML]; omega
                obtain ⟨gX, capX, hv, -, -⟩ := hX.wi.row.form (by rw [← hP, hPk]; omega)
                rw [← hP] at hv
                subst hv
                have he2 : N[o]? = some e := by
                  rw [hN, List.getElem?_append_left (by rw [← hML]; omega), he, List.getD_eq_getElem?_getD, List.getElem?_eq_getElem (by rw [← hML]; omega)]; rfl
                have c1 : wr.cell? ⟨gX, o, none⟩ = some (.int .i64 (e : Nat)) := by
                  have := hX.wi.row.cells (g := gX) rfl o (.int .i64 ((e : Nat) : Int)) (iCells_get _ _ _ he2)
                  rwa [show (⟨gX, 0, none⟩ : Addr).add o = ⟨gX, o, none⟩ from addr_add _ _] at this
                have c2 := hX.row.cell hfj
                have hel : e < 256 := by rw [he]; exact getD_lt HF.out.2.2.2.2 _
                have hfl : f < 256 := by rw [hf]; exact getD_lt HZL.out _
                have qx := i64_xor_nat e f (by omega) (by omega)
                obtain ⟨z, hz⟩ : ∃ z, z = e ^^^ f := ⟨_, rfl⟩
                rw [← hz] at qx
                have hnx2 : N ++ [z] = L ++ (nextFour n k L).take (j + 1) := by
                  have hq : (nextFour n k L)[j]? = some z := by
                    rw [HDEF.out, List.getElem?_map, List.getElem?_range hjt, HZD.out, hz, he, hf, ho]; rfl
                  rw [hN, List.append_assoc, List.take_add_one, hq]
                  rfl
                have HNZ := Lib.hid hnx2
                obtain ⟨m, hm⟩ : ∃ m, m = k - n := ⟨_, rfl⟩
                have r0 : (k : Int) - (n : Int) = (m : Int) := by omega
                have r0' : IntKind.i64.wrap (m : Int) = (m : Int) := by rw [IntKind.wrap_i64]; omega
                have r1 : IntKind.i64.wrap (4 * (m : Int)) = 4 * (m : Int) := by rw [IntKind.wrap_i64]; omega
                have r2 : 4 * (m : Int) + (j : Int) = (o : Int) := by omega
                have r2' : IntKind.i64.wrap (o : Int) = (o : Int) := by rw [IntKind.wrap_i64]; omega
                have r3 : (o : Int) < (P : Int) := by omega
                have r4 : (j : Int) < 4 := by omega
                have HXX := Lib.hid hX
                have HPP := Lib.hid (And.intro hP (And.intro hPk h1))
                clear ho he hf hfj hN hP hPk he2 hel hfl hz hnx2 hm hX h1 hML
                go_wp2
                go_region_law ((refine step_append_lies _ (by rfl) _ _ 70 (by rfl) (w.heap.size + 1) 3 i0 (.int .i64 0) 1 8 Try.underlying70 hi hz0 hz1 hz2 rfl (by decide) _ _ _ (by rfl) (HXX.out.wi.row.alloc (.cells #[.int .i64 (z : Int)] 3)).drew ⟨wr.heap.size, 0, none⟩ 1 1 [Value.int .i64 (z : Int)] (by rfl) (by rfl) (cell_one_new wr (.int .i64 (z : Int)) 3) (by intro u hu; simp at hu; subst hu; rfl) (by decide) (by have := HPP.out; unfold maxLen; omega) (by have := HPP.out; omega) (by have := HXX.out.wi.lt; simp; omega) (wr.heap.size + 1) (by simp) ?_; intro gY capY w3 hown' hgrow hat hlt'; have HX3 := Lib.hid ((HXX.out.next ((Below.refl _ _).alloc (Nat.le_refl _) (.cells #[.int .i64 (z : Int)] 3))).drew.grow hown' hgrow (hat.elim (fun hq => Or.inl hq.symm) (fun hq => Or.inr (by rw [hq]; show some (wr.heap.size + 1) = some ((wr.alloc _).heap.size); rw [alloc_size])))); clear hown' hgrow hat hlt'))
                all_goals go_wp2
                all_goals go_roundw
                all_goals first
                  | exact ⟨j + 1, by omega, by go_num, by rw [← HNZ.out]; exact HX3.out⟩
                  | (simp [intOf]; omega)
              · obtain rfl : j = 4 := by omega
                have hW4 : Wi w u6 (wordsTo n (nums key) (k + 1 - n)) wr := by
                  rw [HNX.out]
                  have := hX.wi
                  rwa [List.take_of_length_le (by rw [nextFour_length]; exact Nat.le_refl _)] at this
                have HW4 := Lib.hid hW4
                clear hW4 hX h1 hML
                go_wp2
                go_roundw
                case rel => exact ⟨k + 1, by have := HF.out.1; omega, by have := HF.out.1; omega, by go_num, by have h1 := HF.out.1; have hkn : k % n = 0 := by { have := HT0.out; omega }; rw [Nat.add_sub_cancel, div_step HN.out (by omega) hkn, pw, ← HF.out.2.1.1], HW4.out⟩
                case measure => have := HF.out.1; simp [intOf]; omega
          · have b1 : ((t : Int) == 0) = false := by simp; omega
            have HT0 := Lib.hid ht0
            by_cases h48 : n = 8 ∧ t = 4
            · have b2 : ((n : Int) == 8) = true := by simp; omega
              have b3 : ((t : Int) == 4) = true := by simp; omega
              have H48 := Lib.hid h48
              clear ht0 h48
              obtain ⟨s0, hs0⟩ : ∃ s, s = sub a0 := ⟨_, rfl⟩
              obtain ⟨s1, hs1⟩ : ∃ s, s = sub a1 := ⟨_, rfl⟩
              obtain ⟨s2, hs2⟩ : ∃ s, s = sub a2 := ⟨_, rfl⟩
              obtain ⟨s3, hs3⟩ : ∃ s, s = sub a3 := ⟨_, rfl⟩
              have tb : ∀ a, a < 256 → wq.cell? ⟨w.heap.size, a, none⟩ = some (.int .i64 (sub a : Nat)) := fun a ha => HX.out.wi.tab.cell (allF_get sub 256 a ha)
              have t0 := tb a0 HF.out.2.2.1.1
              have t1 := tb a1 HF.out.2.2.1.2.1
              have t2 := tb a2 HF.out.2.2.1.2.2.1
              have t3 := tb a3 HF.out.2.2.1.2.2.2
              rw [← hs0] at t0
              rw [← hs1] at t1
              rw [← hs2] at t2
              rw [← hs3] at t3
              have u0 : (a0 : Int) < 256 := by have := HF.out.2.2.1.1; omega
              have u1 : (a1 : Int) < 256 := by have := HF.out.2.2.1.2.1; omega
              have u2 : (a2 : Int) < 256 := by have := HF.out.2.2.1.2.2.1; omega
              have u3 : (a3 : Int) < 256 := by have := HF.out.2.2.1.2.2.2; omega
              have HZL := Lib.hid (show ∀ c ∈ [s0, s1, s2, s3], c < 256 from by
                intro c hc
                simp only [List.mem_cons, List.not_mem_nil, or_false] at hc
                rcases hc with rfl | rfl | rfl | rfl
                · rw [hs0]; exact sub_lt _ HF.out.2.2.1.1
                · rw [hs1]; exact sub_lt _ HF.out.2.2.1.2.1
                · rw [hs2]; exact sub_lt _ HF.out.2.2.1.2.2.1
                · rw [hs3]; exact sub_lt _ HF.out.2.2.1.2.2.2)
              have HZD := Lib.hid (show turned n k a0 a1 a2 a3 = [s0, s1, s2, s3] from by
                have h1 := HF.out.1
                have hkn : ¬ k % n = 0 := by have := HT0.out; omega
                have hk4 : n = 8 ∧ k % n = 4 := ⟨H48.out.1, by have := H48.out.2; omega⟩
                unfold turned
                rw [if_neg hkn, if_pos hk4, hs0, hs1, hs2, hs3])
              clear hs0 hs1 hs2 hs3 tb
              go_wp2
              go_still_tail 17, (by kernel_rfl)
              change wpList _ _ _ _ _ wq.drew
              have HXD := Lib.hid HX.out.drew
              clear y0 y1 y2 y3 t0 t1 t2 t3 HX
              generalize wq.drew = wd at *
              have HX2 := Lib.hid (HXD.out.put [s0, s1, s2, s3])
              clear b1 b2 b3 q3 q4 u0 u1 u2 u3
              go_wp2_with (refine storeK (by rfl) .i64 93 _ _ (by rfl) _ (by rfl) [s0, s1, s2, s3] [a0, a1, a2, a3] (by rfl) ?_ ?_ ?_ ?_; exact HXD.out.row; rfl; exact zero4i.2)
              generalize wd.setRow c (valsK .i64 [s0, s1, s2, s3]) = wt at *
              go_loopw [6, 11] (fun v i wr => ∃ j : Nat, j ≤ 4 ∧ i = .int .i64 (j : Nat) ∧ Wx w v (L ++ (nextFour n k L).take j) c [s0, s1, s2, s3] wr) (fun _ i _ => 4 - (intOf i).toNat)
              case atStart => exact ⟨0, Nat.zero_le _, rfl, by rw [List.take_zero, List.append_nil]; exact HX2.out⟩
              case round =>
                obtain ⟨j, hj, rfl, hX⟩ := hrel
                have h1 := HF.out.1
                have hML := HF.out.2.2.2.1
                by_cases hjt : j < 4
                · obtain ⟨o, ho⟩ : ∃ o, o = 4 * (k - n) + j := ⟨_, rfl⟩
                  obtain ⟨e, he⟩ : ∃ e, e = L.getD o 0 := ⟨_, rfl⟩
                  obtain ⟨f, hf⟩ : ∃ f, f = [s0, s1, s2, s3].getD j 0 := ⟨_, rfl⟩
                  have hfj : [s0, s1, s2, s3][j]? = some f := by rw [hf, List.getD_eq_getElem?_getD, List.getElem?_eq_getElem (show j < [s0, s1, s2, s3].length from hjt)]; rfl
                  obtain ⟨N, hN⟩ : ∃ N, N = L ++ (nextFour n k L).take j := ⟨_, rfl⟩
                  rw [← hN] at hX
                  obtain ⟨P, hP⟩ : ∃ P, P = N.length := ⟨_, rfl⟩
                  have hPk : P = M + j := by rw [hP, hN, List.length_append, List.length_take, nextFour_length, ← hML]; omega
                  obtain ⟨gX, capX, hv, -, -⟩ := hX.wi.row.form (by rw [← hP, hPk]; omega)
                  rw [← hP] at hv
                  subst hv
                  have he2 : N[o]? = some e := by
                    rw [hN, List.getElem?_append_left (by rw [← hML]; omega), he, List.getD_eq_getElem?_getD, List.getElem?_eq_getElem (by rw [← hML]; omega)]; rfl
                  have c1 : wr.cell? ⟨gX, o, none⟩ = some (.int .i64 (e : Nat)) := by
                    have := hX.wi.row.cells (g := gX) rfl o (.int .i64 ((e : Nat) : Int)) (iCells_get _ _ _ he2)
                    rwa [show (⟨gX, 0, none⟩ : Addr).add o = ⟨gX, o, none⟩ from addr_add _ _] at this
                  have c2 := hX.row.cell hfj
                  have hel : e < 256 := by rw [he]; exact getD_lt HF.out.2.2.2.2 _
                  have hfl : f < 256 := by rw [hf]; exact getD_lt HZL.out _
                  have qx := i64_xor_nat e f (by omega) (by omega)
                  obtain ⟨z, hz⟩ : ∃ z, z = e ^^^ f := ⟨_, rfl⟩
                  rw [← hz] at qx
                  have hnx2 : N ++ [z] = L ++ (nextFour n k L).take (j + 1) := by
                    have hq : (nextFour n k L)[j]? = some z := by
                      rw [HDEF.out, List.getElem?_map, List.getElem?_range hjt, HZD.out, hz, he, hf, ho]; rfl
                    rw [hN, List.append_assoc, List.take_add_one, hq]
                    rfl
                  have HNZ := Lib.hid hnx2
                  obtain ⟨m, hm⟩ : ∃ m, m = k - n := ⟨_, rfl⟩
                  have r0 : (k : Int) - (n : Int) = (m : Int) := by omega
                  have r0' : IntKind.i64.wrap (m : Int) = (m : Int) := by rw [IntKind.wrap_i64]; omega
                  have r1 : IntKind.i64.wrap (4 * (m : Int)) = 4 * (m : Int) := by rw [IntKind.wrap_i64]; omega
                  have r2 : 4 * (m : Int) + (j : Int) = (o : Int) := by omega
                  have r2' : IntKind.i64.wrap (o : Int) = (o : Int) := by rw [IntKind.wrap_i64]; omega
                  have r3 : (o : Int) < (P : Int) := by omega
                  have r4 : (j : Int) < 4 := by omega
                  have HXX := Lib.hid hX
                  have HPP := Lib.hid (And.intro hP (And.intro hPk h1))
                  clear ho he hf hfj hN hP hPk he2 hel hfl hz hnx2 hm hX h1 hML
                  go_wp2
                  go_region_law ((refine step_append_lies _ (by rfl) _ _ 70 (by rfl) (w.heap.size + 1) 3 i0 (.int .i64 0) 1 8 Try.underlying70 hi hz0 hz1 hz2 rfl (by decide) _ _ _ (by rfl) (HXX.out.wi.row.alloc (.cells #[.int .i64 (z : Int)] 3)).drew ⟨wr.heap.size, 0, none⟩ 1 1 [Value.int .i64 (z : Int)] (by rfl) (by rfl) (cell_one_new wr (.int .i64 (z : Int)) 3) (by intro u hu; simp at hu; subst hu; rfl) (by decide) (by have := HPP.out; unfold maxLen; omega) (by have := HPP.out; omega) (by have := HXX.out.wi.lt; simp; omega) (wr.heap.size + 1) (by simp) ?_; intro gY capY w3 hown' hgrow hat hlt'; have HX3 := Lib.hid ((HXX.out.next ((Below.refl _ _).alloc (Nat.le_refl _) (.cells #[.int .i64 (z : Int)] 3))).drew.grow hown' hgrow (hat.elim (fun hq => Or.inl hq.symm) (fun hq => Or.inr (by rw [hq]; show some (wr.heap.size + 1) = some ((wr.alloc _).heap.size); rw [alloc_size])))); clear hown' hgrow hat hlt'))
                  all_goals go_wp2
                  all_goals go_roundw
                  all_goals first
                    | exact ⟨j + 1, by omega, by go_num, by rw [← HNZ.out]; exact HX3.out⟩
                    | (simp [intOf]; omega)
                · obtain rfl : j = 4 := by omega
                  have hW4 : Wi w u6 (wordsTo n (nums key) (k + 1 - n)) wr := by
                    rw [HNX.out]
                    have := hX.wi
                    rwa [List.take_of_length_le (by rw [nextFour_length]; exact Nat.le_refl _)] at this
                  have HW4 := Lib.hid hW4
                  clear hW4 hX h1 hML
                  go_wp2
                  go_roundw
                  case rel => exact ⟨k + 1, by have := HF.out.1; omega, by have := HF.out.1; omega, by go_num, by have h1 := HF.out.1; have hkn : k % n ≠ 0 := by { have := HT0.out; omega }; rw [Nat.add_sub_cancel, div_stay HN.out hkn, ← HF.out.2.1.1], HW4.out⟩
                  case measure => have := HF.out.1; simp [intOf]; omega
            · have hb2 : ((n : Int) == 8) = false ∨ (((n : Int) == 8) = true ∧ ((t : Int) == 4) = false) := by
                by_cases h8 : n = 8
                · right; constructor
                  · simp; omega
                  · simp; omega
                · left; simp; omega
              have H48 := Lib.hid h48
              clear ht0 h48
              have HX2 := HX
              have HZL := Lib.hid (show ∀ c ∈ [a0, a1, a2, a3], c < 256 from by
                intro c hc
                have h2 := HF.out.2.2.1
                simp only [List.mem_cons, List.not_mem_nil, or_false] at hc
                rcases hc with rfl | rfl | rfl | rfl
                · exact h2.1
                · exact h2.2.1
                · exact h2.2.2.1
                · exact h2.2.2.2)
              have HZD := Lib.hid (show turned n k a0 a1 a2 a3 = [a0, a1, a2, a3] from by
                have h1 := HF.out.1
                have hkn : ¬ k % n = 0 := by have := HT0.out; omega
                have hk4 : ¬ (n = 8 ∧ k % n = 4) := fun hh => H48.out ⟨hh.1, by have := hh.2; omega⟩
                unfold turned
                rw [if_neg hkn, if_neg hk4])
              clear y0 y1 y2 y3
              rcases hb2 with b2 | ⟨b2, b3⟩
              · go_wp2
                clear b1 b2 q3 q4
                go_loopw [6, 11] (fun v i wr => ∃ j : Nat, j ≤ 4 ∧ i = .int .i64 (j : Nat) ∧ Wx w v (L ++ (nextFour n k L).take j) c [a0, a1, a2, a3] wr) (fun _ i _ => 4 - (intOf i).toNat)
                case atStart => exact ⟨0, Nat.zero_le _, rfl, by rw [List.take_zero, List.append_nil]; exact HX2.out⟩
                case round =>
                  obtain ⟨j, hj, rfl, hX⟩ := hrel
                  have h1 := HF.out.1
                  have hML := HF.out.2.2.2.1
                  by_cases hjt : j < 4
                  · obtain ⟨o, ho⟩ : ∃ o, o = 4 * (k - n) + j := ⟨_, rfl⟩
                    obtain ⟨e, he⟩ : ∃ e, e = L.getD o 0 := ⟨_, rfl⟩
                    obtain ⟨f, hf⟩ : ∃ f, f = [a0, a1, a2, a3].getD j 0 := ⟨_, rfl⟩
                    have hfj : [a0, a1, a2, a3][j]? = some f := by rw [hf, List.getD_eq_getElem?_getD, List.getElem?_eq_getElem (show j < [a0, a1, a2, a3].length from hjt)]; rfl
                    obtain ⟨N, hN⟩ : ∃ N, N = L ++ (nextFour n k L).take j := ⟨_, rfl⟩
                    rw [← hN] at hX
                    obtain ⟨P, hP⟩ : ∃ P, P = N.length := ⟨_, rfl⟩
                    have hPk : P = M + j := by rw [hP, hN, List.length_append, List.length_take, nextFour_length, ← hML]; omega
                    obtain ⟨gX, capX, hv, -, -⟩ := hX.wi.row.form (by rw [← hP, hPk]; omega)
                    rw [← hP] at hv
                    subst hv
                    have he2 : N[o]? = some e := by
                      rw [hN, List.getElem?_append_left (by rw [← hML]; omega), he, List.getD_eq_getElem?_getD, List.getElem?_eq_getElem (by rw [← hML]; omega)]; rfl
                    have c1 : wr.cell? ⟨gX, o, none⟩ = some (.int .i64 (e : Nat)) := by
                      have := hX.wi.row.cells (g := gX) rfl o (.int .i64 ((e : Nat) : Int)) (iCells_get _ _ _ he2)
                      rwa [show (⟨gX, 0, none⟩ : Addr).add o = ⟨gX, o, none⟩ from addr_add _ _] at this
                    have c2 := hX.row.cell hfj
                    have hel : e < 256 := by rw [he]; exact getD_lt HF.out.2.2.2.2 _
                    have hfl : f < 256 := by rw [hf]; exact getD_lt HZL.out _
                    have qx := i64_xor_nat e f (by omega) (by omega)
                    obtain ⟨z, hz⟩ : ∃ z, z = e ^^^ f := ⟨_, rfl⟩
                    rw [← hz] at qx
                    have hnx2 : N ++ [z] = L ++ (nextFour n k L).take (j + 1) := by
                      have hq : (nextFour n k L)[j]? = some z := by
                        rw [HDEF.out, List.getElem?_map, List.getElem?_range hjt, HZD.out, hz, he, hf, ho]; rfl
                      rw [hN, List.append_assoc, List.take_add_one, hq]
                      rfl
                    have HNZ := Lib.hid hnx2
                    obtain ⟨m, hm⟩ : ∃ m, m = k - n := ⟨_, rfl⟩
                    have r0 : (k : Int) - (n : Int) = (m : Int) := by omega
                    have r0' : IntKind.i64.wrap (m : Int) = (m : Int) := by rw [IntKind.wrap_i64]; omega
                    have r1 : IntKind.i64.wrap (4 * (m : Int)) = 4 * (m : Int) := by rw [IntKind.wrap_i64]; omega
                    have r2 : 4 * (m : Int) + (j : Int) = (o : Int) := by omega
                    have r2' : IntKind.i64.wrap (o : Int) = (o : Int) := by rw [IntKind.wrap_i64]; omega
                    have r3 : (o : Int) < (P : Int) := by omega
                    have r4 : (j : Int) < 4 := by omega
                    have HXX := Lib.hid hX
                    have HPP := Lib.hid (And.intro hP (And.intro hPk h1))
                    clear ho he hf hfj hN hP hPk he2 hel hfl hz hnx2 hm hX h1 hML
                    go_wp2
                    go_region_law ((refine step_append_lies _ (by rfl) _ _ 70 (by rfl) (w.heap.size + 1) 3 i0 (.int .i64 0) 1 8 Try.underlying70 hi hz0 hz1 hz2 rfl (by decide) _ _ _ (by rfl) (HXX.out.wi.row.alloc (.cells #[.int .i64 (z : Int)] 3)).drew ⟨wr.heap.size, 0, none⟩ 1 1 [Value.int .i64 (z : Int)] (by rfl) (by rfl) (cell_one_new wr (.int .i64 (z : Int)) 3) (by intro u hu; simp at hu; subst hu; rfl) (by decide) (by have := HPP.out; unfold maxLen; omega) (by have := HPP.out; omega) (by have := HXX.out.wi.lt; simp; omega) (wr.heap.size + 1) (by simp) ?_; intro gY capY w3 hown' hgrow hat hlt'; have HX3 := Lib.hid ((HXX.out.next ((Below.refl _ _).alloc (Nat.le_refl _) (.cells #[.int .i64 (z : Int)] 3))).drew.grow hown' hgrow (hat.elim (fun hq => Or.inl hq.symm) (fun hq => Or.inr (by rw [hq]; show some (wr.heap.size + 1) = some ((wr.alloc _).heap.size); rw [alloc_size])))); clear hown' hgrow hat hlt'))
                    all_goals go_wp2
                    all_goals go_roundw
                    all_goals first
                      | exact ⟨j + 1, by omega, by go_num, by rw [← HNZ.out]; exact HX3.out⟩
                      | (simp [intOf]; omega)
                  · obtain rfl : j = 4 := by omega
                    have hW4 : Wi w u6 (wordsTo n (nums key) (k + 1 - n)) wr := by
                      rw [HNX.out]
                      have := hX.wi
                      rwa [List.take_of_length_le (by rw [nextFour_length]; exact Nat.le_refl _)] at this
                    have HW4 := Lib.hid hW4
                    clear hW4 hX h1 hML
                    go_wp2
                    go_roundw
                    case rel => exact ⟨k + 1, by have := HF.out.1; omega, by have := HF.out.1; omega, by go_num, by have h1 := HF.out.1; have hkn : k % n ≠ 0 := by { have := HT0.out; omega }; rw [Nat.add_sub_cancel, div_stay HN.out hkn, ← HF.out.2.1.1], HW4.out⟩
                    case measure => have := HF.out.1; simp [intOf]; omega
              · go_wp2
                clear b1 b2 b3 q3 q4
                go_loopw [6, 11] (fun v i wr => ∃ j : Nat, j ≤ 4 ∧ i = .int .i64 (j : Nat) ∧ Wx w v (L ++ (nextFour n k L).take j) c [a0, a1, a2, a3] wr) (fun _ i _ => 4 - (intOf i).toNat)
                case atStart => exact ⟨0, Nat.zero_le _, rfl, by rw [List.take_zero, List.append_nil]; exact HX2.out⟩
                case round =>
                  obtain ⟨j, hj, rfl, hX⟩ := hrel
                  have h1 := HF.out.1
                  have hML := HF.out.2.2.2.1
                  by_cases hjt : j < 4
                  · obtain ⟨o, ho⟩ : ∃ o, o = 4 * (k - n) + j := ⟨_, rfl⟩
                    obtain ⟨e, he⟩ : ∃ e, e = L.getD o 0 := ⟨_, rfl⟩
                    obtain ⟨f, hf⟩ : ∃ f, f = [a0, a1, a2, a3].getD j 0 := ⟨_, rfl⟩
                    have hfj : [a0, a1, a2, a3][j]? = some f := by rw [hf, List.getD_eq_getElem?_getD, List.getElem?_eq_getElem (show j < [a0, a1, a2, a3].length from hjt)]; rfl
                    obtain ⟨N, hN⟩ : ∃ N, N = L ++ (nextFour n k L).take j := ⟨_, rfl⟩
                    rw [← hN] at hX
                    obtain ⟨P, hP⟩ : ∃ P, P = N.length := ⟨_, rfl⟩
                    have hPk : P = M + j := by rw [hP, hN, List.length_append, List.length_take, nextFour_length, ← hML]; omega
                    obtain ⟨gX, capX, hv, -, -⟩ := hX.wi.row.form (by rw [← hP, hPk]; omega)
                    rw [← hP] at hv
                    subst hv
                    have he2 : N[o]? = some e := by
                      rw [hN, List.getElem?_append_left (by rw [← hML]; omega), he, List.getD_eq_getElem?_getD, List.getElem?_eq_getElem (by rw [← hML]; omega)]; rfl
                    have c1 : wr.cell? ⟨gX, o, none⟩ = some (.int .i64 (e : Nat)) := by
                      have := hX.wi.row.cells (g := gX) rfl o (.int .i64 ((e : Nat) : Int)) (iCells_get _ _ _ he2)
                      rwa [show (⟨gX, 0, none⟩ : Addr).add o = ⟨gX, o, none⟩ from addr_add _ _] at this
                    have c2 := hX.row.cell hfj
                    have hel : e < 256 := by rw [he]; exact getD_lt HF.out.2.2.2.2 _
                    have hfl : f < 256 := by rw [hf]; exact getD_lt HZL.out _
                    have qx := i64_xor_nat e f (by omega) (by omega)
                    obtain ⟨z, hz⟩ : ∃ z, z = e ^^^ f := ⟨_, rfl⟩
                    rw [← hz] at qx
                    have hnx2 : N ++ [z] = L ++ (nextFour n k L).take (j + 1) := by
                      have hq : (nextFour n k L)[j]? = some z := by
                        rw [HDEF.out, List.getElem?_map, List.getElem?_range hjt, HZD.out, hz, he, hf, ho]; rfl
                      rw [hN, List.append_assoc, List.take_add_one, hq]
                      rfl
                    have HNZ := Lib.hid hnx2
                    obtain ⟨m, hm⟩ : ∃ m, m = k - n := ⟨_, rfl⟩
                    have r0 : (k : Int) - (n : Int) = (m : Int) := by omega
                    have r0' : IntKind.i64.wrap (m : Int) = (m : Int) := by rw [IntKind.wrap_i64]; omega
                    have r1 : IntKind.i64.wrap (4 * (m : Int)) = 4 * (m : Int) := by rw [IntKind.wrap_i64]; omega
                    have r2 : 4 * (m : Int) + (j : Int) = (o : Int) := by omega
                    have r2' : IntKind.i64.wrap (o : Int) = (o : Int) := by rw [IntKind.wrap_i64]; omega
                    have r3 : (o : Int) < (P : Int) := by omega
                    have r4 : (j : Int) < 4 := by omega
                    have HXX := Lib.hid hX
                    have HPP := Lib.hid (And.intro hP (And.intro hPk h1))
                    clear ho he hf hfj hN hP hPk he2 hel hfl hz hnx2 hm hX h1 hML
                    go_wp2
                    go_region_law ((refine step_append_lies _ (by rfl) _ _ 70 (by rfl) (w.heap.size + 1) 3 i0 (.int .i64 0) 1 8 Try.underlying70 hi hz0 hz1 hz2 rfl (by decide) _ _ _ (by rfl) (HXX.out.wi.row.alloc (.cells #[.int .i64 (z : Int)] 3)).drew ⟨wr.heap.size, 0, none⟩ 1 1 [Value.int .i64 (z : Int)] (by rfl) (by rfl) (cell_one_new wr (.int .i64 (z : Int)) 3) (by intro u hu; simp at hu; subst hu; rfl) (by decide) (by have := HPP.out; unfold maxLen; omega) (by have := HPP.out; omega) (by have := HXX.out.wi.lt; simp; omega) (wr.heap.size + 1) (by simp) ?_; intro gY capY w3 hown' hgrow hat hlt'; have HX3 := Lib.hid ((HXX.out.next ((Below.refl _ _).alloc (Nat.le_refl _) (.cells #[.int .i64 (z : Int)] 3))).drew.grow hown' hgrow (hat.elim (fun hq => Or.inl hq.symm) (fun hq => Or.inr (by rw [hq]; show some (wr.heap.size + 1) = some ((wr.alloc _).heap.size); rw [alloc_size])))); clear hown' hgrow hat hlt'))
                    all_goals go_wp2
                    all_goals go_roundw
                    all_goals first
                      | exact ⟨j + 1, by omega, by go_num, by rw [← HNZ.out]; exact HX3.out⟩
                      | (simp [intOf]; omega)
                  · obtain rfl : j = 4 := by omega
                    have hW4 : Wi w u6 (wordsTo n (nums key) (k + 1 - n)) wr := by
                      rw [HNX.out]
                      have := hX.wi
                      rwa [List.take_of_length_le (by rw [nextFour_length]; exact Nat.le_refl _)] at this
                    have HW4 := Lib.hid hW4
                    clear hW4 hX h1 hML
                    go_wp2
                    go_roundw
                    case rel => exact ⟨k + 1, by have := HF.out.1; omega, by have := HF.out.1; omega, by go_num, by have h1 := HF.out.1; have hkn : k % n ≠ 0 := by { have := HT0.out; omega }; rw [Nat.add_sub_cancel, div_stay HN.out hkn, ← HF.out.2.1.1], HW4.out⟩
                    case measure => have := HF.out.1; simp [intOf]; omega
        · have g2 : ¬ (k : Int) < 4 * ((n : Int) + 7) := by omega
          have e0 : wordsTo n (nums key) (k - n) = allWords n (nums key) := by unfold allWords; congr 1; omega
          rw [e0] at hW
          have hal : (allWords n (nums key)).length = 16 * (n + 7) := allWords_length n (nums key) (by rw [nums_length]; exact HK.out)
          obtain ⟨gW, cap, hv, hge, hgl⟩ := hW.row.form (by rw [hal]; omega)
          have hfin : ∀ j < 16 * (n + 7), wr.cell? ⟨gW, j, none⟩ = some (.int .i64 (wordAt n (nums key) j : Nat)) := fun j hj => by
            have := hW.row.cells (g := gW) (by rw [hv]; rfl) j (.int .i64 ((wordAt n (nums key) j : Nat) : Int)) (iCells_get _ _ _ (by unfold wordAt; rw [List.getD_eq_getElem?_getD, List.getElem?_eq_getElem (by omega)]; rfl))
            rwa [addr_add] at this
          rw [hal] at hv
          subst hv
          have HFIN := Lib.hid (And.intro hgl (And.intro hfin hW.below))
          clear hW hfin hlt e0 hal hge hgl hk hnk
          go_wp2
          go_ret
          exact ⟨gW, cap, rfl, HFIN.out⟩

end Aes
end Go.Proofs.Ytpjobjpdfhpobaa
