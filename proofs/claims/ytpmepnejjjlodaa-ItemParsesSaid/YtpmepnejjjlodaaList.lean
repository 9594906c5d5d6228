/-
  Contracts of item's parser: list, openList. Conditions: its reader is in order, and items are read as readItem says.
-/
import Derived.Test.YtpmepnejjjlodaaKind
namespace Go.Proofs.Ytpmepnejjjlodaa
open Go.ChangeShapes Go.WideShapes Go.ChangeAt Go.RowKit
open Plain
set_option linter.unusedVariables false

/-- What holds behind the reading of an item. -/
def AfterI (w' : World) (s : ByteArray) (b p : Nat) (x : It) : Res It → Prop
  | .ok y u => x = y ∧ Rd w' b s (p + u) 0 ∧ p + u ≤ s.size
  | .err a c => Rd w' b s (p + a) c ∧ c ≠ 0 ∧ p + a ≤ s.size

/-- The contract of item: d levels may follow. -/
def ItemPost (d : Nat) (s : ByteArray) (b p : Nat) (w : World) (e : Ending) (w' : World) : Prop :=
  ∃ x v, e = .returned v ∧ LiesIn w' (News w w') x v ∧ Only b w w' ∧ AfterI w' s b p x (readItem d (s.data.toList.drop p))

/-- What holds behind the reading of a list. -/
def AfterL (w' : World) (s : ByteArray) (b p : Nat) (l : List It) : Res (List It) → Prop
  | .ok y u => l = y ∧ Rd w' b s (p + u) 0 ∧ p + u ≤ s.size
  | .err a c => Rd w' b s (p + a) c ∧ c ≠ 0 ∧ p + a ≤ s.size

def ListPost (R : Res (List It)) (s : ByteArray) (b p : Nat) (w : World) (e : Ending) (w' : World) : Prop :=
  ∃ l v, e = .returned v ∧ Making w l v w' ∧ l.length ≤ 1000 ∧ Only b w w' ∧ AfterL w' s b p (l.map (·.1)) R

/-- What was read before goes ahead. -/
def shiftL (xs : List It) (u : Nat) : Res (List It) → Res (List It)
  | .ok ys v => .ok (xs ++ ys) (u + v)
  | .err a c => .err (u + a) c

theorem many_step (f : List UInt8 → Res It) (xs : List It) (u m : Nat) (t : List UInt8) : shiftL xs u (readMany f (m + 1) t) =
    match f t with
    | .err a c => .err (u + a) c
    | .ok x v => shiftL (xs ++ [x]) (u + v) (readMany f m (t.drop v)) := by
  simp only [readMany]
  cases f t with
  | err a c => rfl
  | ok x v =>
    simp only []
    cases readMany f m (t.drop v) with
    | err a c => simp [shiftL, Nat.add_assoc]
    | ok ys k => simp [shiftL, Nat.add_assoc]

theorem open_step (f : List UInt8 → Res It) (xs : List It) (u m : Nat) (t : List UInt8) (hb : isBreak t = false) : shiftL xs u (readOpen f (m + 1) t) =
    match f t with
    | .err a c => .err (u + a) c
    | .ok x v => shiftL (xs ++ [x]) (u + v) (readOpen f m (t.drop v)) := by
  simp only [readOpen, hb, Bool.false_eq_true, if_false]
  cases f t with
  | err a c => rfl
  | ok x v =>
    simp only []
    cases readOpen f m (t.drop v) with
    | err a c => simp [shiftL, Nat.add_assoc]
    | ok ys k => simp [shiftL, Nat.add_assoc]

/-- Where a list in the making stands: G m t: what is still to be read. -/
def Stand (wr : World) (s : ByteArray) (b p n : Nat) (G : Nat → List UInt8 → Res (List It)) (R : Res (List It)) (xs : List It) : Prop :=
  (∃ u, Rd wr b s (p + u) 0 ∧ p + u ≤ s.size ∧ R = shiftL xs u (G (n - xs.length) (s.data.toList.drop (p + u)))) ∨ (∃ a c, Rd wr b s (p + a) c ∧ c ≠ 0 ∧ p + a ≤ s.size ∧ R = .err a c)

def lenV : Value → Nat
  | .slice _ n _ => n
  | _ => 0

theorem Making.form {w : World} {l : List (It × Value)} {v : Value} {wr : World} (h : Making w l v wr) : ∃ A cap, v = .slice A l.length cap := by
  rcases h.row.2 with ⟨rfl, h0⟩ | ⟨g, cap, cur, rfl, _⟩
  · exact ⟨none, 0, by rw [h0]⟩
  · exact ⟨_, _, rfl⟩

theorem Making.next {w : World} {l : List (It × Value)} {v : Value} {wr w' : World} (h : Making w l v wr) (hb : Below wr.heap.size wr w') : Making w l v w' := by
  refine ⟨h.row.kept (grown_below hb) ?_, fun p hp => (h.each p hp).keep ?_⟩
  · rcases hv : v.ownBlock with _ | k
    · exact .inl rfl
    · right; simp
  · rintro k ⟨⟨h1, h2⟩, h3⟩
    exact ⟨hb.block k h2, ⟨h1, Nat.lt_of_lt_of_le h2 hb.size⟩, h3⟩

/-- One item more. -/
theorem Making.push {w W w2 w4 : World} {b : Nat} {l : List (It × Value)} {v : Value} {x : It} {sl : Value} {o : Obj} {g cap : Nat} (h : Making w l v W) (hw : w.heap.size ≤ W.heap.size) (ho : Only b W w2) (hb : b < w.heap.size)
    (hx : LiesIn w2 (News W w2) x (itV x sl)) (hrow : w4.ownsRow w.heap.size 25 5 (.slice (some ⟨g, 0, none⟩) (l.length + 1) cap) (l.length + 1) (rowCells l ++ [.int .i64 x.kind, .int .u64 x.n, .string x.s, sl, .bool x.opn]))
    (hg : (w2.alloc o).grownBy w4 v.ownBlock) (hat : v.ownBlock = some g ∨ g = w2.heap.size + 1) (hlt : g < w4.heap.size) : Making w (l ++ [(x, sl)]) (.slice (some ⟨g, 0, none⟩) (l.length + 1) cap) w4 := by
  have h2 := h.only ho hb
  have hsz : w2.heap.size + 1 ≤ w4.heap.size := by have := hg.size; simp at this; omega
  have keep : ∀ k, k < w2.heap.size → v.ownBlock ≠ some k → w4.heap[k]? = w2.heap[k]? ∧ Value.ownBlock (.slice (some ⟨g, 0, none⟩) (l.length + 1) cap) ≠ some k := by
    intro k hk hne
    refine ⟨?_, ?_⟩
    · rw [hg.block k (by simp; omega) (fun e => hne e.symm), Below.heap_alloc _ _ _ hk]
    · intro e
      simp only [Value.ownBlock, Option.some.injEq] at e
      subst e
      rcases hat with h' | h'
      · exact hne h'
      · omega
  refine ⟨?_, ?_⟩
  · have e1 : (l ++ [(x, sl)]).length = l.length + 1 := by simp
    rw [e1, rowCells_append]
    exact hrow
  · intro p hp
    rcases List.mem_append.1 hp with hp | hp
    · refine (h2.each p hp).keep ?_
      rintro k ⟨⟨k1, k2⟩, k3⟩
      obtain ⟨a1, a2⟩ := keep k k2 k3
      exact ⟨a1, ⟨k1, by omega⟩, a2⟩
    · simp only [List.mem_singleton] at hp
      subst hp
      refine hx.keep ?_
      rintro k ⟨k1, k2⟩
      have k3 : v.ownBlock ≠ some k := by
        intro e
        have := (h.row.lt k e).2
        omega
      obtain ⟨a1, a2⟩ := keep k k2 k3
      exact ⟨a1, ⟨by omega, by omega⟩, a2⟩

theorem Making.base {w W : World} {l : List (It × Value)} {v : Value} {wr : World} (h : Making W l v wr) (hle : w.heap.size ≤ W.heap.size) : Making w l v wr := by
  refine ⟨⟨h.row.1, ?_⟩, fun p hp => (h.each p hp).keep fun k hk => ⟨rfl, ⟨Nat.le_trans hle hk.1.1, hk.1.2⟩, hk.2⟩⟩
  rcases h.row.2 with h0 | ⟨g, cap, cur, hv, hb, r⟩
  · exact .inl h0
  · exact .inr ⟨g, cap, cur, hv, Nat.le_trans hle hb, r⟩

theorem LiesIn.slice {w : World} {Q : Nat → Prop} {x : It} {v : Value} (h : LiesIn w Q x v) : ∃ A cap, v = itV x (.slice A x.l.length cap) := by
  cases h with
  | mk x A cap sl hf he hr => exact ⟨A, cap, rfl⟩

theorem Only.grow {b : Nat} {w w3 w4 : World} {row : Option Nat} (h : Only b w w3) (hg : w3.grownBy w4 row) (hrow : ∀ k, row = some k → w.heap.size ≤ k) : Only b w w4 :=
  ⟨hg.os.trans h.os, hg.tape.trans h.tape, hg.output.trans h.output, Nat.le_trans h.size hg.size, fun i hi hne => (hg.block i (Nat.lt_of_lt_of_le hi h.size) (fun e => by have := hrow i e.symm; omega)).trans (h.block i hi hne)⟩

/-- A list in the making, behind the parser's box. -/
structure LoopI (w : World) (s : ByteArray) (b p n : Nat) (G : Nat → List UInt8 → Res (List It)) (R : Res (List It)) (l : List (It × Value)) (v : Value) (wr : World) : Prop where
  making : Making (w.alloc (pBox s b)) l v wr
  len : l.length ≤ n
  box : PBox w s b wr
  stand : Stand wr s b p n G R (l.map (·.1))

theorem LoopI.row_ge {w : World} {s : ByteArray} {b p n : Nat} {G : Nat → List UInt8 → Res (List It)} {R : Res (List It)} {l : List (It × Value)} {v : Value} {wr : World} (h : LoopI w s b p n G R l v wr) :
    ∀ k, v.ownBlock = some k → w.heap.size + 1 ≤ k := fun k hk => by
  have := (h.making.row.lt k hk).1
  simpa using this

theorem fits25 {x : It} {sl : Value} (A : Option Addr) (m cap : Nat) (h : sl = .slice A m cap) : ∀ u ∈ [Value.int .i64 x.kind, .int .u64 x.n, .string x.s, sl, .bool x.opn], u.oneCell' = true := by
  subst h
  intro u hu
  simp only [List.mem_cons, List.not_mem_nil, or_false] at hu
  rcases hu with rfl | rfl | rfl | rfl | rfl <;> rfl

theorem news25 {w : World} {c0 c1 c2 c3 c4 : Value} {W : World} (h : W.heap[w.heap.size]? = some (.cells #[c0, c1, c2, c3, c4] 25 (0, 0))) : ∀ (j : Nat) (u : Value), [c0, c1, c2, c3, c4][j]? = some u → W.cell? ((⟨w.heap.size, 0, none⟩ : Addr).add j) = some u := by
  intro j u hj
  rw [addr_add, cell_of_row W w.heap.size j _ _ _ h]
  simpa using hj

/-- The step that every round takes: an item is read and appended. -/
theorem LoopI.push {w wr w1 w2 w4 : World} {s : ByteArray} {b p n d u : Nat} {G : Nat → List UInt8 → Res (List It)} {R : Res (List It)} {l : List (It × Value)} {v : Value} {x : It} {sl : Value} {o : Obj} {g cap : Nat}
    (hstep : R = match readItem d (s.data.toList.drop (p + u)) with | .err a c => .err (u + a) c | .ok x k => shiftL (l.map (·.1) ++ [x]) (u + k) (G (n - (l.length + 1)) ((s.data.toList.drop (p + u)).drop k)))
    (h : LoopI w s b p n G R l v wr) (hlt : l.length < n) (hb : b < w.heap.size) (h1 : Below wr.heap.size wr w1) (ho : Only b w1 w2) (hx : LiesIn w2 (News w1 w2) x (itV x sl))
    (haft : AfterI w2 s b (p + u) x (readItem d (s.data.toList.drop (p + u))))
    (hrow : w4.ownsRow (w.heap.size + 1) 25 5 (.slice (some ⟨g, 0, none⟩) (l.length + 1) cap) (l.length + 1) (rowCells l ++ [.int .i64 x.kind, .int .u64 x.n, .string x.s, sl, .bool x.opn]))
    (hg : (w2.alloc o).grownBy w4 v.ownBlock) (hat : v.ownBlock = some g ∨ g = w2.heap.size + 1) (hgl : g < w4.heap.size) : LoopI w s b p n G R (l ++ [(x, sl)]) (.slice (some ⟨g, 0, none⟩) (l.length + 1) cap) w4 := by
  have hge := h.row_ge
  have hbx1 := h.box.next h1
  have hbx2 := hbx1.step hb ho
  have hsz : w.heap.size + 1 ≤ w1.heap.size := hbx1.lt
  have hkeep : ∀ k, k < w2.heap.size → k < w.heap.size + 1 → w4.heap[k]? = w2.heap[k]? := by
    intro k hk hk2
    rw [hg.block k (by simp; omega) (fun e => by have := hge k e.symm; omega), Below.heap_alloc _ _ _ hk]
  have hrd : ∀ q c, Rd w2 b s q c → Rd w4 b s q c := fun q c hq => (hkeep b hq.lt (by omega)).trans hq
  refine ⟨?_, by simp; omega, ⟨?_, ?_⟩, ?_⟩
  · exact (h.making.next h1).push (by simpa using hsz) ho (by simp; omega) hx (by simpa using hrow) hg hat hgl
  · rw [hkeep _ hbx2.lt (by omega)]
    exact hbx2.box
  · exact (hbx2.only.alloc o).grow hg (fun k hk => by have := hge k hk; omega)
  · unfold AfterI at haft
    have hmap : (l ++ [(x, sl)]).map (·.1) = l.map (·.1) ++ [x] := by simp
    rw [hmap]
    cases hr : readItem d (s.data.toList.drop (p + u)) with
    | err a c =>
      rw [hr] at haft hstep
      simp only [] at haft hstep
      refine .inr ⟨u + a, c, ?_, haft.2.1, by omega, hstep⟩
      rw [← Nat.add_assoc]
      exact hrd _ _ haft.1
    | ok y k =>
      rw [hr] at haft hstep
      simp only [] at haft hstep
      obtain ⟨rfl, hrdk, hle⟩ := haft
      refine .inl ⟨u + k, ?_, by omega, ?_⟩
      · rw [← Nat.add_assoc]
        exact hrd _ _ hrdk
      · rw [hstep, List.drop_drop]
        simp only [List.length_append, List.length_map, List.length_cons, List.length_nil]
        rw [Nat.add_assoc]

set_option maxHeartbeats 2000000 in
set_option maxRecDepth 100000 in
/-- list: so many items. -/
theorem list_any (d L n : Nat) (s : ByteArray) (b : Nat) (hL : L ≤ 10) (hn : n ≤ 1000)
    (ih : ∀ (w : World) (p : Nat), Ok w b s p 0 → Calls Try.prog 28 #[pV s b, .int .i64 L] w (ItemPost d s b p w))
    (w : World) (p : Nat) (h : Ok w b s p 0) :
    Calls Try.prog 60 #[pV s b, .int .i64 n, .int .i64 L] w (ListPost (readMany (readItem d) n (s.data.toList.drop p)) s b p w) := by
  obtain ⟨i0, hi, hz0, hz1, hz2⟩ := info_parts Try.infoItem
  have hfit := h.fits
  have hrd := h.rd
  have hwi := h.within
  have hblt := hrd.lt
  generalize hR : readMany (readItem d) n (s.data.toList.drop p) = R
  have hstart : LoopI w s b p n (readMany (readItem d)) R [] (.slice none 0 0) (w.alloc (pBox s b)) := by
    refine ⟨Making.nil _ _, Nat.zero_le _, PBox.new w s b, .inl ⟨0, ?_, hwi, ?_⟩⟩
    · exact hrd.alloc _
    · rw [← hR]
      simp only [List.map_nil, List.length_nil, Nat.sub_zero, Nat.add_zero]
      cases readMany (readItem d) n (s.data.toList.drop p) with
      | ok y k => simp [shiftL]
      | err a c => simp [shiftL]
  have HSTART := Lib.hid hstart; clear hstart
  have HR := Lib.hid hR; clear hR
  have IH := Lib.hid ih; clear ih
  have HF := Lib.hid (And.intro hfit hwi); clear hfit hwi hrd h
  have hnI : (n : Int) ≤ 1000 := by omega
  have hLI : (L : Int) ≤ 10 := by omega
  simp only [pV] at *
  go_enter Try.func60, Try.ntmps60
  go_wp2
  go_loopw [7] (fun v wr => ∃ l, LoopI w s b p n (readMany (readItem d)) R l v wr) (fun v _ => n - lenV v)
  case atStart => exact ⟨[], HSTART.out⟩
  case round =>
    obtain ⟨l, hloop⟩ := hrel
    obtain ⟨A, cap, rfl⟩ := hloop.making.form
    have c0 := hloop.box.c0
    have c1 := hloop.box.c1
    have hln := hloop.len
    have hlI : (l.length : Int) ≤ 1000 := by omega
    have HLOOP := Lib.hid hloop; clear hloop
    by_cases hlt : l.length < n
    · rcases HLOOP.out.stand with ⟨u, hrd, hpu, hRu⟩ | ⟨a, c, hrd, hc, hpa, hRa⟩
      · have hfine := fine_any hrd
        have HFINE := Lib.hid hfine; clear hfine
        have HRD := Lib.hid hrd; clear hrd
        have HRU := Lib.hid hRu; clear hRu
        simp only [pV, decide_true] at HFINE
        go_wp2_with fail
        refine HFINE.out.mono ?_
        rintro e w1 ⟨rfl, hb1⟩
        have hbx1 := HLOOP.out.box.next hb1
        clear c0 c1
        have c0 := hbx1.c0
        have c1 := hbx1.c1
        have hrd1 := HRD.out.below hb1
        have hmk1 := HLOOP.out.making.next hb1
        have HB1 := Lib.hid hb1; clear hb1
        have HBX1 := Lib.hid hbx1; clear hbx1
        have HRD1 := Lib.hid hrd1; clear hrd1
        have HMK1 := Lib.hid hmk1; clear hmk1
        go_wp2_with fail
        refine (IH.out _ (p + u) ⟨HRD1.out, HF.out.1, hpu⟩).mono ?_
        rintro e w2 ⟨x, v2, rfl, hx, ho, haft⟩
        obtain ⟨A2, cap2, rfl⟩ := hx.slice
        clear c0 c1
        have hrow2 := (HMK1.out.only ho (by simp; omega)).row
        have hsz2 : w.heap.size + 1 ≤ w2.heap.size := Nat.le_trans HBX1.out.lt ho.size
        have HX := Lib.hid hx; clear hx
        have HO := Lib.hid ho; clear ho
        have HAFT := Lib.hid haft; clear haft
        simp only [itV]
        go_wp2_with (at_builtin; refine wpList_append_lies _ rfl _ _ 23 rfl (w.heap.size + 1) 25 i0 _ 5 64 Try.underlying23 hi hz0 hz1 hz2 rfl (by decide) (.slice A l.length cap) l.length (rowCells l) rfl ?o1 ⟨w2.heap.size, 0, none⟩ 1 1 [.int .i64 x.kind, .int .u64 x.n, .string x.s, .slice A2 x.l.length cap2, .bool x.opn] rfl rfl ?o2 ?o3 (by omega) ?o4 ?o5 ?o6 (w2.heap.size + 1) ?o7 ?_)
        case o1 => simpa using hrow2.alloc _
        case o2 => exact news25 (heap_alloc_new w2 _)
        case o3 => exact fits25 A2 _ cap2 rfl
        case o4 => unfold maxLen; omega
        case o5 => omega
        case o6 => simp; omega
        case o7 => simp
        intro g cap4 w4 hown4 hgrow hat hgl
        have hstep : R = match readItem d (s.data.toList.drop (p + u)) with | .err a c => .err (u + a) c | .ok x k => shiftL (l.map (·.1) ++ [x]) (u + k) (readMany (readItem d) (n - (l.length + 1)) ((s.data.toList.drop (p + u)).drop k)) := by
          rw [HRU.out, List.length_map, show n - l.length = (n - (l.length + 1)) + 1 by omega, many_step]
        have hpush := LoopI.push hstep HLOOP.out hlt hblt HB1.out HO.out HX.out HAFT.out hown4 hgrow hat hgl
        have HPUSH := Lib.hid hpush; clear hpush hstep hown4 hgrow hat hgl hrow2
        go_wp2
        go_roundw
        case rel => exact ⟨_, HPUSH.out⟩
        case measure => simp [lenV]; omega
      · have hfine := fine_any hrd
        have hcd : decide (c = 0) = false := by simpa using hc
        rw [hcd] at hfine
        have HFINE := Lib.hid hfine; clear hfine
        have HRD := Lib.hid hrd; clear hrd
        have HRA := Lib.hid hRa; clear hRa
        simp only [pV] at HFINE
        go_wp2_with fail
        refine HFINE.out.mono ?_
        rintro e w1 ⟨rfl, hb1⟩
        have HB1 := Lib.hid hb1; clear hb1
        go_wp2
        go_ret
        refine ⟨l, _, rfl, (HLOOP.out.making.next HB1.out).base (by simp), by omega, (HLOOP.out.box.next HB1.out).only, ?_⟩
        rw [HRA.out]
        exact ⟨HRD.out.below HB1.out, hc, hpa⟩
    · have hle : ¬ (l.length : Int) < (n : Int) := by omega
      go_wp2
      go_ret
      refine ⟨l, _, rfl, HLOOP.out.making.base (by simp), by omega, HLOOP.out.box.only, ?_⟩
      rcases HLOOP.out.stand with ⟨u, hrd, hpu, hRu⟩ | ⟨a, c, hrd, hc, hpa, hRa⟩
      · rw [hRu, List.length_map, show n - l.length = 0 by omega]
        simp only [readMany, shiftL, AfterL, List.append_nil, Nat.add_zero]
        exact ⟨trivial, hrd, hpu⟩
      · rw [hRa]
        exact ⟨hrd, hc, hpa⟩

end Go.Proofs.Ytpmepnejjjlodaa
