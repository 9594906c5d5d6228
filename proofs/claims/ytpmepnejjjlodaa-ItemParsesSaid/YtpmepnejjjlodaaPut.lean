/-
  Contracts of item.write, writeArray and Build. Conditions: the item lies in memory, and its bytes are at most 70000.
-/
import Derived.Test.YtpmepnejjjlodaaBytes
import Derived.Test.YtpmepnejjjlodaaValid
import Derived.Test.YtpmepnejjjlodaaBuilder
namespace Go.Proofs.Ytpmepnejjjlodaa
open Go.ChangeShapes Go.WideShapes Go.ChangeAt Go.RowKit
open Plain
set_option linter.unusedVariables false

theorem strCells_bytes (l : List UInt8) : Lib.strCells ⟨l.toArray⟩ = Lib.byteCells l := rfl

theorem byteCells_append (a b : List UInt8) : Lib.byteCells (a ++ b) = Lib.byteCells a ++ Lib.byteCells b := by simp [Lib.byteCells]

theorem grown_below {w w' : World} (h : Below w.heap.size w w') : w.grownBy w' none := ⟨h.os, h.tape, h.output, h.size, fun k hk _ => h.block k hk⟩

/-- The builder's state: used or fresh, with these bytes; all else stands as it stood. -/
structure Put (B b : Nat) (l : List UInt8) (w0 w : World) : Prop where
  at_ : Lib.IsBuilderF 49 5 B b (Lib.byteCells l) w
  below : Below B w0 w
  kept : Lib.OthersKept 5 (some b) w0 w

theorem othersKept_below {e : TypeId} {b : Option Nat} {w w' : World} (h : Below w.heap.size w w') : Lib.OthersKept e b w w' := by
  intro k o hk h1 h2
  have hlt : k < w.heap.size := by
    rcases Nat.lt_or_ge k w.heap.size with h' | h'
    · exact h'
    · simp [Array.getElem?_eq_none h'] at hk
  rw [h.block k hlt]
  exact hk

theorem builderAt_below {B b : Nat} {p : Value} {bs : List Value} {w w' : World} (h : Lib.BuilderAtF 49 5 B b p bs w) (hb : Below w.heap.size w w') : Lib.BuilderAtF 49 5 B b p bs w' := by
  have hlt := h.lt
  obtain ⟨hB, v, hbk, hown, hne⟩ := h
  exact ⟨hB, v, (hb.block b hlt).trans hbk, hown.kept (grown_below hb) (by
    rcases hv : v.ownBlock with _ | k
    · exact .inl rfl
    · exact .inr (by simp)), hne⟩

theorem isBuilder_below {B b : Nat} {bs : List Value} {w w' : World} (h : Lib.IsBuilderF 49 5 B b bs w) (hb : Below w.heap.size w w') : Lib.IsBuilderF 49 5 B b bs w' := by
  rcases h with h | h
  · exact .inl (builderAt_below h hb)
  · exact .inr (builderAt_below h hb)

theorem Put.next {B b : Nat} {l : List UInt8} {w0 w w' : World} (h : Put B b l w0 w) (hb : Below w.heap.size w w') (hB : B ≤ w.heap.size) : Put B b l w0 w' :=
  ⟨isBuilder_below h.at_ hb, h.below.trans (hb.mono hB), h.kept.trans (othersKept_below hb)⟩

theorem Put.size {B b : Nat} {l : List UInt8} {w0 w : World} (h : Put B b l w0 w) : B ≤ w.heap.size := by
  rcases h.at_ with h | h
  · exact Nat.le_of_lt (Nat.lt_of_le_of_lt h.1 h.lt)
  · exact Nat.le_of_lt (Nat.lt_of_le_of_lt h.1 h.lt)

theorem put_string {B b : Nat} {l k : List UInt8} {w0 w : World} (h : Put B b l w0 w) (hlen : l.length + k.length ≤ 140737488355328) :
    Calls Try.prog 35 #[.pointer (some ⟨b, 0, none⟩), .string ⟨k.toArray⟩] w fun e w' => e = .returned (.tuple #[.int .i64 k.length, .nilIface]) ∧ Put B b (l ++ k) w0 w' := by
  have hs : (⟨k.toArray⟩ : ByteArray).size = k.length := by show k.toArray.size = k.length; simp
  refine (writeString_any B b (Lib.byteCells l) ⟨k.toArray⟩ w h.at_ (by rw [Lib.byteCells_length, hs]; exact hlen) h.size).mono ?_
  rintro e w' ⟨rfl, h1, h2, h3⟩
  refine ⟨by rw [hs], ⟨?_, h.below.trans h2, h.kept.trans h3⟩⟩
  rw [byteCells_append, ← strCells_bytes k]
  exact .inr h1

theorem Put.lt {B b : Nat} {l : List UInt8} {w0 w : World} (h : Put B b l w0 w) : b < w.heap.size := by
  rcases h.at_ with h | h
  · exact h.lt
  · exact h.lt

theorem Put.trans {B b : Nat} {l l' : List UInt8} {w0 w w' : World} (h : Put B b l w0 w) (h' : Put B b l' w w') : Put B b l' w0 w' :=
  ⟨h'.at_, h.below.trans h'.below, h.kept.trans h'.kept⟩

theorem Put.here {B b : Nat} {l : List UInt8} {w0 w : World} (h : Put B b l w0 w) : Put B b l w w := ⟨h.at_, Below.refl _ _, Lib.OthersKept.refl _ _ _⟩

/-- The same behind a box. -/
structure PutBox (B b : Nat) (l : List UInt8) (w : World) (x : It) (sl : Value) (wr : World) : Prop where
  put : Put B b l w wr
  box : wr.heap[w.heap.size]? = some (boxOf x sl)
  lt : b < w.heap.size

section
variable {B b : Nat} {l l' : List UInt8} {w wr w' : World} {x : It} {sl : Value}
theorem PutBox.new (h : Put B b l w w) (x : It) (sl : Value) : PutBox B b l w x sl (w.alloc (boxOf x sl)) :=
  ⟨h.next ((Below.refl _ _).alloc (Nat.le_refl _) _) h.size, heap_alloc_new w _, h.lt⟩
theorem PutBox.blt (h : PutBox B b l w x sl wr) : w.heap.size < wr.heap.size := by
  rcases Nat.lt_or_ge w.heap.size wr.heap.size with h1 | h1
  · exact h1
  · have := h.box
    rw [Array.getElem?_eq_none h1] at this
    cases this
theorem PutBox.step (h : PutBox B b l w x sl wr) (h' : Put B b l' wr w') : PutBox B b l' w x sl w' :=
  ⟨h.put.trans h', h'.kept _ _ h.box (by have := h.lt; intro e; simp at e; omega) (by intro c fz; simp [boxOf]), h.lt⟩
theorem PutBox.next (h : PutBox B b l w x sl wr) (hb : Below wr.heap.size wr w') : PutBox B b l w x sl w' :=
  ⟨h.put.next hb h.put.size, (hb.block _ h.blt).trans h.box, h.lt⟩
theorem PutBox.c0 (h : PutBox B b l w x sl wr) : wr.cell? ⟨w.heap.size, 0, none⟩ = some (.int .i64 x.kind) := cell_of_row wr _ 0 _ _ _ h.box
theorem PutBox.c1 (h : PutBox B b l w x sl wr) : wr.cell? ⟨w.heap.size, 1, none⟩ = some (.int .u64 x.n) := cell_of_row wr _ 1 _ _ _ h.box
theorem PutBox.c2 (h : PutBox B b l w x sl wr) : wr.cell? ⟨w.heap.size, 2, none⟩ = some (.string x.s) := cell_of_row wr _ 2 _ _ _ h.box
theorem PutBox.c3 (h : PutBox B b l w x sl wr) : wr.cell? ⟨w.heap.size, 3, none⟩ = some sl := cell_of_row wr _ 3 _ _ _ h.box
theorem PutBox.c4 (h : PutBox B b l w x sl wr) : wr.cell? ⟨w.heap.size, 4, none⟩ = some (.bool x.opn) := cell_of_row wr _ 4 _ _ _ h.box
end

theorem open4 : openOf 4 = [159] := by decide
theorem open7 : openOf 7 = [255] := by decide

/-- What an array begins with. -/
def preOf (len : Nat) (o : Bool) : List UInt8 := if o then [159] else headOf 4 len

theorem preOf_len (len : Nat) (o : Bool) : (preOf len o).length ≤ 9 := by
  cases o
  · exact headOf_len 4 len
  · simp [preOf]

set_option maxHeartbeats 2000000 in
set_option maxRecDepth 100000 in
theorem writeArray_any (s : ByteArray) (l : List It) (o : Bool) (hlen : l.length ≤ 1000) (hp : plainL l = true)
    (ih : ∀ x ∈ l, ∀ (w : World) (B b : Nat) (k : List UInt8) (v : Value), Put B b k w w → Lies w B x v → plainB x = true → k.length + (bytesOf x).length ≤ 70000 →
      Calls Try.prog 23 #[.pointer (some ⟨b, 0, none⟩), v] w fun e w' => e = .returned (.tuple #[]) ∧ Put B b (k ++ bytesOf x) w w')
    (w : World) (B b : Nat) (k : List UInt8) (A : Option Addr) (cap : Nat) (hput : Put B b k w w) (hN : k.length + ((preOf l.length o).length + (bytesL l).length + (if o then 1 else 0)) ≤ 70000)
    (he : ∀ i y, l[i]? = some y → ∃ b off sl, A = some ⟨b, off, none⟩ ∧ b < B ∧ At5 w b (off + i * 5) y sl ∧ Lies w B y (itV y sl)) :
    Calls Try.prog 39 #[.pointer (some ⟨b, 0, none⟩), .agg #[.int .i64 4, .int .u64 0, .string s, .slice A l.length cap, .bool o]] w fun e w' => e = .returned (.tuple #[]) ∧ Put B b (k ++ preOf l.length o ++ bytesL l ++ (if o then [255] else [])) w w' := by
  have IH := Lib.hid ih; clear ih
  have HE := Lib.hid he; clear he
  have hlI : (l.length : Int) ≤ 1000 := by omega
  have hprel := preOf_len l.length o
  have HP := Lib.hid hp; clear hp
  have HLEN := Lib.hid hlen; clear hlen
  have HNN := Lib.hid hN; clear hN
  have HPUT := Lib.hid hput; clear hput
  cases o
  · have hhead := fun W => head_any 4 l.length W (by have := HLEN.out; omega)
    have HH := Lib.hid hhead; clear hhead
    have hpre : preOf l.length false = headOf (typeOf 4) l.length := rfl
    rw [← hpre] at HH
    clear hpre
    generalize preOf l.length false = pre at *
    have HPREL := Lib.hid hprel; clear hprel
    simp only [Bool.false_eq_true, if_false, List.append_nil]
    go_enter Try.func39, Try.ntmps39
    go_wp2_with fail
    refine (HH.out _).mono ?_
    rintro e w1 ⟨rfl, hb1⟩
    have hbx := (PutBox.new HPUT.out (.mk 4 0 s l false) (.slice A l.length cap)).next hb1
    have HB1 := Lib.hid hbx; clear hbx hb1
    go_wp2_with fail
    refine (put_string HB1.out.put.here (by have hnn := HNN.out; simp only [Bool.false_eq_true, if_false] at hnn; omega)).mono ?_
    rintro e w2 ⟨rfl, hput2⟩
    have hbx := HB1.out.step hput2
    have c3 := hbx.c3
    have HB2 := Lib.hid hbx; clear hbx hput2
    go_wp2
    go_loopw [21] (fun i wr => ∃ j : Nat, j ≤ l.length ∧ i = .int .i64 j ∧ PutBox B b (k ++ pre ++ bytesL (l.take j)) w (.mk 4 0 s l false) (.slice A l.length cap) wr) (fun i _ => l.length - (intOf i).toNat)
    case atStart => exact ⟨0, Nat.zero_le _, rfl, by simpa [bytesL] using HB2.out⟩
    case round =>
      obtain ⟨j, hj, rfl, hbx⟩ := hrel
      have htake := bytesL_take l j
      by_cases hlt : j < l.length
      · obtain ⟨b', off, sl, rfl, hb, h5, hy⟩ := HE.out j _ (List.getElem?_eq_getElem hlt)
        obtain ⟨A', cap', rfl⟩ := hy.slice
        have hnext : bytesL (l.take (j + 1)) = bytesL (l.take j) ++ bytesOf l[j] := by
          rw [take_next (List.getElem?_eq_getElem hlt), bytesL_append]
          simp [bytesL]
        have htake2 := bytesL_take l (j + 1)
        rw [hnext, List.length_append] at htake2
        have hyl : (k ++ pre ++ bytesL (l.take j)).length + (bytesOf l[j]).length ≤ 70000 := by have hnn := HNN.out; simp only [Bool.false_eq_true, if_false] at hnn; simp only [List.length_append]; omega
        have hcall := fun W (h : PutBox B b (k ++ pre ++ bytesL (l.take j)) w (.mk 4 0 s l false) (.slice (some ⟨b', off, none⟩) l.length cap) W) => IH.out l[j] (List.getElem_mem hlt) W B b _ _ h.put.here (hy.keep h.put.below) (plainL_mem (List.getElem_mem hlt) HP.out) hyl
        have a5 := h5.below hbx.put.below hb
        have l0 := a5.c0
        have l1 := a5.c1
        have l2 := a5.c2
        have l3 := a5.c3
        have l4 := a5.c4
        generalize l[j] = y at *
        rw [List.append_assoc (k ++ pre), ← hnext] at hcall
        have HT := Lib.hid (And.intro htake (And.intro htake2 (And.intro hyl hnext))); clear htake htake2 hyl hnext
        have HC2 := Lib.hid hcall; clear hcall
        have HB := Lib.hid hbx; clear hbx
        simp only [itV] at HC2
        clear a5 h5 hy
        go_wp2_with fail
        refine (HC2.out _ (HB.out.next ((Below.refl _ _).alloc (Nat.le_refl _) _))).mono ?_
        rintro e w' ⟨rfl, hb'⟩
        have hfin := (HB.out.next ((Below.refl _ _).alloc (Nat.le_refl _) _)).step hb'
        have HFIN := Lib.hid hfin; clear hfin hb'
        go_wp2
        go_roundw
        case rel => exact ⟨j + 1, by omega, by go_num, HFIN.out⟩
        case measure => simp [intOf]; omega
      · obtain rfl : j = l.length := by omega
        rw [List.take_length] at hbx
        have c4 := hbx.c4
        simp only [It.opn] at c4
        have HB := Lib.hid hbx; clear hbx
        go_wp2
        go_end0
        exact ⟨rfl, HB.out.put⟩
  · have hhead := fun W => open_any 4 W
    rw [open4] at hhead
    have HH := Lib.hid hhead; clear hhead
    have hpre : preOf l.length true = [159] := rfl
    rw [← hpre] at HH
    clear hpre
    generalize preOf l.length true = pre at *
    have HPREL := Lib.hid hprel; clear hprel
    simp only [if_true]
    go_enter Try.func39, Try.ntmps39
    go_wp2_with fail
    refine (HH.out _).mono ?_
    rintro e w1 ⟨rfl, hb1⟩
    have hbx := (PutBox.new HPUT.out (.mk 4 0 s l true) (.slice A l.length cap)).next hb1
    have HB1 := Lib.hid hbx; clear hbx hb1
    go_wp2_with fail
    refine (put_string HB1.out.put.here (by have hnn := HNN.out; simp only [if_true] at hnn; omega)).mono ?_
    rintro e w2 ⟨rfl, hput2⟩
    have hbx := HB1.out.step hput2
    have c3 := hbx.c3
    have HB2 := Lib.hid hbx; clear hbx hput2
    go_wp2
    go_loopw [21] (fun i wr => ∃ j : Nat, j ≤ l.length ∧ i = .int .i64 j ∧ PutBox B b (k ++ pre ++ bytesL (l.take j)) w (.mk 4 0 s l true) (.slice A l.length cap) wr) (fun i _ => l.length - (intOf i).toNat)
    case atStart => exact ⟨0, Nat.zero_le _, rfl, by simpa [bytesL] using HB2.out⟩
    case round =>
      obtain ⟨j, hj, rfl, hbx⟩ := hrel
      have htake := bytesL_take l j
      by_cases hlt : j < l.length
      · obtain ⟨b', off, sl, rfl, hb, h5, hy⟩ := HE.out j _ (List.getElem?_eq_getElem hlt)
        obtain ⟨A', cap', rfl⟩ := hy.slice
        have hnext : bytesL (l.take (j + 1)) = bytesL (l.take j) ++ bytesOf l[j] := by
          rw [take_next (List.getElem?_eq_getElem hlt), bytesL_append]
          simp [bytesL]
        have htake2 := bytesL_take l (j + 1)
        rw [hnext, List.length_append] at htake2
        have hyl : (k ++ pre ++ bytesL (l.take j)).length + (bytesOf l[j]).length ≤ 70000 := by have hnn := HNN.out; simp only [if_true] at hnn; simp only [List.length_append]; omega
        have hcall := fun W (h : PutBox B b (k ++ pre ++ bytesL (l.take j)) w (.mk 4 0 s l true) (.slice (some ⟨b', off, none⟩) l.length cap) W) => IH.out l[j] (List.getElem_mem hlt) W B b _ _ h.put.here (hy.keep h.put.below) (plainL_mem (List.getElem_mem hlt) HP.out) hyl
        have a5 := h5.below hbx.put.below hb
        have l0 := a5.c0
        have l1 := a5.c1
        have l2 := a5.c2
        have l3 := a5.c3
        have l4 := a5.c4
        generalize l[j] = y at *
        rw [List.append_assoc (k ++ pre), ← hnext] at hcall
        have HT := Lib.hid (And.intro htake (And.intro htake2 (And.intro hyl hnext))); clear htake htake2 hyl hnext
        have HC2 := Lib.hid hcall; clear hcall
        have HB := Lib.hid hbx; clear hbx
        simp only [itV] at HC2
        clear a5 h5 hy
        go_wp2_with fail
        refine (HC2.out _ (HB.out.next ((Below.refl _ _).alloc (Nat.le_refl _) _))).mono ?_
        rintro e w' ⟨rfl, hb'⟩
        have hfin := (HB.out.next ((Below.refl _ _).alloc (Nat.le_refl _) _)).step hb'
        have HFIN := Lib.hid hfin; clear hfin hb'
        go_wp2
        go_roundw
        case rel => exact ⟨j + 1, by omega, by go_num, HFIN.out⟩
        case measure => simp [intOf]; omega
      · obtain rfl : j = l.length := by omega
        rw [List.take_length] at hbx
        have c4 := hbx.c4
        simp only [It.opn] at c4
        have HB := Lib.hid hbx; clear hbx
        go_wp2_with fail
        refine (open_any 7 _).mono ?_
        rw [open7]
        rintro e w3 ⟨rfl, hb3⟩
        have hbx := HB.out.next hb3
        have HB3 := Lib.hid hbx; clear hbx hb3
        go_wp2_with fail
        refine (put_string (k := [255]) HB3.out.put.here (by have hnn := HNN.out; simp only [if_true] at hnn; simp only [List.length_append, List.length_cons, List.length_nil]; omega)).mono ?_
        rintro e w4 ⟨rfl, hput4⟩
        have hbx := HB3.out.step hput4
        have HB4 := Lib.hid hbx; clear hbx hput4
        go_wp2
        go_end0
        exact ⟨rfl, HB4.out.put⟩

set_option maxHeartbeats 2000000 in
set_option maxRecDepth 100000 in
theorem write_any (x : It) : ∀ (w : World) (B b : Nat) (k : List UInt8) (v : Value), Put B b k w w → Lies w B x v → plainB x = true → k.length + (bytesOf x).length ≤ 70000 →
      Calls Try.prog 23 #[.pointer (some ⟨b, 0, none⟩), v] w fun e w' => e = .returned (.tuple #[]) ∧ Put B b (k ++ bytesOf x) w w' := by
  induction x using It.ind with
  | h kd n s l o ih =>
  intro w B b k v hput hx hp hN
  obtain ⟨A, cap, rfl, hf, he⟩ := hx.out
  have hn : n ≤ 18446744073709551615 := hf.n
  obtain ⟨hk, h4, h0, hnz, hpl⟩ := plain_parts hp
  simp only [itV, It.kind, It.n, It.s, It.l, It.opn] at *
  have HPUT := Lib.hid hput; clear hput
  rcases hk with rfl | rfl | rfl | ⟨rfl, hlen, rfl, hs⟩
  · simp only [bytesOf, if_true] at hN ⊢
    have hhead := fun W => head_any 0 n W (by omega)
    have HH := Lib.hid hhead; clear hhead
    have ht : typeOf 0 = 0 := rfl
    rw [ht] at HH
    clear ht
    generalize headOf 0 n = g at *
    clear ih he hx hp hf h4 h0 hnz hpl hn
    have HN := Lib.hid hN; clear hN
    go_enter Try.func23, Try.ntmps23
    go_wp2_with fail
    refine (HH.out _).mono ?_
    rintro e w1 ⟨rfl, hb1⟩
    have hbx := (PutBox.new HPUT.out (.mk 0 n s l o) (.slice A l.length cap)).next hb1
    have HB1 := Lib.hid hbx; clear hbx hb1
    go_wp2_with fail
    refine (put_string HB1.out.put.here (by have := HN.out; omega)).mono ?_
    rintro e w2 ⟨rfl, hput2⟩
    have hbx := HB1.out.step hput2
    have HB2 := Lib.hid hbx; clear hbx hput2
    go_wp2
    go_end0
    exact ⟨rfl, HB2.out.put⟩
  · have hnn := hnz (by decide)
    subst hnn
    have hb : bytesOf (.mk 2 0 s l o) = headOf 2 s.size ++ s.data.toList := by simp [bytesOf]
    rw [hb] at hN ⊢
    have hs : s.size ≤ 70000 := by
      have : s.data.toList.length = s.size := by simp
      rw [List.length_append] at hN
      omega
    have hcall := fun W => bytes_any s W hs
    have hw : withHead 2 s = ⟨(headOf 2 s.size ++ s.data.toList).toArray⟩ := rfl
    rw [hw] at hcall
    have HH := Lib.hid hcall; clear hcall
    generalize headOf 2 s.size ++ s.data.toList = g at *
    clear ih he hx hp hf h4 h0 hnz hpl hn hb hw hs
    have HN := Lib.hid hN; clear hN
    go_enter Try.func23, Try.ntmps23
    go_wp2_with fail
    refine (HH.out _).mono ?_
    rintro e w1 ⟨rfl, hb1⟩
    have hbx := (PutBox.new HPUT.out (.mk 2 0 s l o) (.slice A l.length cap)).next hb1
    have HB1 := Lib.hid hbx; clear hbx hb1
    go_wp2_with fail
    refine (put_string HB1.out.put.here (by have := HN.out; omega)).mono ?_
    rintro e w2 ⟨rfl, hput2⟩
    have hbx := HB1.out.step hput2
    have HB2 := Lib.hid hbx; clear hbx hput2
    go_wp2
    go_end0
    exact ⟨rfl, HB2.out.put⟩
  · have hnn := hnz (by decide)
    subst hnn
    have hb : bytesOf (.mk 3 0 s l o) = headOf 3 s.size ++ s.data.toList := by simp [bytesOf]
    rw [hb] at hN ⊢
    have hs : s.size ≤ 70000 := by
      have : s.data.toList.length = s.size := by simp
      rw [List.length_append] at hN
      omega
    have hcall := fun W => text_any s W hs
    have hw : withHead 3 s = ⟨(headOf 3 s.size ++ s.data.toList).toArray⟩ := rfl
    rw [hw] at hcall
    have HH := Lib.hid hcall; clear hcall
    generalize headOf 3 s.size ++ s.data.toList = g at *
    clear ih he hx hp hf h4 h0 hnz hpl hn hb hw hs
    have HN := Lib.hid hN; clear hN
    go_enter Try.func23, Try.ntmps23
    go_wp2_with fail
    refine (HH.out _).mono ?_
    rintro e w1 ⟨rfl, hb1⟩
    have hbx := (PutBox.new HPUT.out (.mk 3 0 s l o) (.slice A l.length cap)).next hb1
    have HB1 := Lib.hid hbx; clear hbx hb1
    go_wp2_with fail
    refine (put_string HB1.out.put.here (by have := HN.out; omega)).mono ?_
    rintro e w2 ⟨rfl, hput2⟩
    have hbx := HB1.out.step hput2
    have HB2 := Lib.hid hbx; clear hbx hput2
    go_wp2
    go_end0
    exact ⟨rfl, HB2.out.put⟩
  · have hb : bytesOf (.mk 4 0 s l o) = preOf l.length o ++ bytesL l ++ (if o then [255] else []) := by simp [bytesOf, preOf]
    rw [hb] at hN ⊢
    have hcall := fun W (h : PutBox B b k w (.mk 4 0 s l o) (.slice A l.length cap) W) => writeArray_any s l o hlen hpl ih W B b k A cap h.put.here
    have hq : k.length + ((preOf l.length o).length + (bytesL l).length + (if o then 1 else 0)) ≤ 70000 := by
      cases o <;> simp only [List.length_append, if_true, Bool.false_eq_true, if_false, List.length_cons, List.length_nil] at hN ⊢ <;> omega
    have hcall2 := fun W (h : PutBox B b k w (.mk 4 0 s l o) (.slice A l.length cap) W) => hcall W h hq (fun i y hi => by
      obtain ⟨b, off, sl, h1, h2, h3, h4⟩ := he i y hi
      exact ⟨b, off, sl, h1, h2, h3.below h.put.below h2, h4.keep h.put.below⟩)
    clear hcall
    have HH := Lib.hid hcall2; clear hcall2
    have hass : k ++ preOf l.length o ++ bytesL l ++ (if o then [255] else []) = k ++ (preOf l.length o ++ bytesL l ++ (if o then [255] else [])) := by simp
    rw [hass] at HH
    generalize preOf l.length o ++ bytesL l ++ (if o then [255] else []) = g at *
    clear ih he hx hp hf h4 h0 hnz hpl hn hb
    go_enter Try.func23, Try.ntmps23
    go_wp2_with fail
    refine (HH.out _ (PutBox.new HPUT.out (.mk 4 0 s l o) (.slice A l.length cap))).mono ?_
    rintro e w1 ⟨rfl, hput1⟩
    have hbx := (PutBox.new HPUT.out (.mk 4 0 s l o) (.slice A l.length cap)).step hput1
    have HB1 := Lib.hid hbx; clear hbx hput1
    go_wp2
    go_end0
    exact ⟨rfl, HB1.out.put⟩

end Go.Proofs.Ytpmepnejjjlodaa
