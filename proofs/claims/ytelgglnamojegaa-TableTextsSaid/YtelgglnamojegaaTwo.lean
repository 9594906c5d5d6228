/-
  Two tables, one of numbers by numbers and one of bools by texts, under the same calls. Conditions: the tables are in order, and the texts differ.
-/
import Derived.Test.YtelgglnamojegaaIbMore
import Derived.Test.YtelgglnamojegaaIcMore
namespace Go.Proofs.Ytelgglnamojegaa
open Go.ChangeShapes Go.WideShapes Go.ChangeAt Go.RowKit
set_option linter.unusedVariables false

/-- The entries of the table of texts. -/
def img (nm : Nat → ByteArray) (ea : List (Int × Int)) : List (ByteArray × Bool) := ea.map fun e => (nm e.1.toNat, true)
/-- The keys are places of names. -/
def InR (n : Nat) (ea : List (Int × Int)) : Prop := ∀ (i : Nat) (e : Int × Int), ea[i]? = some e → 0 ≤ e.1 ∧ e.1 < n
/-- The names differ. -/
def Differ (n : Nat) (nm : Nat → ByteArray) : Prop := ∀ i j, i < n → j < n → nm i = nm j → i = j

theorem img_get {nm : Nat → ByteArray} {ea : List (Int × Int)} {i : Nat} {e : ByteArray × Bool} (h : (img nm ea)[i]? = some e) : ∃ x y, ea[i]? = some (x, y) ∧ e = (nm x.toNat, true) := by
  unfold img at h
  rw [List.getElem?_map] at h
  cases hx : ea[i]? with
  | none => rw [hx] at h; simp at h
  | some p =>
    rw [hx] at h
    simp at h
    exact ⟨p.1, p.2, rfl, h.symm⟩

theorem img_miss {n : Nat} {nm : Nat → ByteArray} {ea : List (Int × Int)} {k : Nat} (hd : Differ n nm) (hin : InR n ea) (hk : k < n) (hm : Miss ea (k : Int)) : Miss (img nm ea) (nm k) := by
  intro i e he heq
  obtain ⟨x, y, hx, rfl⟩ := img_get he
  have hb := hin i _ hx
  have := hd x.toNat k (by dsimp only at hb; omega) hk heq
  exact hm i _ hx (by dsimp only at hb ⊢; omega)

theorem img_hit {n : Nat} {nm : Nat → ByteArray} {ea : List (Int × Int)} {k i : Nat} (hd : Differ n nm) (hin : InR n ea) (hk : k < n) (hh : Hit ea (k : Int) i) : Hit (img nm ea) (nm k) i := by
  obtain ⟨⟨y, hy⟩, hb⟩ := hh
  refine ⟨⟨true, by simp [img, hy]⟩, fun j e hj he heq => ?_⟩
  obtain ⟨x, z, hx, rfl⟩ := img_get he
  have hb' := hin j _ hx
  have := hd x.toNat k (by dsimp only at hb'; omega) hk heq
  exact hb j _ hj hx (by dsimp only at hb' ⊢; omega)

theorem img_set {nm : Nat → ByteArray} {ea : List (Int × Int)} {k i : Nat} {z : Int} : (img nm ea).set i (nm k, true) = img nm (ea.set i ((k : Int), z)) := by
  unfold img
  rw [List.map_set]
  simp
theorem img_app {nm : Nat → ByteArray} {ea : List (Int × Int)} {k : Nat} {z : Int} : img nm ea ++ [(nm k, true)] = img nm (ea ++ [((k : Int), z)]) := by simp [img]
theorem img_erase {nm : Nat → ByteArray} {ea : List (Int × Int)} {i : Nat} : (img nm ea).eraseIdx i = img nm (ea.eraseIdx i) := by
  unfold img
  rw [List.eraseIdx_eq_take_drop_succ, List.eraseIdx_eq_take_drop_succ, List.map_append, List.map_take, List.map_drop]
theorem img_length {nm : Nat → ByteArray} {ea : List (Int × Int)} : (img nm ea).length = ea.length := by simp [img]

theorem InR.set {n : Nat} {ea : List (Int × Int)} (h : InR n ea) {k i : Nat} {z : Int} (hk : k < n) : InR n (ea.set i ((k : Int), z)) := by
  intro j e he
  rw [List.getElem?_set] at he
  split at he
  · split at he
    · simp at he; subst he; dsimp only; omega
    · simp at he
  · exact h j e he
theorem InR.app {n : Nat} {ea : List (Int × Int)} (h : InR n ea) {k : Nat} {z : Int} (hk : k < n) : InR n (ea ++ [((k : Int), z)]) := by
  intro j e he
  rcases Nat.lt_or_ge j ea.length with hj | hj
  · rw [List.getElem?_append_left hj] at he
    exact h j e he
  · rw [List.getElem?_append_right hj] at he
    match j - ea.length, he with
    | 0, he => simp at he; subst he; dsimp only; omega
    | q + 1, he => simp at he
theorem InR.of_sub {n : Nat} {ea ea' : List (Int × Int)} (h : InR n ea) (hs : ∀ e ∈ ea', e ∈ ea) : InR n ea' := by
  intro j e he
  obtain ⟨i, hi⟩ := List.mem_iff_getElem?.1 (hs e (List.mem_of_getElem? he))
  exact h i e hi

/-- The two tables in memory. -/
structure Two (W wr : World) (b1 b2 : Nat) (v1 v2 : Value) (m : Nat) (ea : List (Int × Int)) (eb : List (ByteArray × Bool)) : Prop where
  ta : Tab 65 72 (Value.int .i64) (Value.int .i64) wr b1 v1 m ea
  tb : Tab 68 75 Value.string Value.bool wr b2 v2 m eb
  below : Below W.heap.size W wr
  l1 : ∀ k, Own2 b1 v1 k → W.heap.size ≤ k
  l2 : ∀ k, Own2 b2 v2 k → W.heap.size ≤ k
  apart : ∀ k, Own2 b1 v1 k → ¬ Own2 b2 v2 k

section
variable {W wr w1 : World} {b1 b2 : Nat} {v1 v2 : Value} {m : Nat} {ea ea' : List (Int × Int)} {eb eb' : List (ByteArray × Bool)}
theorem Two.first (h : Two W wr b1 b2 v1 v2 m ea eb) (ha : Ib.After wr b1 v1 m ea' w1) : ∃ v', Two W w1 b1 b2 v' v2 m ea' eb := by
  obtain ⟨v', t1, o1, c1⟩ := ha
  refine ⟨v', t1, h.tb.chg c1 (fun k hk hk' => h.apart k hk' hk), h.below.trans (c1.below h.below.size h.l1), ?_, h.l2, ?_⟩
  · rintro k (rfl | hk)
    · exact h.l1 _ (.inl rfl)
    · rcases o1 k hk with h' | h'
      · exact h.l1 k (.inr h')
      · have := h.below.size; omega
  · rintro k (rfl | hk) hk'
    · exact h.apart _ (.inl rfl) hk'
    · rcases o1 k hk with h' | h'
      · exact h.apart k (.inr h') hk'
      · have := h.tb.own_lt k hk'; omega
theorem Two.second (h : Two W wr b1 b2 v1 v2 m ea eb) (ha : Ic.After wr b2 v2 m eb' w1) : ∃ v', Two W w1 b1 b2 v1 v' m ea eb' := by
  obtain ⟨v', t1, o1, c1⟩ := ha
  refine ⟨v', h.ta.chg c1 (fun k hk hk' => h.apart k hk hk'), t1, h.below.trans (c1.below h.below.size h.l2), h.l1, ?_, ?_⟩
  · rintro k (rfl | hk)
    · exact h.l2 _ (.inl rfl)
    · rcases o1 k hk with h' | h'
      · exact h.l2 k (.inr h')
      · have := h.below.size; omega
  · rintro k hk' (rfl | hk)
    · exact h.apart _ hk' (.inl rfl)
    · rcases o1 k hk with h' | h'
      · exact h.apart k hk' (.inr h')
      · have := h.ta.own_lt k hk'; omega
theorem Two.next (h : Two W wr b1 b2 v1 v2 m ea eb) (hb : Below wr.heap.size wr w1) : Two W w1 b1 b2 v1 v2 m ea eb :=
  ⟨h.ta.below hb, h.tb.below hb, h.below.trans (hb.mono h.below.size), h.l1, h.l2, h.apart⟩
theorem Two.drew (h : Two W wr b1 b2 v1 v2 m ea eb) : Two W wr.drew b1 b2 v1 v2 m ea eb :=
  ⟨h.ta.keep fun _ _ => rfl, h.tb.keep fun _ _ => rfl, h.below.drew, h.l1, h.l2, h.apart⟩
end

theorem Two.start {W w1 w2 w3 : World} {m : Nat} (h1 : Below W.heap.size W w1) (t1 : Tab 65 72 (Value.int .i64) (Value.int .i64) w2 w1.heap.size (.slice none 0 0) m []) (h2 : Below w1.heap.size w1 w2)
    (t2 : Tab 68 75 Value.string Value.bool w3 w2.heap.size (.slice none 0 0) m []) (h3 : Below w2.heap.size w2 w3) : Two W w3 w1.heap.size w2.heap.size (.slice none 0 0) (.slice none 0 0) m [] [] := by
  have z1 := h1.size
  have z2 := h2.size
  have hlt := t1.lt
  refine ⟨t1.below h3, t2, (h1.trans (h2.mono z1)).trans (h3.mono (by omega)), ?_, ?_, ?_⟩
  · rintro k (rfl | hk)
    · exact z1
    · simp [Value.ownBlock] at hk
  · rintro k (rfl | hk)
    · omega
    · simp [Value.ownBlock] at hk
  · rintro k (rfl | hk) (h' | h')
    · omega
    · simp [Value.ownBlock] at h'
    · simp [Value.ownBlock] at hk
    · simp [Value.ownBlock] at hk

/-- Drop on both tables. -/
theorem drop_both {n : Nat} {nm : Nat → ByteArray} {ea : List (Int × Int)} {m : Nat} (hd : Differ n nm) (hin : InR n ea) (k : Nat) (hk : k < n) : ∃ (t : Bool) (ea' : List (Int × Int)), InR n ea' ∧ ea'.length ≤ ea.length + 1 ∧
    (∀ X b v, Tab 65 72 (Value.int .i64) (Value.int .i64) X b v m ea → Calls Try.prog 14 #[.pointer (some ⟨b, 0, none⟩), .int .i64 k] X fun e w' => e = .returned (.bool t) ∧ Ib.After X b v m ea' w') ∧
    (∀ X b v, Tab 68 75 Value.string Value.bool X b v m (img nm ea) → Calls Try.prog 15 #[.pointer (some ⟨b, 0, none⟩), .string (nm k)] X fun e w' => e = .returned (.bool t) ∧ Ic.After X b v m (img nm ea') w') := by
  rcases hit_or_miss ea (k : Int) with hm | ⟨i, hh⟩
  · exact ⟨false, ea, hin, by omega, fun X b v h => Ib.drop_miss b v m ea k X h hm, fun X b v h => Ic.drop_miss b v m _ (nm k) X h (img_miss hd hin hk hm)⟩
  · refine ⟨true, ea.eraseIdx i, hin.of_sub (fun e he => List.mem_of_mem_eraseIdx he), by have := List.length_eraseIdx_le ea i; omega, fun X b v h => Ib.drop_hit b v m ea k i X h hh, fun X b v h => ?_⟩
    have := Ic.drop_hit b v m _ (nm k) i X h (img_hit hd hin hk hh)
    rw [img_erase] at this
    exact this

/-- What Push tells: the place of a name and the name, or nothing. -/
def Tells (n : Nat) (nm : Nat → ByteArray) (x : Int) (y : ByteArray) (t : Bool) : Prop := (t = false ∧ x = 0 ∧ y = ⟨#[]⟩) ∨ (t = true ∧ ∃ q : Nat, q < n ∧ x = q ∧ y = nm q)

/-- Push on both tables. -/
theorem push_both {n : Nat} {nm : Nat → ByteArray} {ea : List (Int × Int)} {m : Nat} (hd : Differ n nm) (hin : InR n ea) (hfew : ea.length ≤ m) (hm1 : m ≤ 1000) (k : Nat) (hk : k < n) (z : Int) : ∃ (x : Int) (y : ByteArray) (t : Bool) (ea' : List (Int × Int)), InR n ea' ∧ ea'.length ≤ ea.length + 1 ∧ Tells n nm x y t ∧
    (∀ X b v, Tab 65 72 (Value.int .i64) (Value.int .i64) X b v m ea → Calls Try.prog 16 #[.pointer (some ⟨b, 0, none⟩), .int .i64 k, .int .i64 z] X fun e w' => e = .returned (.tuple #[.int .i64 x, .bool t]) ∧ Ib.After X b v m ea' w') ∧
    (∀ X b v, Tab 68 75 Value.string Value.bool X b v m (img nm ea) → Calls Try.prog 17 #[.pointer (some ⟨b, 0, none⟩), .string (nm k), .bool true] X fun e w' => e = .returned (.tuple #[.string y, .bool t]) ∧ Ic.After X b v m (img nm ea') w') := by
  rcases hit_or_miss ea (k : Int) with hm | ⟨i, hh⟩
  · have hmb := img_miss hd hin hk hm
    rcases Nat.lt_or_eq_of_le hfew with hr | hr
    · refine ⟨0, ⟨#[]⟩, false, ea ++ [((k : Int), z)], hin.app hk, by simp, .inl ⟨rfl, rfl, rfl⟩, fun X b v h => Ib.push_ok b v m _ k z X (Ib.put_new b v m ea k z X h hm hr (by omega)), fun X b v h => ?_⟩
      have := Ic.push_ok b v m _ (nm k) true X (Ic.put_new b v m _ (nm k) true X h hmb (by rw [img_length]; exact hr) (by rw [img_length]; omega))
      rw [img_app (z := z)] at this
      exact this
    · match ea, hin, hm, hmb, hr with
      | [], hin, hm, hmb, hr =>
        have hr0 : m = 0 := by simpa using hr.symm
        subst hr0
        exact ⟨0, ⟨#[]⟩, false, [], hin, by simp, .inl ⟨rfl, rfl, rfl⟩, fun X b v h => Ib.push_zero b v k z X h, fun X b v h => Ic.push_zero b v (nm k) true X h⟩
      | e0 :: r, hin, hm, hmb, hr =>
        have he0 := hin 0 e0 rfl
        refine ⟨e0.1, nm e0.1.toNat, true, r ++ [((k : Int), z)], InR.app (hin.of_sub (fun e he => List.mem_cons_of_mem _ he)) hk, by simp, .inr ⟨rfl, e0.1.toNat, by omega, by omega, rfl⟩, fun X b v h => Ib.push_full b v m e0 r k z X h hm hr hm1, fun X b v h => ?_⟩
        have := Ic.push_full b v m (nm e0.1.toNat, true) (img nm r) (nm k) true X h hmb (by simpa [img] using hr) hm1
        rw [img_app (z := z)] at this
        exact this
  · refine ⟨0, ⟨#[]⟩, false, ea.set i ((k : Int), z), hin.set hk, by simp, .inl ⟨rfl, rfl, rfl⟩, fun X b v h => Ib.push_ok b v m _ k z X (Ib.put_hit b v m ea k z i X h hh), fun X b v h => ?_⟩
    have := Ic.push_ok b v m _ (nm k) true X (Ic.put_hit b v m _ (nm k) true i X h (img_hit hd hin hk hh))
    rw [img_set (z := z)] at this
    exact this

end Go.Proofs.Ytelgglnamojegaa
