/-
  The contract of the statement's own call on a table. Conditions: the table is in order, and it has no more than a thousand entries.
-/
import Derived.Test.YtelgglnamojegaaIaMore
import Derived.Test.YtelgglnamojegaaRefDrop
namespace Go.Proofs.Ytelgglnamojegaa
open Go.ChangeShapes Go.WideShapes Go.ChangeAt Go.RowKit
set_option linter.unusedVariables false

/-- The zero of what a call tells. -/
def told0 : Array Value := #[.string ⟨#[]⟩, .int .i64 0, .bool false]
/-- What a call tells. -/
def toldV (s : ByteArray) (k : Int) (b : Bool) : Value := .agg #[.string s, .int .i64 k, .bool b]

/-- The result's block, where only blocks of S have changed. -/
structure Box (w : World) (S : Nat → Prop) (X : World) : Prop where
  box : X.heap[w.heap.size + 1]? = some (.cells told0 32 (0, 0))
  chg : Chg S w X
  lt : ∀ k, S k → k < w.heap.size

theorem Box.of {w X : World} {S : Nat → Prop} {o : Obj} (hlt : ∀ k, S k → k < w.heap.size) (hc : Chg S ((w.alloc o).alloc (.cells told0 32)) X) : Box w S X := by
  refine ⟨?_, ?_, hlt⟩
  · rw [hc.block _ (by simp) (fun h => by have := hlt _ h; omega)]
    have := heap_alloc_new (w.alloc o) (.cells told0 32)
    rw [World.size_alloc] at this
    exact this
  · exact (((Chg.refl S w).alloc o).alloc _).trans hc (fun _ _ e => e)

theorem Box.cells {w X : World} {S : Nat → Prop} (h : Box w S X) : X.cell? ⟨w.heap.size + 1, 0, none⟩ = some (.string ⟨#[]⟩) ∧ X.cell? ⟨w.heap.size + 1, 1, none⟩ = some (.int .i64 0) ∧ X.cell? ⟨w.heap.size + 1, 2, none⟩ = some (.bool false) ∧ ∀ i, X.frozen? ⟨w.heap.size + 1, i, none⟩ = false :=
  ⟨cell_of_row X _ 0 _ _ _ h.box, cell_of_row X _ 1 _ _ _ h.box, cell_of_row X _ 2 _ _ _ h.box, free_of_block h.box⟩

/-- The result, stored. -/
theorem Box.end_ {w X : World} {S : Nat → Prop} (h : Box w S X) (v0 v1 v2 : Value) (F : World) (hF : F = (((X.setCell ⟨w.heap.size + 1, 0, none⟩ v0).setCell ⟨w.heap.size + 1, 1, none⟩ v1).setCell ⟨w.heap.size + 1, 2, none⟩ v2)) :
    (F.cell? ⟨w.heap.size + 1, 0, none⟩ = some v0 ∧ F.cell? ⟨w.heap.size + 1, 1, none⟩ = some v1 ∧ F.cell? ⟨w.heap.size + 1, 2, none⟩ = some v2) ∧ Chg S w F ∧ ∀ k, k ≠ w.heap.size + 1 → F.heap[k]? = X.heap[k]? := by
  have h1 : F.heap[w.heap.size + 1]? = some (.cells #[v0, v1, v2] 32 (0, 0)) := by
    rw [hF]
    have := set_block (i := 2) (u := v2) (set_block (i := 1) (u := v1) (set_block (i := 0) (u := v0) h.box))
    exact this
  refine ⟨⟨cell_of_row F _ 0 _ _ _ h1, cell_of_row F _ 1 _ _ _ h1, cell_of_row F _ 2 _ _ _ h1⟩, ?_, fun k hk => ?_⟩
  · rw [hF]
    have hf : ∀ {P : Prop}, w.heap.size + 1 < w.heap.size → P := fun h => absurd h (by omega)
    exact ((h.chg.set (b := w.heap.size + 1) (fun e => hf e) 0 v0).set (fun e => hf e) 1 v1).set (fun e => hf e) 2 v2
  · rw [hF, Below.heap_setCell _ _ _ _ hk, Below.heap_setCell _ _ _ _ hk, Below.heap_setCell _ _ _ _ hk]

namespace Ia

/-- From behind the boxes to behind the call. -/
theorem After.fin {w X F : World} {b : Nat} {v : Value} {most : Nat} {es fs : List (Int × ByteArray)} {o p : Obj} (h : Tab 57 62 (Value.int .i64) Value.string w b v most es) (ha : After ((w.alloc o).alloc p) b v most fs X) (hc : Chg (Own2 b v) w F) (hk : ∀ k, k ≠ w.heap.size + 1 → F.heap[k]? = X.heap[k]?) : After w b v most fs F := by
  obtain ⟨v', t, ow, _⟩ := ha
  have hz : ((w.alloc o).alloc p).heap.size = w.heap.size + 2 := by simp
  have hb := h.lt
  refine ⟨v', t.keep ?_, ?_, hc⟩
  · rintro k (rfl | hk')
    · exact hk _ (by omega)
    · refine hk _ ?_
      rcases ow k hk' with h' | h'
      · have := h.own_lt k (.inr h'); omega
      · omega
  · intro k hk'
    rcases ow k hk' with h' | h'
    · exact .inl h'
    · right; omega

theorem Tab.boxes {w : World} {b : Nat} {v : Value} {most : Nat} {es : List (Int × ByteArray)} (h : Tab 57 62 (Value.int .i64) Value.string w b v most es) (o p : Obj) : Tab 57 62 (Value.int .i64) Value.string ((w.alloc o).alloc p) b v most es :=
  h.below (((Below.refl _ _).alloc (Nat.le_refl _) _).alloc (by simp) _)

/-- The op's block. -/
def opBox (kind : Nat) (k : Int) (y : ByteArray) : Obj := .cells #[.int .u8 kind, .int .i64 k, .string y] 35

set_option maxHeartbeats 1000000 in
theorem call_put {w : World} {b : Nat} {v : Value} {most : Nat} {es fs : List (Int × ByteArray)} (kind : Nat) (k : Int) (y : ByteArray) (code : Int) (tb : Bool) (h : Tab 57 62 (Value.int .i64) Value.string w b v most es) (hk : (kind : Int) % 4 = 0) (hcode : (code == 0) = tb)
    (hp : Calls Try.prog 20 #[.pointer (some ⟨b, 0, none⟩), .int .i64 k, .string y] ((w.alloc (opBox kind k y)).alloc (.cells told0 32)) fun e w' => e = .returned (.int .i64 code) ∧ After ((w.alloc (opBox kind k y)).alloc (.cells told0 32)) b v most fs w') :
    Calls Try.prog 7 #[.pointer (some ⟨b, 0, none⟩), .agg #[.int .u8 kind, .int .i64 k, .string y]] w fun e w' => e = .returned (toldV ⟨#[]⟩ 0 tb) ∧ After w b v most fs w' := by
  have hlt := h.lt
  unfold opBox told0 at hp
  have HP := Lib.hid hp; clear hp
  have HT := Lib.hid h; clear h
  unfold toldV
  go_enter Try.func7, Try.ntmps7
  go_wp2_with fail
  refine HP.out.mono ?_
  rintro e w1 ⟨rfl, ha⟩
  have hbox := Box.of (o := opBox kind k y) HT.out.own_lt (S := Own2 b v) (X := w1) (by obtain ⟨v', t, ow, ch⟩ := ha; exact ch)
  obtain ⟨r0, r1, r2, fz⟩ := hbox.cells
  have HA := Lib.hid ha; clear ha
  have HX := Lib.hid hbox; clear hbox
  go_wp2
  obtain ⟨⟨k0, k1, k2⟩, hch, hk⟩ := HX.out.end_ (.string ⟨#[]⟩) (.int .i64 0) (.bool tb) _ rfl
  refine bodyPost_ret (v := .agg #[.string ⟨#[]⟩, .int .i64 0, .bool tb]) (by simp [results, Try.results7, go_sem, k0, k1, k2]) rfl ⟨rfl, After.fin HT.out HA.out hch hk⟩

set_option maxHeartbeats 1000000 in
theorem call_get {w : World} {b : Nat} {v : Value} {most : Nat} {es : List (Int × ByteArray)} (kind : Nat) (k : Int) (y z : ByteArray) (tb : Bool) (h : Tab 57 62 (Value.int .i64) Value.string w b v most es) (hk : (kind : Int) % 4 = 1)
    (hp : Calls Try.prog 11 #[.pointer (some ⟨b, 0, none⟩), .int .i64 k] ((w.alloc (opBox kind k y)).alloc (.cells told0 32)) fun e w' => e = .returned (.tuple #[.string z, .bool tb]) ∧ Below ((w.alloc (opBox kind k y)).alloc (.cells told0 32)).heap.size ((w.alloc (opBox kind k y)).alloc (.cells told0 32)) w') :
    Calls Try.prog 7 #[.pointer (some ⟨b, 0, none⟩), .agg #[.int .u8 kind, .int .i64 k, .string y]] w fun e w' => e = .returned (toldV z 0 tb) ∧ After w b v most es w' := by
  have hlt := h.lt
  have hp : Calls Try.prog 11 #[.pointer (some ⟨b, 0, none⟩), .int .i64 k] ((w.alloc (opBox kind k y)).alloc (.cells told0 32)) fun e w' => e = .returned (.tuple #[.string z, .bool tb]) ∧ After ((w.alloc (opBox kind k y)).alloc (.cells told0 32)) b v most es w' := hp.mono fun e w' ⟨he, hb⟩ => ⟨he, After.same (Tab.boxes h _ _) hb⟩
  unfold opBox told0 at hp
  have HP := Lib.hid hp; clear hp
  have HT := Lib.hid h; clear h
  unfold toldV
  go_enter Try.func7, Try.ntmps7
  go_wp2_with fail
  refine HP.out.mono ?_
  rintro e w1 ⟨rfl, ha⟩
  have hbox := Box.of (o := opBox kind k y) HT.out.own_lt (S := Own2 b v) (X := w1) (by obtain ⟨v', t, ow, ch⟩ := ha; exact ch)
  obtain ⟨r0, r1, r2, fz⟩ := hbox.cells
  have HA := Lib.hid ha; clear ha
  have HX := Lib.hid hbox; clear hbox
  go_wp2
  obtain ⟨⟨k0, k1, k2⟩, hch, hk⟩ := HX.out.end_ (.string z) (.int .i64 0) (.bool tb) _ rfl
  refine bodyPost_ret (v := .agg #[.string z, .int .i64 0, .bool tb]) (by simp [results, Try.results7, go_sem, k0, k1, k2]) rfl ⟨rfl, After.fin HT.out HA.out hch hk⟩

set_option maxHeartbeats 1000000 in
theorem call_drop {w : World} {b : Nat} {v : Value} {most : Nat} {es fs : List (Int × ByteArray)} (kind : Nat) (k : Int) (y : ByteArray) (tb : Bool) (h : Tab 57 62 (Value.int .i64) Value.string w b v most es) (hk : (kind : Int) % 4 = 2)
    (hp : Calls Try.prog 21 #[.pointer (some ⟨b, 0, none⟩), .int .i64 k] ((w.alloc (opBox kind k y)).alloc (.cells told0 32)) fun e w' => e = .returned (.bool tb) ∧ After ((w.alloc (opBox kind k y)).alloc (.cells told0 32)) b v most fs w') :
    Calls Try.prog 7 #[.pointer (some ⟨b, 0, none⟩), .agg #[.int .u8 kind, .int .i64 k, .string y]] w fun e w' => e = .returned (toldV ⟨#[]⟩ 0 tb) ∧ After w b v most fs w' := by
  have hlt := h.lt
  unfold opBox told0 at hp
  have HP := Lib.hid hp; clear hp
  have HT := Lib.hid h; clear h
  unfold toldV
  go_enter Try.func7, Try.ntmps7
  go_wp2_with fail
  refine HP.out.mono ?_
  rintro e w1 ⟨rfl, ha⟩
  have hbox := Box.of (o := opBox kind k y) HT.out.own_lt (S := Own2 b v) (X := w1) (by obtain ⟨v', t, ow, ch⟩ := ha; exact ch)
  obtain ⟨r0, r1, r2, fz⟩ := hbox.cells
  have HA := Lib.hid ha; clear ha
  have HX := Lib.hid hbox; clear hbox
  go_wp2
  obtain ⟨⟨k0, k1, k2⟩, hch, hk⟩ := HX.out.end_ (.string ⟨#[]⟩) (.int .i64 0) (.bool tb) _ rfl
  refine bodyPost_ret (v := .agg #[.string ⟨#[]⟩, .int .i64 0, .bool tb]) (by simp [results, Try.results7, go_sem, k0, k1, k2]) rfl ⟨rfl, After.fin HT.out HA.out hch hk⟩

set_option maxHeartbeats 1000000 in
theorem call_push {w : World} {b : Nat} {v : Value} {most : Nat} {es fs : List (Int × ByteArray)} (kind : Nat) (k : Int) (y : ByteArray) (x : Int) (tb : Bool) (h : Tab 57 62 (Value.int .i64) Value.string w b v most es) (hk : (kind : Int) % 4 = 3)
    (hp : Calls Try.prog 22 #[.pointer (some ⟨b, 0, none⟩), .int .i64 k, .string y] ((w.alloc (opBox kind k y)).alloc (.cells told0 32)) fun e w' => e = .returned (.tuple #[.int .i64 x, .bool tb]) ∧ After ((w.alloc (opBox kind k y)).alloc (.cells told0 32)) b v most fs w') :
    Calls Try.prog 7 #[.pointer (some ⟨b, 0, none⟩), .agg #[.int .u8 kind, .int .i64 k, .string y]] w fun e w' => e = .returned (toldV ⟨#[]⟩ x tb) ∧ After w b v most fs w' := by
  have hlt := h.lt
  unfold opBox told0 at hp
  have HP := Lib.hid hp; clear hp
  have HT := Lib.hid h; clear h
  unfold toldV
  go_enter Try.func7, Try.ntmps7
  go_wp2_with fail
  refine HP.out.mono ?_
  rintro e w1 ⟨rfl, ha⟩
  have hbox := Box.of (o := opBox kind k y) HT.out.own_lt (S := Own2 b v) (X := w1) (by obtain ⟨v', t, ow, ch⟩ := ha; exact ch)
  obtain ⟨r0, r1, r2, fz⟩ := hbox.cells
  have HA := Lib.hid ha; clear ha
  have HX := Lib.hid hbox; clear hbox
  go_wp2
  obtain ⟨⟨k0, k1, k2⟩, hch, hk⟩ := HX.out.end_ (.string ⟨#[]⟩) (.int .i64 x) (.bool tb) _ rfl
  refine bodyPost_ret (v := .agg #[.string ⟨#[]⟩, .int .i64 x, .bool tb]) (by simp [results, Try.results7, go_sem, k0, k1, k2]) rfl ⟨rfl, After.fin HT.out HA.out hch hk⟩

end Ia

/-- What a call of the kind m tells, and what it leaves. -/
inductive Step (most : Nat) (es : List (Int × ByteArray)) (k : Int) (y : ByteArray) : Nat → ByteArray → Int → Bool → List (Int × ByteArray) → Prop
  | getHit (i : Nat) (z : ByteArray) : Hit es k i → es[i]? = some (k, z) → Step most es k y 1 z 0 true es
  | getMiss : Miss es k → Step most es k y 1 ⟨#[]⟩ 0 false es
  | dropHit (i : Nat) : Hit es k i → Step most es k y 2 ⟨#[]⟩ 0 true (es.eraseIdx i)
  | dropMiss : Miss es k → Step most es k y 2 ⟨#[]⟩ 0 false es
  | putHit (i : Nat) : Hit es k i → Step most es k y 0 ⟨#[]⟩ 0 true (es.set i (k, y))
  | putNew : Miss es k → es.length < most → Step most es k y 0 ⟨#[]⟩ 0 true (es ++ [(k, y)])
  | putFull : Miss es k → es.length = most → Step most es k y 0 ⟨#[]⟩ 0 false es
  | pushHit (i : Nat) : Hit es k i → Step most es k y 3 ⟨#[]⟩ 0 false (es.set i (k, y))
  | pushNew : Miss es k → es.length < most → Step most es k y 3 ⟨#[]⟩ 0 false (es ++ [(k, y)])
  | pushZero : es = [] → most = 0 → Step most es k y 3 ⟨#[]⟩ 0 false es
  | pushFull (e0 : Int × ByteArray) (r : List (Int × ByteArray)) : es = e0 :: r → Miss es k → es.length = most → Step most es k y 3 ⟨#[]⟩ e0.1 true (r ++ [(k, y)])

theorem step_total (most : Nat) (es : List (Int × ByteArray)) (k : Int) (y : ByteArray) (m : Nat) (hm : m < 4) (hfew : es.length ≤ most) : ∃ s x tb fs, Step most es k y m s x tb fs := by
  rcases hit_or_miss es k with hmiss | ⟨i, hit⟩
  · match m, hm with
    | 0, _ =>
      rcases Nat.lt_or_eq_of_le hfew with h | h
      · exact ⟨_, _, _, _, .putNew hmiss h⟩
      · exact ⟨_, _, _, _, .putFull hmiss h⟩
    | 1, _ => exact ⟨_, _, _, _, .getMiss hmiss⟩
    | 2, _ => exact ⟨_, _, _, _, .dropMiss hmiss⟩
    | 3, _ =>
      rcases Nat.lt_or_eq_of_le hfew with h | h
      · exact ⟨_, _, _, _, .pushNew hmiss h⟩
      · match es, hmiss, h with
        | [], _, h => exact ⟨_, _, _, _, .pushZero rfl (by simpa using h.symm)⟩
        | e0 :: r, hmiss, h => exact ⟨_, _, _, _, .pushFull e0 r rfl hmiss h⟩
  · have hit' := hit
    obtain ⟨⟨z, hz⟩, _⟩ := hit'
    match m, hm with
    | 0, _ => exact ⟨_, _, _, _, .putHit i hit⟩
    | 1, _ => exact ⟨_, _, _, _, .getHit i z hit hz⟩
    | 2, _ => exact ⟨_, _, _, _, .dropHit i hit⟩
    | 3, _ => exact ⟨_, _, _, _, .pushHit i hit⟩

theorem Step.few {most : Nat} {es : List (Int × ByteArray)} {k : Int} {y : ByteArray} {m : Nat} {s : ByteArray} {x : Int} {tb : Bool} {fs : List (Int × ByteArray)} (h : Step most es k y m s x tb fs) : fs.length ≤ es.length + 1 := by
  cases h <;> simp [List.length_eraseIdx] <;> (try split) <;> (try omega)
  rename_i h1 h2 h3
  subst h1
  simp

/-- The statement's call. -/
theorem call_any {w : World} {b : Nat} {v : Value} {most : Nat} {es fs : List (Int × ByteArray)} (kind : Nat) (k : Int) (y : ByteArray) (s : ByteArray) (x : Int) (tb : Bool) (h : Tab 57 62 (Value.int .i64) Value.string w b v most es) (hs : Step most es k y (kind % 4) s x tb fs) (hfew : es.length ≤ 1000) :
    Calls Try.prog 7 #[.pointer (some ⟨b, 0, none⟩), .agg #[.int .u8 kind, .int .i64 k, .string y]] w fun e w' => e = .returned (toldV s x tb) ∧ Ia.After w b v most fs w' := by
  have hb := Ia.Tab.boxes h (Ia.opBox kind k y) (.cells told0 32)
  generalize hm : kind % 4 = m at hs
  cases hs with
  | getHit i z hh hz => exact Ia.call_get kind k y s true h (by omega) (Ia.get_hit b v most es k s i _ hb hh hz)
  | getMiss hh => exact Ia.call_get kind k y _ false h (by omega) (Ia.get_miss b v most es k _ hb hh)
  | dropHit i hh => exact Ia.call_drop kind k y true h (by omega) (Ia.drop_hit b v most es k i _ hb hh)
  | dropMiss hh => exact Ia.call_drop kind k y false h (by omega) (Ia.drop_miss b v most es k _ hb hh)
  | putHit i hh => exact Ia.call_put kind k y 0 true h (by omega) rfl (Ia.put_hit b v most es k y i _ hb hh)
  | putNew hh hr => exact Ia.call_put kind k y 0 true h (by omega) rfl (Ia.put_new b v most es k y _ hb hh hr hfew)
  | putFull hh hr => exact Ia.call_put kind k y 9 false h (by omega) rfl (Ia.put_full b v most es k y _ hb hh hr)
  | pushHit i hh => exact Ia.call_push kind k y 0 false h (by omega) (Ia.push_ok b v most _ k y _ (Ia.put_hit b v most es k y i _ hb hh))
  | pushNew hh hr => exact Ia.call_push kind k y 0 false h (by omega) (Ia.push_ok b v most _ k y _ (Ia.put_new b v most es k y _ hb hh hr hfew))
  | pushZero h1 h2 => subst h1; subst h2; exact Ia.call_push kind k y 0 false h (by omega) (Ia.push_zero b v k y _ hb)
  | pushFull e0 r h1 hh hr => subst h1; exact Ia.call_push kind k y e0.1 true h (by omega) (Ia.push_full b v most e0 r k y _ hb hh hr (by omega))

end Go.Proofs.Ytelgglnamojegaa
