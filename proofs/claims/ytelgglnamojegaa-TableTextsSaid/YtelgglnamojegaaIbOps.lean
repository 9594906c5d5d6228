/-
  Contracts of table's Put, Drop, Push and Keys. Conditions: the table is in order, and it has no more than a thousand entries.
-/
import Derived.Test.YtelgglnamojegaaIbFind
import Derived.Test.YtelgglnamojegaaIbDel
import Derived.Deep.QuietTactic
import Derived.BigQuiet
import Derived.Deep.AppendLies
namespace Go.Proofs.Ytelgglnamojegaa.Ib
open Go.ChangeShapes Go.WideShapes Go.ChangeAt Go.RowKit
set_option linter.unusedVariables false

theorem below_drewN {n : Nat} {w w' : World} (h : Below n w w') (m : Nat) : Below n w (w'.drewN m) := ⟨h.os, h.tape, h.output, h.size, h.block⟩

/-- What a call leaves: the table, with these entries; only its own blocks have changed. -/
def After (w : World) (b : Nat) (v : Value) (most : Nat) (es : List (Int × Int)) (w' : World) : Prop :=
  ∃ v', Tab 65 72 (Value.int .i64) (Value.int .i64) w' b v' most es ∧ (∀ k, v'.ownBlock = some k → v.ownBlock = some k ∨ w.heap.size ≤ k) ∧ Chg (Own2 b v) w w'

theorem After.same {w w' : World} {b : Nat} {v : Value} {most : Nat} {es : List (Int × Int)} (h : Tab 65 72 (Value.int .i64) (Value.int .i64) w b v most es) (hb : Below w.heap.size w w') : After w b v most es w' :=
  ⟨v, h.below hb, fun k hk => .inl hk, Chg.of_below hb⟩

theorem After.andThen {w w1 w2 : World} {b : Nat} {v : Value} {most : Nat} {es fs : List (Int × Int)} (h : After w b v most es w1) (k : ∀ v1, Tab 65 72 (Value.int .i64) (Value.int .i64) w1 b v1 most es → After w1 b v1 most fs w2) : After w b v most fs w2 := by
  obtain ⟨v1, t1, o1, c1⟩ := h
  obtain ⟨v2, t2, o2, c2⟩ := k v1 t1
  refine ⟨v2, t2, fun i hi => ?_, c1.trans c2 ?_⟩
  · rcases o2 i hi with h' | h'
    · exact o1 i h'
    · right; have := c1.size; omega
  · rintro i hi (rfl | h')
    · exact .inl rfl
    · rcases o1 i h' with h'' | h''
      · exact .inr h''
      · omega

theorem After.pre {w w1 w2 : World} {b : Nat} {v : Value} {most : Nat} {es : List (Int × Int)} (hb : Below w.heap.size w w1) (h : After w1 b v most es w2) : After w b v most es w2 := by
  obtain ⟨v2, t2, o2, c2⟩ := h
  refine ⟨v2, t2, fun i hi => ?_, (Chg.of_below (S := Own2 b v) hb).trans c2 (fun _ _ e => e)⟩
  rcases o2 i hi with h' | h'
  · exact .inl h'
  · right; have := hb.size; omega

set_option maxHeartbeats 1000000 in
/-- Put, where the key is the i-th. -/
theorem put_hit (b : Nat) (v : Value) (most : Nat) (es : List (Int × Int)) (k : Int) (y : Int) (i : Nat) (w : World) (h : Tab 65 72 (Value.int .i64) (Value.int .i64) w b v most es) (hh : Hit es k i) :
    Calls Try.prog 30 #[.pointer (some ⟨b, 0, none⟩), (.int .i64 k), (.int .i64 y)] w fun e w' => e = .returned (.int .i64 0) ∧ After w b v most (es.set i (k, y)) w' := by
  have hf := find_hit b v most es k i w h hh
  have hlt := hh.lt
  obtain ⟨⟨y0, hy0⟩, _⟩ := hh
  rcases h.form with ⟨rfl, rfl⟩ | ⟨g, cap, cur, rfl, hne, hg, hcap, hm, hsz, htake⟩
  · simp at hlt
  · have HF := Lib.hid hf; clear hf
    have HT := Lib.hid h; clear h
    have HY := Lib.hid hy0; clear hy0
    have HG := Lib.hid (And.intro hg htake); clear hg htake hsz
    have hltI : (i : Int) < (es.length : Int) := by omega
    generalize hN : es.length = n at *
    have HN := Lib.hid hN; clear hN
    go_enter Try.func30, Try.ntmps30
    go_wp2_with fail
    refine HF.out.mono ?_
    rintro e w1 ⟨rfl, hb1⟩
    have ht := HT.out.below hb1
    have c1 := ht.cell1
    obtain ⟨hg, htake⟩ := HG.out
    have hg1 := (hb1.block g (lt_of_block hg)).trans hg
    have cv := val_cell hg1 htake HY.out
    have fv := free_of_block hg1 (i * 2 + 1)
    have hend := Tab.set (A := none) (by rw [HN.out]; exact ht) HY.out y
    have HE := Lib.hid hend; clear hend
    have HB := Lib.hid hb1; clear hb1
    clear ht hg htake hg1
    go_wp2
    go_ret
    refine ⟨rfl, After.pre HB.out ⟨_, HE.out, fun k hk => .inl ?_, (Chg.refl _ _).set (fun _ => .inr rfl) _ _⟩⟩
    rw [HN.out] at hk
    exact hk

set_option maxHeartbeats 1000000 in
/-- Put, where the key is not there and there is no room. -/
theorem put_full (b : Nat) (v : Value) (most : Nat) (es : List (Int × Int)) (k : Int) (y : Int) (w : World) (h : Tab 65 72 (Value.int .i64) (Value.int .i64) w b v most es) (hh : Miss es k) (hfull : es.length = most) :
    Calls Try.prog 30 #[.pointer (some ⟨b, 0, none⟩), (.int .i64 k), (.int .i64 y)] w fun e w' => e = .returned (.int .i64 9) ∧ After w b v most es w' := by
  have hf := find_miss b v most es k w h hh
  obtain ⟨A, cap, rfl⟩ : ∃ A cap, v = .slice A es.length cap := by
    rcases h.form with ⟨rfl, rfl⟩ | ⟨g, cap, cur, rfl, _⟩
    · exact ⟨_, _, rfl⟩
    · exact ⟨_, _, rfl⟩
  have hcap := h.cap
  rw [hfull] at h ⊢
  have HF := Lib.hid hf; clear hf
  have HT := Lib.hid h; clear h
  have HU := Lib.hid hfull; clear hfull
  have hle : decide ((most : Int) ≤ (most : Int)) = true := by simp
  go_enter Try.func30, Try.ntmps30
  go_wp2_with fail
  refine HF.out.mono ?_
  rintro e w1 ⟨rfl, hb1⟩
  have ht := HT.out.below hb1
  have c0 := ht.cell0
  have c1 := ht.cell1
  have HB := Lib.hid hb1; clear hb1
  clear ht
  go_wp2
  go_quiet (fail)
  go_wp2
  go_ret
  exact ⟨rfl, After.same HT.out (below_drewN HB.out _)⟩

/-- An entry is appended. -/
theorem push_after {w w2 : World} {b : Nat} {v : Value} {most : Nat} {es : List (Int × Int)} {k : Int} {y : Int} {o : Obj} {g cap n : Nat} (h : Tab 65 72 (Value.int .i64) (Value.int .i64) w b v most es) (hn : es.length = n) (hroom : n < most)
    (hown : w2.ownsRow 0 72 2 (.slice (some ⟨g, 0, none⟩) (n + 1) cap) (n + 1) (flat (Value.int .i64) (Value.int .i64) es ++ [(.int .i64 k), (.int .i64 y)])) (hgrow : (w.alloc o).grownBy w2 v.ownBlock) (hat : v.ownBlock = some g ∨ g = w.heap.size + 1) :
    w2.heap[b]? = some (.cells #[.int .i64 most, v] 65 (0, 0)) ∧ After w b v most (es ++ [(k, y)]) (w2.setCell ⟨b, 1, none⟩ (.slice (some ⟨g, 0, none⟩) (n + 1) cap)) := by
  have hb : (w.alloc o).heap[b]? = w.heap[b]? := Below.heap_alloc _ _ _ h.lt
  have h2 : w2.heap[b]? = some (.cells #[.int .i64 most, v] 65 (0, 0)) := by
    rw [hgrow.block b (by have := h.lt; simp; omega) (fun e => h.ne e.symm), hb]
    exact h.tab
  have hgb : g ≠ b := by
    rintro rfl
    rcases hat with h' | h'
    · exact h.ne h'
    · have := h.lt; omega
  have hlen : (es ++ [(k, y)]).length = n + 1 := by simp [hn]
  have hfl : flat (Value.int .i64) (Value.int .i64) (es ++ [(k, y)]) = flat (Value.int .i64) (Value.int .i64) es ++ [(.int .i64 k), (.int .i64 y)] := by rw [flat_append]; rfl
  refine ⟨h2, _, Tab.slice h2 (by rw [hlen, hfl]; exact hown) (fun e => by simp [Value.ownBlock] at e; exact hgb e) (by rw [hlen]; omega) h.cap, ?_, ?_⟩
  · intro i hi
    have : g = i := by simpa [Value.ownBlock] using hi
    subst this
    rcases hat with h' | h'
    · exact .inl h'
    · right; omega
  · have hc : Chg (Own2 b v) w w2 := by
      refine ⟨hgrow.os, hgrow.tape, hgrow.output, Nat.le_trans (by simp) hgrow.size, fun i hi hne => ?_⟩
      rw [hgrow.block i (by simp; omega) (fun e => hne (.inr e.symm))]
      exact Below.heap_alloc _ _ _ hi
    exact hc.set (fun _ => .inl rfl) _ _

set_option maxHeartbeats 2000000 in
set_option maxRecDepth 100000 in
/-- Put, where the key is not there and there is room. -/
theorem put_new (b : Nat) (v : Value) (most : Nat) (es : List (Int × Int)) (k : Int) (y : Int) (w : World) (h : Tab 65 72 (Value.int .i64) (Value.int .i64) w b v most es) (hh : Miss es k) (hroom : es.length < most) (hfew : es.length ≤ 1000) :
    Calls Try.prog 30 #[.pointer (some ⟨b, 0, none⟩), (.int .i64 k), (.int .i64 y)] w fun e w' => e = .returned (.int .i64 0) ∧ After w b v most (es ++ [(k, y)]) w' := by
  obtain ⟨i0, hi0, hz0, hz1, hz2⟩ := info_parts infoEntry
  have hf := find_miss b v most es k w h hh
  obtain ⟨A, cap, hv⟩ : ∃ A cap, v = .slice A es.length cap := by
    rcases h.form with ⟨rfl, rfl⟩ | ⟨g, cap, cur, rfl, _⟩
    · exact ⟨_, _, rfl⟩
    · exact ⟨_, _, rfl⟩
  have hcap := h.cap
  have HF := Lib.hid hf; clear hf
  have HT := Lib.hid h; clear h
  subst hv
  generalize hN : es.length = n at *
  have HN := Lib.hid hN; clear hN
  have hle : decide ((most : Int) ≤ (n : Int)) = false := by simp; omega
  have hle2 : decide (most ≤ n) = false := by simp; omega
  go_enter Try.func30, Try.ntmps30
  go_wp2_with fail
  refine HF.out.mono ?_
  rintro e w1 ⟨rfl, hb1⟩
  have ht := HT.out.below hb1
  have c0 := ht.cell0
  have c1 := ht.cell1
  have HB := Lib.hid hb1; clear hb1
  have HT1 := Lib.hid ht; clear ht
  go_wp2
  go_quiet (fail)
  have ht2 : Tab 65 72 (Value.int .i64) (Value.int .i64) (w1.drewN nq) b (.slice A n cap) most es := HT1.out.keep fun k _ => rfl
  have hb2 := below_drewN HB.out nq
  have HT2 := Lib.hid ht2; clear ht2
  have HB2 := Lib.hid hb2; clear hb2 HT1 HB
  go_wp2_with (at_builtin; refine wpList_append_lies _ rfl _ _ 63 rfl 0 72 i0 _ 2 16 Try.underlying63 hi0 hz0 hz1 hz2 rfl (by decide) (.slice A n cap) n (flat (Value.int .i64) (Value.int .i64) es) rfl ?o1 ⟨w1.heap.size, 0, none⟩ 1 1 [(.int .i64 k), (.int .i64 y)] rfl rfl ?o2 ?o3 (by omega) ?o4 ?o5 ?o6 (w1.heap.size + 1) ?o7 ?_)
  case o1 => have hr := HT2.out.row; rw [HN.out] at hr; exact hr.alloc _
  case o2 => exact World.news_of_block (heap_alloc_new (w1.drewN nq) _)
  case o3 => intro u hu; simp at hu; rcases hu with rfl | rfl <;> rfl
  case o4 => unfold maxLen; omega
  case o5 => omega
  case o6 => exact Nat.zero_le _
  case o7 => simp
  intro g cap2 w2 hown hgrow hat hgl
  obtain ⟨htab, haft⟩ := push_after HT2.out HN.out (by omega) hown hgrow hat
  have c1' : w2.cell? ⟨b, 1, none⟩ = some (.slice A n cap) := cell_of_row _ _ 1 _ _ _ htab
  have f1' := free_of_block htab 1
  have hbl := lt_of_block htab
  have HA := Lib.hid haft; clear haft htab hown hgrow hat
  go_wp2
  go_ret
  exact ⟨rfl, After.pre HB2.out HA.out⟩

theorem After.of_remove {w w' : World} {b : Nat} {v : Value} {most : Nat} {es : List (Int × Int)} (h : ∃ v', Tab 65 72 (Value.int .i64) (Value.int .i64) w' b v' most es ∧ v'.ownBlock = v.ownBlock ∧ Chg (Own2 b v) w w') : After w b v most es w' := by
  obtain ⟨v', t, o, c⟩ := h
  exact ⟨v', t, fun k hk => .inl (by rw [← o]; exact hk), c⟩

set_option maxHeartbeats 1000000 in
/-- Drop, where the key is the i-th. -/
theorem drop_hit (b : Nat) (v : Value) (most : Nat) (es : List (Int × Int)) (k : Int) (i : Nat) (w : World) (h : Tab 65 72 (Value.int .i64) (Value.int .i64) w b v most es) (hh : Hit es k i) :
    Calls Try.prog 14 #[.pointer (some ⟨b, 0, none⟩), (.int .i64 k)] w fun e w' => e = .returned (.bool true) ∧ After w b v most (es.eraseIdx i) w' := by
  have hf := find_hit b v most es k i w h hh
  have hlt := hh.lt
  have HF := Lib.hid hf; clear hf
  have HT := Lib.hid h; clear h
  have HL := Lib.hid hlt; clear hlt hh
  have hi0 : decide ((i : Int) < 0) = false := by simp
  go_enter Try.func14, Try.ntmps14
  go_wp2_with fail
  refine HF.out.mono ?_
  rintro e w1 ⟨rfl, hb1⟩
  have HB := Lib.hid hb1; clear hb1
  go_wp2_with fail
  refine (remove_any b v most es i w1 (HT.out.below HB.out) HL.out).mono ?_
  rintro e w2 ⟨rfl, h2⟩
  have HA := Lib.hid (After.of_remove h2); clear h2
  go_wp2
  go_ret
  exact ⟨rfl, After.pre HB.out HA.out⟩

set_option maxHeartbeats 1000000 in
/-- Drop, where the key is not there. -/
theorem drop_miss (b : Nat) (v : Value) (most : Nat) (es : List (Int × Int)) (k : Int) (w : World) (h : Tab 65 72 (Value.int .i64) (Value.int .i64) w b v most es) (hh : Miss es k) :
    Calls Try.prog 14 #[.pointer (some ⟨b, 0, none⟩), (.int .i64 k)] w fun e w' => e = .returned (.bool false) ∧ After w b v most es w' := by
  have hf := find_miss b v most es k w h hh
  have HF := Lib.hid hf; clear hf
  have HT := Lib.hid h; clear h hh
  go_enter Try.func14, Try.ntmps14
  go_wp2_with fail
  refine HF.out.mono ?_
  rintro e w1 ⟨rfl, hb1⟩
  have HB := Lib.hid hb1; clear hb1
  go_wp2
  go_ret
  exact ⟨rfl, After.same HT.out HB.out⟩

/-- New. -/
theorem new_any (m : Int) (w : World) (hm : m ≤ 9223372036854775807) :
    Calls Try.prog 12 #[.int .i64 m] w fun e w' => e = .returned (.pointer (some ⟨w.heap.size, 0, none⟩)) ∧ Tab 65 72 (Value.int .i64) (Value.int .i64) w' w.heap.size (.slice none 0 0) m.toNat [] ∧ Below w.heap.size w w' := by
  have htab : ∀ n : Nat, n ≤ 9223372036854775807 → Tab 65 72 (Value.int .i64) (Value.int .i64) (w.alloc (.cells #[.int .i64 n, .slice none 0 0] 65)) w.heap.size (.slice none 0 0) n [] := fun n hn =>
    ⟨heap_alloc_new w _, ⟨rfl, .inl ⟨rfl, rfl⟩⟩, by simp [Value.ownBlock], Nat.zero_le _, hn⟩
  have HT := Lib.hid htab; clear htab
  by_cases h0 : 0 ≤ m
  · have hmx : max m 0 = m := by omega
    obtain ⟨n, rfl⟩ := Int.eq_ofNat_of_zero_le h0
    go_enter Try.func12, Try.ntmps12
    go_wp2
    go_ret
    exact ⟨rfl, by simpa using HT.out n (by omega), (Below.refl _ _).alloc (Nat.le_refl _) _⟩
  · have hmx : max m 0 = 0 := by omega
    have hz : m.toNat = 0 := by omega
    have HZ := Lib.hid hz; clear hz
    go_enter Try.func12, Try.ntmps12
    go_wp2
    go_ret
    exact ⟨rfl, by rw [HZ.out]; exact HT.out 0 (by omega), (Below.refl _ _).alloc (Nat.le_refl _) _⟩

end Go.Proofs.Ytelgglnamojegaa.Ib
