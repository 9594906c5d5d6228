/-
  Contracts of item's copyList at two leaves: copyOf, and the whole. Conditions: none but that the leaves lie in memory.
-/
import Derived.Test.YtpmepnejjjlodaaCopyC
namespace Go.Proofs.Ytpmepnejjjlodaa
open Go.ChangeShapes Go.WideShapes Go.ChangeAt Go.RowKit Go.MapKept
open Plain
set_option linter.unusedVariables false

theorem addr_add (g j : Nat) : ((⟨g, 0, none⟩ : Addr).add j) = ⟨g, j, none⟩ := by
  simp [Addr.add]
  exact fun h => h.symm

theorem Try.infoItem : (Try.prog.info? 25).map (fun i => (i.zero, i.size, i.bytes)) = some (some (.agg #[.int .i64 0, .int .u64 0, .string ⟨#[]⟩, .slice none 0 0, .bool false]), 5, 64) := by kernel_rfl

set_option maxHeartbeats 1000000 in
set_option maxRecDepth 100000 in
/-- slices.Clone at two leaves. -/
theorem clone_two (k : Int) (n : Nat) (s : ByteArray) (k' : Int) (n' : Nat) (s' : ByteArray) (g : Nat) (w : World) (hg : w.heap[g]? = some (.cells (twoCells k n s k' n' s').toArray 25 (0, 0))) :
    Calls Try.prog 65 #[.slice (some ⟨g, 0, none⟩) 2 2] w fun e w' => ∃ v, e = .returned v ∧ w'.ownsRow w.heap.size 25 5 v 2 (twoCells k n s k' n' s') ∧ Below w.heap.size w w' := by
  obtain ⟨i0, hi, hz0, hz1, hz2⟩ := info_parts Try.infoItem
  have hlt : g < w.heap.size := by
    rcases Nat.lt_or_ge g w.heap.size with h' | h'
    · exact h'
    · simp [Array.getElem?_eq_none h'] at hg
  have q23 : ∀ (w : World) (a : Option Addr) (n c n' c' : Nat), (binOp .eql 23 (.slice a n c) (.slice none n' c')).run Try.prog w = .ok (.bool a.isNone) w := fun w a n c n' c' => Lib.run_eql_slice_nil w _ _ a n c n' c' Try.underlying23
  go_enter Try.func65, Try.ntmps65
  have hcell : ∀ j u, (twoCells k n s k' n' s')[j]? = some u → w.cell? ((⟨g, 0, none⟩ : Addr).add j) = some u := by
    intro j u hj
    have := cell_of_row w g j _ _ _ hg
    rw [addr_add, this]
    simpa using hj
  go_wp2_with (at_builtin; refine wpList_append_own_wide _ rfl _ _ 23 rfl w.heap.size 25 i0 _ 5 64 Try.underlying23 hi hz0 hz1 hz2 rfl (by decide) _ 0 [] rfl (World.ownsRow_lit (base := w.heap.size) (e := 25) (size := 5) w #[] 0 (Nat.le_refl _) (by unfold maxLen; omega) rfl) ⟨g, 0, none⟩ 2 2 (twoCells k n s k' n' s') rfl rfl ?c1 ?c2 ?c3 ?c4 ?c5 ?_)
  case c1 =>
    intro j u hj
    have h := hcell j u hj
    rw [addr_add] at h ⊢
    rw [World.cell?_of_block (w := w) (a := ⟨g, j, none⟩) (Below.heap_alloc w _ g hlt)]
    exact h
  case c2 => intro u hu; simp only [twoCells, List.mem_cons, List.not_mem_nil, or_false] at hu; rcases hu with rfl | rfl | rfl | rfl | rfl | rfl | rfl | rfl | rfl | rfl <;> rfl
  case c3 => unfold maxLen; omega
  case c4 => omega
  case c5 => simp
  intro v' w1 hown' hgrow _
  have hb1 : Below w.heap.size w w1 := ((Below.refl _ _).alloc (Nat.le_refl _) _).grown hgrow (by simp) (fun g hg => by simp [Value.ownBlock] at hg; omega)
  have HO := Lib.hid hown'; clear hown'
  clear hgrow
  go_wp2
  go_ret
  exact ⟨_, rfl, HO.out, hb1⟩

theorem setCell_same {w : World} {b i : Nat} {v : Value} {cs : Array Value} {t : TypeId} {fr : Nat × Nat} (h : w.heap[b]? = some (.cells cs t fr)) (hv : cs[i]? = some v) : w.setCell ⟨b, i, none⟩ v = w := by
  have hh : (w.setCell ⟨b, i, none⟩ v).heap = w.heap := by
    apply Array.ext_getElem?
    intro k
    by_cases hk : k = b
    · subst hk
      simp only [World.setCell, Array.getElem?_modify, h]
      simp
      obtain ⟨hi, rfl⟩ := Array.getElem?_eq_some_iff.1 hv
      apply Array.ext_getElem?
      intro j
      rw [Array.getElem?_setIfInBounds]
      split
      · rename_i hj
        subst hj
        simp [hi]
      · rfl
    · exact Below.heap_setCell _ _ _ _ hk
  have : w.setCell ⟨b, i, none⟩ v = { w with heap := (w.setCell ⟨b, i, none⟩ v).heap } := rfl
  rw [this, hh]


/-- The row of a copy. -/
theorem own_two {w : World} {B : Nat} {v : Value} {k : Int} {n : Nat} {s : ByteArray} {k' : Int} {n' : Nat} {s' : ByteArray} (h : w.ownsRow B 25 5 v 2 (twoCells k n s k' n' s')) :
    ∃ g' cap cur, v = .slice (some ⟨g', 0, none⟩) 2 cap ∧ B ≤ g' ∧ w.heap[g']? = some (.cells cur 25 (0, 0)) ∧ 2 ≤ cap ∧ ∀ (i : Nat) (u : Value), (twoCells k n s k' n' s')[i]? = some u → cur[i]? = some u := by
  rcases h.2 with ⟨_, hz⟩ | ⟨g', cap, cur, hv, h1, hg, hcap, hcm, hsz, htake⟩
  · omega
  · refine ⟨g', cap, cur, hv, h1, hg, hcap, ?_⟩
    intro i u hi
    rw [← htake, List.getElem?_take] at hi
    split at hi
    · simpa using hi
    · cases hi

set_option maxHeartbeats 1000000 in
theorem copyOf_nil (M : Nat) (X : World) : Calls Try.prog 49 #[.pointer (some ⟨M + 1, 0, none⟩), .slice none 0 0] X fun e w' => e = .returned (.slice none 0 0) ∧ w' = X := by
  go_enter Try.func49, Try.ntmps49
  go_wp2
  go_ret
  exact ⟨rfl, rfl⟩

/-- What copyOf leaves. -/
def Copied (W : World) (M g K : Nat) (k : Int) (n : Nat) (s : ByteArray) (k' : Int) (n' : Nat) (s' : ByteArray) (g' cap : Nat) (S cp : Nat) (stk : Nat) (xs : List Value) (w' : World) : Prop :=
  M + 2 ≤ g' ∧ S ≠ g' ∧ 2 ≤ cap ∧ Cp W M (oneMap g K) 1 (.slice (some ⟨S, 0, none⟩) stk cp) xs 2 w' ∧ ∃ cur, w'.heap[g']? = some (.cells cur 25 (0, 0)) ∧ ∀ (i : Nat) (u : Value), (twoCells k n s k' n' s')[i]? = some u → cur[i]? = some u

set_option maxHeartbeats 4000000 in
set_option maxRecDepth 100000 in
theorem copyOf_two (W : World) (M : Nat) (g K S0 cap0 : Nat) (X : World) (h : Cp W M (oneMap g K) 1 (.slice (some ⟨S0, 0, none⟩) 0 cap0) [] 2 X) (hkn : X.heap[K]? = some (knownV false 2)) (hK : M + 2 ≤ K) (hS : S0 ≠ K)
    (k : Int) (n : Nat) (s : ByteArray) (k' : Int) (n' : Nat) (s' : ByteArray) (hg : W.heap[g]? = some (.cells (twoCells k n s k' n' s').toArray 25 (0, 0))) (hM : M = W.heap.size) :
    Calls Try.prog 49 #[.pointer (some ⟨M + 1, 0, none⟩), .slice (some ⟨g, 0, none⟩) 2 2] X fun e w' => ∃ g' cap S cp, e = .returned (.slice (some ⟨g', 0, none⟩) 2 cap) ∧ Copied W M g K k n s k' n' s' g' cap S cp 1 [.slice (some ⟨g', 0, none⟩) 2 cap] w' := by
  have c0 := h.c0
  have lk := look_one g M (.pointer (some ⟨K, 0, none⟩)) X h.map
  have hk : ∀ Z, Cp W M (oneMap g K) 1 (.slice (some ⟨S0, 0, none⟩) 0 cap0) [] 2 Z → Z.cell? ⟨M + 1, 0, none⟩ = some (.map (some M)) ∧ (Instr.lookup 78 (.map (some M)) (keyV g) false).run Try.prog Z = .ok (.pointer (some ⟨K, 0, none⟩)) Z := fun Z hZ => ⟨hZ.c0, look_one g M _ Z hZ.map⟩
  have HK := Lib.hid hk; clear hk
  have HC := Lib.hid (And.intro h hkn); clear h hkn
  have HG := Lib.hid (And.intro hg hM); clear hg hM
  have q23 : ∀ (w : World) (a : Option Addr) (n c n' c' : Nat), (binOp .eql 23 (.slice a n c) (.slice none n' c')).run Try.prog w = .ok (.bool a.isNone) w := fun w a n c n' c' => Lib.run_eql_slice_nil w _ _ a n c n' c' Try.underlying23
  go_enter Try.func49, Try.ntmps49
  go_upto_region 3 with fail
  go_cut [5] (fun s5 wc => s5 = .pointer (some ⟨K, 0, none⟩) ∧ Cp W M (oneMap g K) 1 (.slice (some ⟨S0, 0, none⟩) 0 cap0) [] 2 wc ∧ wc.heap[K]? = some (knownV false 2))
  case first =>
    go_region_held3 (fun Z => Z.cell? ⟨M + 1, 0, none⟩ = some (.map (some M)) ∧ (Instr.lookup 78 (.map (some M)) (keyV g) false).run Try.prog Z = .ok (.pointer (some ⟨K, 0, none⟩)) Z)
      ((refine HK.out _ ?_; first | exact HC.out.1 | exact HC.out.1.drew | exact HCP.out | exact HCP.out.drew))
      (first | (go_at_call 62; with_reducible refine (place_two g 2 _).mono ?_; rintro e w' ⟨rfl, hb⟩; have HCP := Lib.hid (HC.out.1.drew.next hb); have HB := Lib.hid hb; clear hb))
    all_goals (go_wp2_with fail; go_meet)
    all_goals exact ⟨rfl, HCP.out, (HB.out.block K (lt_of_obj HC.out.2)).trans HC.out.2⟩
  case rest =>
    obtain ⟨rfl, hcp3, hkn3⟩ := hcut
    have k2 : wc.cell? ⟨K, 2, none⟩ = some (.slice none 0 0) := cell_of_row wc _ 2 _ _ _ hkn3
    have hcl := clone_two k n s k' n' s' g wc ((hcp3.below.block g (by have := lt_of_obj HG.out.1; have := HG.out.2; omega)).trans HG.out.1)
    have HCL := Lib.hid hcl; clear hcl
    have HR := Lib.hid (And.intro hcp3 hkn3); clear hcp3 hkn3 lk c0 HC HK
    go_wp2_with fail
    refine HCL.out.mono ?_
    rintro e w4 ⟨v, rfl, hown, hb4⟩
    obtain ⟨g', cap, cur, rfl, hg1, hg2, hcap, hcur⟩ := own_two hown
    have hcp4 := HR.out.1.next hb4
    have hkn4 := (hb4.block K (lt_of_obj HR.out.2)).trans HR.out.2
    have hS0 := (row_lt HR.out.1.row S0 rfl).2
    have hz3 := HR.out.1.size
    have m0 : w4.cell? ⟨K, 0, none⟩ = some (.bool false) := cell_of_row w4 _ 0 _ _ _ hkn4
    have m2 := hcp4.c2
    have hpu := push_any W M _ _ _ _ _ w4 hcp4 (by simp) (some ⟨g', 0, none⟩) 2 cap
    have HPU := Lib.hid hpu; clear hpu
    have hg2lt := lt_of_obj hg2
    have HX := Lib.hid (And.intro hg2 hcur); clear hg2 hcur hown hb4 hcp4 hkn4 k2
    go_wp2_with fail
    refine HPU.out.mono ?_
    rintro e w5 ⟨rfl, S, cp, hcp5, hat, hoth⟩
    have hSg : S ≠ g' := by
      rcases hat with h' | h'
      · simp [Value.ownBlock] at h'; omega
      · omega
    have hfin : Copied W M g K k n s k' n' s' g' cap S cp 1 [.slice (some ⟨g', 0, none⟩) 2 cap] w5 :=
      ⟨by omega, hSg, hcap, by simpa using hcp5, cur, (hoth g' hg2lt (by omega) (by simp [Value.ownBlock]; omega)).trans HX.out.1, HX.out.2⟩
    have HF := Lib.hid hfin; clear hfin hcp5 hat hoth
    go_wp2
    go_ret
    exact ⟨g', cap, S, cp, rfl, HF.out⟩

end Go.Proofs.Ytpmepnejjjlodaa
