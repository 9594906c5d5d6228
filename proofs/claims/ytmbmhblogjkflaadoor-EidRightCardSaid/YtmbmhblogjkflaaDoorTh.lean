/-
  Contract of the copier's copyOf at a list. Conditions: the tree lies in memory; its lists are counted.
-/
import Derived.Test.YtmbmhblogjkflaaDoorTg
namespace Go.Proofs.YtmbmhblogjkflaaDoor
namespace Tree
open Go.ChangeShapes Go.WideShapes Go.ChangeAt Go.RowKit Go.MapKept
open Nd
set_option linter.unusedVariables false
set_option maxRecDepth 100000

theorem Lst.below {w w' : World} {B : Nat} {x : Nd} (h : Lst w x) (hb : Below B w w') (hB : w.heap.size ≤ B) : Lst w' x := by
  have hlt := h.row.lt
  refine ⟨h.row.keep (hb.block _ (by omega)), h.pos, h.few, fun i y hy => ?_⟩
  obtain ⟨k, n, s, v, o, hc, hv⟩ := h.els i y hy
  exact ⟨k, n, s, v, o, hc.below hb (by omega), hv⟩
theorem src_below {w w' : World} {B g n : Nat} (hb : Below B w w') (hg : g < B) : src w' g n = src w g n := by
  unfold src
  refine List.map_congr_left fun i _ => ?_
  rw [hb.cell (p := ⟨g, i, none⟩) hg]

set_option maxHeartbeats 4000000 in
theorem copyOf_at {W X : World} {M : Nat} {root : Nd} {K : Nat → Nat} {ent : List Nd} {P : List Nat} {xs : List Value} {tot : Nat} (hP : Pq W M K ent P xs tot X) (hM : M = W.heap.size) (hF : Forest W root) (hsub : ∀ y ∈ ent, y ∈ root.all) {z : Nd} (hz : z ∈ ent) (hKP : K z.g ∈ P) {c : Nat} (hkn : X.heap[K z.g]? = some (knownV false c)) (htot : tot ≤ 1000000) (hlen : xs.length ≤ 2000000) (cap : Nat) :
    Calls Tryd.prog 49 #[.pointer (some ⟨M + 1, 0, none⟩), .slice (some ⟨z.g, 0, none⟩) z.n cap] X fun e w' => ∃ h cap' cur, e = .returned (.slice (some ⟨h, 0, none⟩) z.n cap') ∧ X.heap.size ≤ h ∧
      Pq W M K ent (h :: P) (xs ++ [.slice (some ⟨h, 0, none⟩) z.n cap']) tot w' ∧ (∀ k ∈ P, w'.heap[k]? = X.heap[k]?) ∧ w'.heap[h]? = some (.cells cur 29 (0, 0)) ∧ ∀ (i : Nat) (u : Value), (src W z.g z.n)[i]? = some u → cur[i]? = some u := by
  have c0 := hP.c0
  have hL := hF.lst z (hsub z hz)
  have hpos := hL.pos
  have hzlt := hL.row.lt
  have hk : ∀ Z, Pq W M K ent P xs tot Z → Z.cell? ⟨M + 1, 0, none⟩ = some (.map (some M)) ∧ (Instr.lookup 62 (.map (some M)) (keyP z.g z.n) false).run Tryd.prog Z = .ok (.pointer (some ⟨K z.g, 0, none⟩)) Z := fun Z hZ => ⟨hZ.c0, hZ.look hM hF hsub hz⟩
  have HK := Lib.hid hk; clear hk
  have HPL := Lib.hid (fun w => place_any z.g z.n cap w hpos)
  have hcl : ∀ Z, Pq W M K ent P xs tot Z → Calls Tryd.prog 63 #[.slice (some ⟨z.g, 0, none⟩) z.n cap] Z fun e w' => ∃ h cap' cur, e = .returned (.slice (some ⟨h, 0, none⟩) z.n cap') ∧ Z.heap.size ≤ h ∧ w'.heap[h]? = some (.cells cur 29 (0, 0)) ∧ (∀ (i : Nat) (u : Value), (src W z.g z.n)[i]? = some u → cur[i]? = some u) ∧ Below Z.heap.size Z w' := fun Z hZ => by
    have hbZ := hZ.below
    refine (clone_any (hL.below hbZ (by omega)) cap).mono ?_
    rintro e w' ⟨v, rfl, hown, hb⟩
    rw [src_below hbZ (by omega)] at hown
    obtain ⟨h, cap', cur, rfl, h1, h2, h3⟩ := own_any hown hpos
    exact ⟨h, cap', cur, rfl, h1, h2, h3, hb⟩
  have HCL := Lib.hid hcl; clear hcl
  have HC := Lib.hid (And.intro hP hkn); clear hP hkn
  have HP := Lib.hid (And.intro hKP hlen)
  obtain ⟨us, hus⟩ : ∃ l, l = src W z.g z.n := ⟨_, rfl⟩
  obtain ⟨g, hgx⟩ : ∃ l, l = z.g := ⟨_, rfl⟩
  obtain ⟨n, hnx⟩ : ∃ l, l = z.n := ⟨_, rfl⟩
  obtain ⟨kz, hkz⟩ : ∃ l, l = K z.g := ⟨_, rfl⟩
  rw [← hus] at HCL ⊢
  rw [← hkz] at HK HC HP
  rw [← hgx, ← hnx] at HK HPL HCL ⊢
  rw [← hnx] at hpos
  have hd1 : ((n : Int) == 0) = false := by simp; omega
  have hd2 : decide ((n : Int) = 0) = false := by simp; omega
  have hd3 : decide ((2147483647 : Int) < (tot : Int)) = false := by simp; omega
  clear hus hgx hnx hkz hL hzlt hM hF hsub hz hKP hlen htot
  have q23 : ∀ (w : World) (a : Option Addr) (n c n' c' : Nat), (binOp .eql 27 (.slice a n c) (.slice none n' c')).run Tryd.prog w = .ok (.bool a.isNone) w := fun w a n c n' c' => Lib.run_eql_slice_nil w _ _ a n c n' c' Tryd.underlying27
  go_enter Tryd.func49, Tryd.ntmps49
  go_upto_region 3 with fail
  go_cut [5] (fun s5 wc => s5 = .pointer (some ⟨kz, 0, none⟩) ∧ Pq W M K ent P xs tot wc ∧ Below X.heap.size X wc)
  case first =>
    go_region_held3 (fun Z => Z.cell? ⟨M + 1, 0, none⟩ = some (.map (some M)))
      ((refine (HK.out _ ?_).1; first | exact HC.out.1 | exact HC.out.1.drew | exact HCP.out | exact HCP.out.drew))
      (first | (go_at_call 60; with_reducible refine (HPL.out _).mono ?_; rintro e w' ⟨rfl, hb⟩; have hcp := HC.out.1.drew.next hb; have lk := (HK.out _ hcp).2; have HCP := Lib.hid hcp; have HB := Lib.hid (bx1 hb); clear hb hcp))
    all_goals (go_wp2_with fail; go_meet)
    all_goals exact ⟨rfl, HCP.out, HB.out⟩
  case rest =>
    obtain ⟨rfl, hcp3, hb3⟩ := hcut
    have hkn3 : wc.heap[kz]? = some (knownV false c) := (hb3.block kz (lt_of_obj HC.out.2)).trans HC.out.2
    have k2 : wc.cell? ⟨kz, 2, none⟩ = some (.slice none 0 0) := cell_of_row wc _ 2 _ _ _ hkn3
    have HCL' := Lib.hid (HCL.out _ hcp3)
    have HR := Lib.hid (And.intro hcp3 (And.intro hb3 hkn3)); clear hcp3 hb3 hkn3 c0 HK HCL
    go_wp2_with fail
    refine HCL'.out.mono ?_
    rintro e w4 ⟨h, cap', cur, rfl, hh, hcur, hus, hb4⟩
    have hcp4 := HR.out.1.add hb4 hh (lt_of_obj hcur)
    have hkn4 := (hb4.block kz (lt_of_obj HR.out.2.2)).trans HR.out.2.2
    have m0 : w4.cell? ⟨kz, 0, none⟩ = some (.bool false) := cell_of_row w4 _ 0 _ _ _ hkn4
    have m2 := hcp4.c2
    have hkeep : ∀ k ∈ P, w4.heap[k]? = X.heap[k]? := fun k hk => by
      obtain ⟨st, cc, hp⟩ := HC.out.1
      have h1 := (hp k hk).2.1
      exact (hb4.block k (Nat.lt_of_lt_of_le h1 HR.out.2.1.size)).trans (HR.out.2.1.block k h1)
    have hXh : X.heap.size ≤ h := Nat.le_trans HR.out.2.1.size hh
    have HPU := Lib.hid (hcp4.push HP.out.2 (some ⟨h, 0, none⟩) n cap')
    have HX := Lib.hid (And.intro hcur (And.intro hus (And.intro hkeep hXh)))
    clear hh hcur hus hb4 hcp4 hkn4 k2 hkeep hXh
    go_wp2_with fail
    refine HPU.out.mono ?_
    rintro e w5 ⟨rfl, hp5, hk5⟩
    have HF := Lib.hid (And.intro hp5 hk5); clear hp5 hk5
    go_wp2
    go_ret
    exact ⟨h, cap', cur, rfl, HX.out.2.2.2, HF.out.1, fun k hk => (HF.out.2 k (List.mem_cons_of_mem _ hk)).trans (HX.out.2.2.1 k hk), (HF.out.2 h List.mem_cons_self).trans HX.out.1, HX.out.2.1⟩
end Tree
end Go.Proofs.YtmbmhblogjkflaaDoor
