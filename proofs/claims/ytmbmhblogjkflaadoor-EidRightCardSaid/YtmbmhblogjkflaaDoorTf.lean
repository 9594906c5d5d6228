/-
  Contract of the copier's count. Conditions: the tree lies in memory; the copier is as it was made.
-/
import Derived.Test.YtmbmhblogjkflaaDoorTe
namespace Go.Proofs.YtmbmhblogjkflaaDoor
namespace Tree
open Go.ChangeShapes Go.WideShapes Go.ChangeAt Go.RowKit Go.MapKept
open Nd
set_option linter.unusedVariables false
set_option maxRecDepth 100000

theorem least_of {P : Nat → World → Prop} {w : World} (h : ∃ n, P n w) : ∃ n, P n w ∧ ∀ m, P m w → n ≤ m := by
  obtain ⟨n, hn⟩ := h
  induction n using Nat.strongRecOn with
  | ind n ih =>
    by_cases h : ∃ m, m < n ∧ P m w
    · obtain ⟨m, hm, hp⟩ := h
      exact ih m hm hp
    · exact ⟨n, hn, fun m hm => Nat.le_of_not_lt fun hlt => h ⟨m, hlt, hm⟩⟩
/-- The least number of rounds left. -/
noncomputable def leftAt (P : Nat → World → Prop) (w : World) : Nat := @dite _ (∃ n, P n w) (Classical.propDecidable _) (fun h => Classical.choose (least_of h)) (fun _ => 0)
theorem leftAt_spec {P : Nat → World → Prop} {w : World} (h : ∃ n, P n w) : P (leftAt P w) w ∧ ∀ m, P m w → leftAt P w ≤ m := by
  unfold leftAt
  rw [dif_pos h]
  exact Classical.choose_spec (least_of h)

theorem all_sub {root : Nd} : ∀ {x y : Nd}, x ∈ all root → y ∈ x.subs → y ∈ all root := by
  refine ind (P := fun root => ∀ {x y : Nd}, x ∈ all root → y ∈ x.subs → y ∈ all root) ?_ ?_ root
  · intro x y h; simp [all] at h
  · intro q l ih x y hx hy
    simp only [all, List.mem_cons, mem_allOf] at hx ⊢
    rcases hx with rfl | ⟨z, hz, hx⟩
    · obtain ⟨h1, h2⟩ := List.mem_filter.1 hy
      exact .inr ⟨y, h1, self_mem h2⟩
    · exact .inr ⟨z, hz, ih z hz hx hy⟩

/-- The states that counting goes through. -/
def Counting (W : World) (M : Nat) (root : Nd) (t : Sg) (B n : Nat) (w : World) : Prop :=
  ∃ s K xs, Runs B s t n ∧ Sx W M root K s.ent s.done xs 0 w ∧ Shps s.stack.reverse xs ∧ ∀ y ∈ s.stack, y ∈ root.all

theorem Shps.last {r : List Nd} {x : Nd} {vs : List Value} (h : Shps (x :: r).reverse vs) : ∃ ws v, vs = ws ++ [v] ∧ Shps r.reverse ws ∧ Shp x v := by
  rw [List.reverse_cons] at h
  obtain ⟨a, b, e, h1, h2⟩ := h.split
  cases b with
  | nil => exact h2.elim
  | cons v b =>
    cases b with
    | nil => exact ⟨a, v, e, h1, h2.1⟩
    | cons u b => exact h2.2.elim

theorem Sx.total {W X : World} {M : Nat} {root : Nd} {K : Nat → Nat} {ent : List Nd} {done : List Nat} {xs : List Value} {tot : Nat} (h : Sx W M root K ent done xs tot X) (t : Nat) : Sx W M root K ent done xs t (X.setCell ⟨M + 1, 2, none⟩ (.int .u64 t)) := by
  obtain ⟨st, c, hs⟩ := h.cp
  exact ⟨⟨st, c.total t, hs⟩, fun y hy => (Below.heap_setCell _ _ _ _ (by have := h.lo y hy; dsimp only; omega)).trans (h.known y hy), h.lo, h.inj, h.sub⟩

set_option maxHeartbeats 8000000 in
theorem count_any {W X : World} {M : Nat} {root : Nd} (hS : Sx W M root (fun _ => 0) [] [] [] 0 X) (hM : M = W.heap.size) (hF : Forest W root) (cap : Nat) :
    Calls Tryd.prog 48 #[.pointer (some ⟨M + 1, 0, none⟩), .slice (some ⟨root.g, 0, none⟩) root.n cap] X fun e w' => e = .returned (.tuple #[]) ∧ ∃ K ent done, Sx W M root K ent done [] (cnt root) w' ∧ (∀ y, y ∈ ent ↔ y ∈ all root) ∧ ∀ q, q ∈ done ↔ q ∈ gs root := by
  obtain ⟨n0, ent, done, hruns, hent, hdone⟩ := one_all root hF.isAt (cnt root + 1) [] [] [] (by simp) (by simp) (by simp) hF.nodup
  rw [List.nil_append] at hruns
  have hrt := self_mem hF.isAt
  have hpos := (hF.lst root hrt).pos
  have hcl := hF.few
  have HPU := Lib.hid (hS.push (by simp) (some ⟨root.g, 0, none⟩) root.n cap)
  have hshp : ∀ v : Value, v = .slice (some ⟨root.g, 0, none⟩) root.n cap → Shps [root].reverse [v] := fun v hv => by
    refine ⟨?_, trivial⟩
    rw [hv]
    have h1 := hF.isAt
    revert hpos h1
    cases root with
    | no => intro _ h; cases h
    | «at» q l => intro hpos _; exact ⟨cap, rfl, hpos⟩
  obtain ⟨t, ht⟩ : ∃ t, t = (⟨[], ent, done⟩ : Sg) := ⟨_, rfl⟩
  obtain ⟨B, hB⟩ : ∃ B, B = cnt root + 1 := ⟨_, rfl⟩
  rw [← ht, ← hB] at hruns
  have h0 : ∀ w1, Sx W M root (fun _ => 0) [] [] ([] ++ [.slice (some ⟨root.g, 0, none⟩) root.n cap]) 0 w1 → ∃ n, Counting W M root t B n w1 := fun w1 h1 =>
    ⟨n0, ⟨[root], [], []⟩, _, _, hruns, h1, hshp _ rfl, fun y hy => by rw [List.mem_singleton.1 hy]; exact hrt⟩
  have H0 := Lib.hid h0; clear h0
  have HE := Lib.hid (And.intro hent (And.intro hdone (And.intro hM (And.intro hF (And.intro hrt (And.intro hB (And.intro ht hcl)))))))
  obtain ⟨gx, hgx⟩ : ∃ q, q = root.g := ⟨_, rfl⟩
  obtain ⟨n, hnn⟩ : ∃ n, n = root.n := ⟨_, rfl⟩
  have HPL := Lib.hid (fun w => place_any root.g root.n cap w hpos)
  have HN := Lib.hid (And.intro hgx hnn)
  rw [← hgx, ← hnn] at HPU H0 HPL ⊢
  clear hS hent hdone hruns hpos hshp hM hF hrt hB ht hcl hgx hnn
  go_enter Tryd.func48, Tryd.ntmps48
  go_wp2_with fail
  refine HPU.out.mono ?_
  rintro e w1 ⟨rfl, hs1⟩
  have HW1 := Lib.hid (H0.out w1 hs1); clear hs1 HPU H0
  go_wp2_with fail
  go_loopw [] (fun wr => ∃ n, Counting W M root t B n wr) (fun wr => leftAt (Counting W M root t B) wr)
  case atStart => exact HW1.out
  case round =>
    obtain ⟨hcnt, hmin⟩ := leftAt_spec hrel
    generalize hmm : leftAt (Counting W M root t B) wr = mm at hcnt hmin ⊢
    have HMM := Lib.hid hmm; clear hmm hmin hrel HW1
    obtain ⟨s, K, xs, hruns, hS, hshp, hall⟩ := hcnt
    cases hruns with
    | nil =>
      obtain ⟨hent, hdone, hM, hF, hrt, hB, ht, hcl⟩ := HE.out
      rw [ht] at hS hshp
      obtain rfl : xs = [] := by
        cases xs with
        | nil => rfl
        | cons v vs => exact (show Shps [] (v :: vs) from hshp).elim
      obtain ⟨A, cp, cst⟩ := hS.stack_none
      have hre : root ∈ ent := (hent root).2 hrt
      have hrd : root.g ∈ done := (hdone _).2 (.inr (g_mem hF.isAt))
      have hk : ∀ Z, Sx W M root K ent done [] 0 Z → Z.cell? ⟨M + 1, 0, none⟩ = some (.map (some M)) ∧ (Instr.lookup 62 (.map (some M)) (keyP root.g root.n) false).run Tryd.prog Z = .ok (.pointer (some ⟨K root.g, 0, none⟩)) Z ∧
          Z.cell? ⟨K root.g, 0, none⟩ = some (.bool false) ∧ Z.cell? ⟨K root.g, 1, none⟩ = some (.int .u64 (cnt root : Nat)) ∧ Z.frozen? ⟨M + 1, 2, none⟩ = false ∧ Z.cell? ⟨M + 1, 2, none⟩ = some (.int .u64 (0 : Nat)) := fun Z hZ => by
        obtain ⟨st, c, -⟩ := hZ.cp
        exact ⟨hZ.c0, hZ.look_in hM hF hre, cell_of_row Z _ 0 _ _ _ (hZ.done_known hre hrd), cell_of_row Z _ 1 _ _ _ (hZ.done_known hre hrd), c.free 2, c.c2⟩
      have HT := Lib.hid (fun (Z : World) (hZ : Sx W M root K ent done [] 0 Z) => hZ.total (cnt root))
      have hdone' : ∀ q, q ∈ done ↔ q ∈ gs root := fun q => by rw [hdone]; simp
      have HC := Lib.hid hS
      have HP := Lib.hid (And.intro hent hdone')
      obtain ⟨hgx, hnn⟩ := HN.out
      rw [← hgx, ← hnn] at hk
      obtain ⟨kx, hkx⟩ : ∃ q, q = K gx := ⟨_, rfl⟩
      obtain ⟨cx, hcx⟩ : ∃ q, q = cnt root := ⟨_, rfl⟩
      rw [← hkx, ← hcx] at hk
      rw [← hcx] at HT
      have HCX := Lib.hid hcx
      have HK := Lib.hid hk
      have hd : decide ((0 : Int) < 0) = false := by decide
      clear hS hshp hent hdone hdone' hM hF hrt hB ht hcl hre hrd hgx hnn hkx hcx hk hall
      go_wp2_with fail
      go_upto_region 6 with fail
      go_cut [5] (fun s5 wc => s5 = .pointer (some ⟨kx, 0, none⟩) ∧ Sx W M root K ent done [] 0 wc)
      case first =>
        go_region_held3 (fun Z => Z.cell? ⟨M + 1, 0, none⟩ = some (.map (some M)))
          ((refine (HK.out _ ?_).1; first | exact HC.out | exact HC.out.drew | exact HCP.out | exact HCP.out.drew))
          (first | (go_at_call 60; with_reducible refine (HPL.out _).mono ?_; rintro e w' ⟨rfl, hb⟩; have hcp := HC.out.drew.next hb; have lk := (HK.out _ hcp).2.1; have HCP := Lib.hid hcp; clear hb hcp))
        all_goals (go_wp2_with fail; go_meet)
        all_goals exact ⟨rfl, HCP.out⟩
      case rest =>
        obtain ⟨rfl, hcp⟩ := hcut
        obtain ⟨-, -, k0, k1, f2, c2⟩ := HK.out _ hcp
        have HEND := Lib.hid (HT.out _ hcp); clear hcp cst
        go_wp2
        go_end0
        exact ⟨rfl, K, ent, done, by rw [← HCX.out]; exact HEND.out, HP.out.1, HP.out.2⟩
    | step s t n' hg hruns =>
      obtain ⟨x, r, hst, hxa, hroom, hin, hout⟩ := hg
      rw [hst] at hshp hall
      obtain ⟨ws, v, rfl, hws, hv⟩ := hshp.last
      obtain ⟨cap1, rfl, hpx⟩ := hv.at_ hxa
      have ctop : ∀ Z, Sx W M root K s.ent s.done (ws ++ [.slice (some ⟨x.g, 0, none⟩) x.n cap1]) 0 Z → ∃ q cap, Z.cell? ⟨M + 1, 1, none⟩ = some (.slice (some ⟨q, 0, none⟩) (ws.length + 1) cap) ∧ Z.cell? ⟨q, ws.length, none⟩ = some (.slice (some ⟨x.g, 0, none⟩) x.n cap1) := fun Z hZ => hZ.top
      obtain ⟨q, cq, cst, ctp⟩ := ctop wr hS
      have hwl : ws.length + 1 + x.n ≤ 1000001 := by
        obtain ⟨hent, hdone, hM, hF, hrt, hB, ht, hcl⟩ := HE.out
        have h1 := hws.length
        rw [List.length_reverse] at h1
        have h2 : x.els.length = x.n := rfl
        omega
      obtain ⟨len, hlen⟩ : ∃ l, l = ws.length := ⟨_, rfl⟩
      have hq1 : (len : Int) + 1 - 1 = (len : Int) := by omega
      have hq2 : IntKind.i64.wrap (len : Int) = (len : Int) := by rw [IntKind.wrap_i64]; omega
      have hq3 : (0 : Int) ≤ (len : Int) := by omega
      have hq4 : (len : Int) < (len : Int) + 1 := by omega
      have hq5 : decide ((0 : Int) < (len : Int) + 1) = true := by simp
      obtain ⟨hent, hdone, hM, hF, hrt, hB, ht, hcl⟩ := HE.out
      have hxr : x ∈ root.all := hall x List.mem_cons_self
      have hpl := fun w => place_any x.g x.n cap1 w hpx
      have hdr : ∀ m, Sx W M root K s.ent s.done (ws ++ [.slice (some ⟨x.g, 0, none⟩) x.n cap1]) 0 (wr.drewN m) := fun m => hS.drewN m
      have HDR := Lib.hid hdr
      by_cases hm : x.g ∈ s.ent.map g
      · obtain ⟨hxe, hxd, hsb⟩ := hin hm
        have hfin : ∀ w4, Sx W M root K s.ent (x.g :: s.done) ws 0 w4 → Counting W M root t B n' w4 := fun w4 h4 => by
          have hstep : s.step = ⟨r, s.ent, x.g :: s.done⟩ := by simp only [Sg.step, hst, if_pos hm]
          rw [hstep] at hruns
          exact ⟨_, K, _, hruns, h4, hws, fun y hy => hall y (List.mem_cons_of_mem _ hy)⟩
        have HFIN := Lib.hid hfin
        have HK := Lib.hid (fun (Z : World) (hZ : Sx W M root K s.ent s.done (ws ++ [.slice (some ⟨x.g, 0, none⟩) x.n cap1]) 0 Z) => And.intro hZ.c0 (hZ.look_in hM hF hxe))
        have HPO := Lib.hid (fun (Z : World) (hZ : Sx W M root K s.ent s.done (ws ++ [.slice (some ⟨x.g, 0, none⟩) x.n cap1]) 0 Z) => hZ.pop)
        have HLE := Lib.hid (fun (Z : World) (hZ : Sx W M root K s.ent s.done ws 0 Z) => leave_any hZ hM hF hxe hxd hsb cap1)
        obtain ⟨gy, hgy⟩ : ∃ q, q = x.g := ⟨_, rfl⟩
        obtain ⟨ny, hny⟩ : ∃ q, q = x.n := ⟨_, rfl⟩
        obtain ⟨ky, hky⟩ : ∃ q, q = K x.g := ⟨_, rfl⟩
        rw [← hky] at HK
        rw [← hlen] at cst ctp
        rw [← hgy, ← hny] at ctp HK HPO HLE hpl HDR
        rw [← hgy] at HFIN
        clear hshp hall hws hv hpx ctop hS hwl hlen hdr hent hdone hM hF hrt hB ht hcl hxr hm hin hout hst hxa hroom hxe hxd hsb hfin hruns hgy hny hky
        go_wp2_with fail
        go_quiet (fail)
        have hS2 := HDR.out nq
        generalize wr.drewN nq = Y at *
        have HC := Lib.hid hS2; clear hS2 cst ctp HDR
        go_upto_region 3 with fail
        go_cut [34] (fun s34 wc => s34 = .bool false ∧ Sx W M root K s.ent s.done (ws ++ [.slice (some ⟨gy, 0, none⟩) ny cap1]) 0 wc)
        case first =>
          go_region_held3 (fun Z => Z.cell? ⟨M + 1, 0, none⟩ = some (.map (some M)))
            ((refine (HK.out _ ?_).1; first | exact HC.out | exact HC.out.drew | exact HCP.out | exact HCP.out.drew))
            (first | (go_at_call 60; with_reducible refine (hpl _).mono ?_; rintro e w' ⟨rfl, hb⟩; have hcp := HC.out.drew.next hb; have lk := (HK.out _ hcp).2; have HCP := Lib.hid hcp; clear hb hcp))
          all_goals (go_wp2_with fail; go_meet)
          all_goals exact ⟨rfl, HCP.out⟩
        case rest =>
          obtain ⟨rfl, hcp⟩ := hcut
          have HPO' := Lib.hid (HPO.out _ hcp); clear hcp hpl
          go_wp2_with fail
          refine HPO'.out.mono ?_
          rintro e w4 ⟨rfl, h4⟩
          have HLE' := Lib.hid (HLE.out _ h4); clear h4
          go_wp2_with fail
          refine HLE'.out.mono ?_
          rintro e w5 ⟨rfl, h5⟩
          have HF5 := Lib.hid (HFIN.out _ h5); clear h5
          go_wp2
          go_roundw
          case rel => exact ⟨_, HF5.out⟩
          case measure => have := (leftAt_spec ⟨_, HF5.out⟩).2 _ HF5.out; omega
      · obtain ⟨hxd, hsb⟩ := hout hm
        have hfin : ∀ K' vs w4, Sx W M root K' (s.ent ++ [x]) s.done ((ws ++ [.slice (some ⟨x.g, 0, none⟩) x.n cap1]) ++ vs) 0 w4 → Shps x.subs vs → Counting W M root t B n' w4 := fun K' vs w4 h4 h5 => by
          have hstep : s.step = ⟨x.subs.reverse ++ x :: r, s.ent ++ [x], s.done⟩ := by simp only [Sg.step, hst, if_neg hm]
          rw [hstep] at hruns
          refine ⟨_, K', _, hruns, h4, ?_, fun y hy => ?_⟩
          · show Shps (x.subs.reverse ++ x :: r).reverse _
            rw [List.reverse_append, List.reverse_reverse]
            exact hshp.append h5
          · rcases List.mem_append.1 hy with hy | hy
            · exact all_sub hxr (List.mem_reverse.1 hy)
            · exact hall y hy
        have HFIN := Lib.hid hfin
        have HK := Lib.hid (fun (Z : World) (hZ : Sx W M root K s.ent s.done (ws ++ [.slice (some ⟨x.g, 0, none⟩) x.n cap1]) 0 Z) => And.intro hZ.c0 (hZ.look_out hM hF hxr hm))
        have HEN := Lib.hid (fun (Z : World) (hZ : Sx W M root K s.ent s.done (ws ++ [.slice (some ⟨x.g, 0, none⟩) x.n cap1]) 0 Z) => enter_any hZ hM hF hxr hm hxd (fun y hy => ⟨all_sub hxr hy, hsb y hy⟩) (by simp; omega) cap1)
        obtain ⟨gy, hgy⟩ : ∃ q, q = x.g := ⟨_, rfl⟩
        obtain ⟨ny, hny⟩ : ∃ q, q = x.n := ⟨_, rfl⟩
        rw [← hlen] at cst ctp
        rw [← hgy, ← hny] at ctp HK HEN hpl HDR HFIN
        clear hshp hall hws hv hpx ctop hS hwl hlen hdr hent hdone hM hF hrt hB ht hcl hxr hm hin hout hst hxa hroom hxd hsb hfin hruns hgy hny
        go_wp2_with fail
        go_quiet (fail)
        have hS2 := HDR.out nq
        generalize wr.drewN nq = Y at *
        have HC := Lib.hid hS2; clear hS2 cst ctp HDR
        go_upto_region 3 with fail
        go_cut [34] (fun s34 wc => s34 = .bool true ∧ Sx W M root K s.ent s.done (ws ++ [.slice (some ⟨gy, 0, none⟩) ny cap1]) 0 wc)
        case first =>
          go_region_held3 (fun Z => Z.cell? ⟨M + 1, 0, none⟩ = some (.map (some M)))
            ((refine (HK.out _ ?_).1; first | exact HC.out | exact HC.out.drew | exact HCP.out | exact HCP.out.drew))
            (first | (go_at_call 60; with_reducible refine (hpl _).mono ?_; rintro e w' ⟨rfl, hb⟩; have hcp := HC.out.drew.next hb; have lk := (HK.out _ hcp).2; have HCP := Lib.hid hcp; clear hb hcp))
          all_goals (go_wp2_with fail; go_meet)
          all_goals exact ⟨rfl, HCP.out⟩
        case rest =>
          obtain ⟨rfl, hcp⟩ := hcut
          have HEN' := Lib.hid (HEN.out _ hcp); clear hcp hpl
          go_wp2_with fail
          refine HEN'.out.mono ?_
          rintro e w4 ⟨rfl, K', vs, h4, h5⟩
          have HF5 := Lib.hid (HFIN.out _ _ _ h4 h5); clear h4 h5
          go_wp2
          go_roundw
          case rel => exact ⟨_, HF5.out⟩
          case measure => have := (leftAt_spec ⟨_, HF5.out⟩).2 _ HF5.out; omega
end Tree
end Go.Proofs.YtmbmhblogjkflaaDoor
