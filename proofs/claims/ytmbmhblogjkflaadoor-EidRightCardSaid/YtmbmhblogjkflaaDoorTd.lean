/-
  Contract of the copier's enter. Conditions: the tree lies in memory; the list is not entered yet, nor any of the lists in it.
-/
import Derived.Test.YtmbmhblogjkflaaDoorTc
namespace Go.Proofs.YtmbmhblogjkflaaDoor
namespace Tree
open Go.ChangeShapes Go.WideShapes Go.ChangeAt Go.RowKit Go.MapKept
open Nd
set_option linter.unusedVariables false
set_option maxRecDepth 100000

/-- The slices of lists. -/
def Shps : List Nd → List Value → Prop
  | [], [] => True
  | x :: r, v :: s => Shp x v ∧ Shps r s
  | _, _ => False
theorem Shps.length : ∀ {l : List Nd} {vs : List Value}, Shps l vs → vs.length = l.length
  | [], [], _ => rfl
  | _ :: _, _ :: _, h => by simp [Shps.length h.2]
  | [], _ :: _, h => h.elim
  | _ :: _, [], h => h.elim
theorem Shps.append : ∀ {l : List Nd} {vs : List Value} {m : List Nd} {ws : List Value}, Shps l vs → Shps m ws → Shps (l ++ m) (vs ++ ws)
  | [], [], _, _, _, k => k
  | _ :: _, _ :: _, _, _, h, k => ⟨h.1, Shps.append h.2 k⟩
  | [], _ :: _, _, _, h, _ => h.elim
  | _ :: _, [], _, _, h, _ => h.elim
theorem Shps.split : ∀ {l m : List Nd} {vs : List Value}, Shps (l ++ m) vs → ∃ a b, vs = a ++ b ∧ Shps l a ∧ Shps m b
  | [], m, vs, h => ⟨[], vs, rfl, trivial, h⟩
  | x :: l, m, v :: vs, h => by
    obtain ⟨a, b, e, h1, h2⟩ := Shps.split (l := l) (m := m) h.2
    exact ⟨v :: a, b, by rw [e]; rfl, ⟨h.1, h1⟩, h2⟩
  | x :: l, m, [], h => h.elim
theorem filter_take_next (l : List Nd) (j : Nat) (y : Nd) (h : l[j]? = some y) : (l.take (j + 1)).filter isAt = (l.take j).filter isAt ++ [y].filter isAt := by
  rw [List.take_add_one, h]; simp

theorem bx1 {X w' : World} (hb : Below X.drew.heap.size X.drew w') : Below X.heap.size X w' := (Below.refl X.heap.size X).drew.trans hb
theorem bx2 {X w' : World} {o : Obj} (hb : Below (X.alloc o).drew.heap.size (X.alloc o).drew w') : Below X.heap.size X w' :=
  (((Below.refl X.heap.size X).alloc (Nat.le_refl _) o).drew).trans (hb.mono (show X.heap.size ≤ (X.alloc o).heap.size by simp))

set_option maxHeartbeats 4000000 in
theorem enter_any {W X : World} {M : Nat} {root : Nd} {K : Nat → Nat} {ent : List Nd} {done : List Nat} {xs : List Value} {tot : Nat} (hS : Sx W M root K ent done xs tot X) (hM : M = W.heap.size) (hF : Forest W root) {x : Nd} (hx : x ∈ root.all) (hn : x.g ∉ ent.map g) (hd : x.g ∉ done)
    (hs : ∀ y ∈ x.subs, y ∈ root.all ∧ y.g ∉ (ent ++ [x]).map g) (hl : xs.length + x.n ≤ 2000000) (cap : Nat) :
    Calls Tryd.prog 61 #[.pointer (some ⟨M + 1, 0, none⟩), .slice (some ⟨x.g, 0, none⟩) x.n cap] X fun e w' => e = .returned (.tuple #[]) ∧ ∃ K' vs, Sx W M root K' (ent ++ [x]) done (xs ++ vs) tot w' ∧ Shps x.subs vs := by
  have c0 := hS.c0
  have hn0 := World.new_ne X _ c0
  have hpos := (hF.lst x hx).pos
  have hk : ∀ Z, Sx W M root K ent done xs tot Z → Z.cell? ⟨M + 1, 0, none⟩ = some (.map (some M)) := fun Z hZ => hZ.c0
  have HK := Lib.hid hk; clear hk
  have hk2 : ∀ Z k, Sx W M root K ent done xs tot Z → (putObj M (mapO (updK K x.g k) (ent ++ [x])) Z).cell? ⟨M + 1, 0, none⟩ = some (.map (some M)) := fun Z k hZ => by
    obtain ⟨st, c, -⟩ := hZ.cp
    rw [cell_of_row _ _ _ _ _ _ ((putObj_other (M + 1) (by omega)).trans c.cop)]; rfl
  have HK2 := Lib.hid hk2; clear hk2
  have hput : ∀ Z k, Sx W M root K ent done xs tot Z → (Instr.mapUpdate 62 (.map (some M)) (keyP x.g x.n) (.pointer (some ⟨k, 0, none⟩))).run Tryd.prog Z = .ok () (putObj M (mapO (updK K x.g k) (ent ++ [x])) Z) := fun Z k hZ =>
    put_new K ent x M k Z hZ.map (hZ.row hM hF hx) (fun y hy => hZ.row hM hF (hZ.sub y hy)) hn
  have HPUT := Lib.hid hput; clear hput
  have HPL := Lib.hid (fun w => place_any x.g x.n cap w hpos)
  have HENT := Lib.hid (fun (Y : World) (k : Nat) (hb : Below X.heap.size X Y) (hk0 : X.heap.size ≤ k) (hk : Y.heap[k]? = some (knownV true 0)) => hS.entered hb hx hn hd hk0 hk)
  have HC := Lib.hid hS; clear hS
  obtain ⟨n, hnn⟩ : ∃ n, n = x.n := ⟨_, rfl⟩
  obtain ⟨gx, hgx⟩ : ∃ q, q = x.g := ⟨_, rfl⟩
  have HF := Lib.hid (And.intro hF (And.intro hx (And.intro hs (And.intro hl (And.intro hM (And.intro hnn hgx))))))
  rw [← hnn, ← hgx] at HPL HPUT ⊢
  rw [← hgx] at HK2 HENT
  clear hF hx hs hl hn hd hpos hM hnn hgx
  go_enter Tryd.func61, Tryd.ntmps61
  go_upto_region 0 with fail
  go_cut [] (fun wc => ∃ k, Sx W M root (updK K gx k) (ent ++ [x]) done xs tot wc)
  case first =>
    go_region_held3 (fun Z => Z.cell? ⟨M + 1, 0, none⟩ = some (.map (some M))) (first | (refine HK.out _ ?_; first | exact HC.out | exact HC.out.drew | exact HC.out.alloc _ | exact (HC.out.alloc _).drew | exact HCP.out | exact HCP.out.drew | exact HCP.out.alloc _) | (refine HK2.out _ _ ?_; first | exact HCP.out | exact HCP.out.drew | exact HCP.out.alloc _))
      (first | (go_at_call 60; with_reducible refine (HPL.out _).mono ?_; rintro e w' ⟨rfl, hb⟩; have hz := hb.size; have hcp : Sx W M root K ent done xs tot w' := (by first | exact HC.out.drew.next hb | exact (HC.out.alloc _).drew.next hb); have p1 := fun k => HPUT.out w' k hcp; have p2 := fun o k => HPUT.out (w'.alloc o) k (hcp.alloc o); have hbx : Below X.heap.size X w' := (by first | exact bx1 hb | exact bx2 hb); have HBX := Lib.hid hbx; clear hbx; have HB := Lib.hid hb; clear hb; have HCP := Lib.hid hcp; clear hcp))
    all_goals (go_wp2_with fail; go_meet)
    all_goals first
      | exact ⟨w'.heap.size, HENT.out _ _ (HBX.out.alloc HBX.out.size _) HBX.out.size (heap_alloc_new _ _)⟩
      | exact ⟨X.heap.size, HENT.out _ _ HBX.out (Nat.le_refl _) ((HB.out.block _ (by simp)).trans (heap_alloc_new _ _))⟩
  case rest =>
    obtain ⟨k, hcp⟩ := hcut
    obtain ⟨K', hK'⟩ : ∃ K', K' = updK K gx k := ⟨_, rfl⟩
    rw [← hK'] at hcp
    obtain ⟨ent', hent'⟩ : ∃ e, e = ent ++ [x] := ⟨_, rfl⟩
    rw [← hent'] at hcp HF
    have HENT' := Lib.hid hent'
    have HCP := Lib.hid hcp; clear hcp HK HK2 HPUT HENT HC c0 hn0 hK' hent' HPL
    go_wp2_with fail
    go_loopw [16] (fun i wr => ∃ j : Nat, ∃ vs, j ≤ n ∧ i = .int .i64 j ∧ Sx W M root K' ent' done (xs ++ vs) tot wr ∧ Shps ((x.els.take j).filter isAt) vs) (fun i _ => n - (intOf i).toNat)
    case atStart => exact ⟨0, [], Nat.zero_le _, rfl, by rw [List.append_nil]; exact HCP.out, trivial⟩
    case round =>
      obtain ⟨j, vs, hj, rfl, hQ, hvs⟩ := hrel
      by_cases hlt : j < n
      · obtain ⟨hF, hx, hsub, hl, hM, hnn, hgx⟩ := HF.out
        have hjl : j < x.els.length := by rw [hnn] at hlt; exact hlt
        obtain ⟨y, hy⟩ : ∃ y, x.els[j]? = some y := ⟨_, List.getElem?_eq_getElem hjl⟩
        obtain ⟨k1, n1, s1, v1, o1, hcel, hshp⟩ := hQ.cel hM hF hx hy
        rw [← hgx] at hcel
        have hnx := filter_take_next x.els j y hy
        obtain ⟨l0, l1, l2, l3, l4⟩ := hcel
        have hnext : ∀ o m, Sx W M root K' ent' done (xs ++ vs) tot ((wr.alloc o).drewN m) := fun o m => (hQ.alloc o).drewN m
        have HN := Lib.hid hnext; clear hnext
        have HQ0 := Lib.hid hQ
        have hj1 : IntKind.i64.wrap ((j : Int) + 1) = ((j + 1 : Nat) : Int) := by rw [IntKind.wrap_i64]; omega
        cases y with
        | no =>
          obtain ⟨A, cp, rfl⟩ := hshp
          have HV := Lib.hid (show Shps ((x.els.take (j + 1)).filter isAt) vs by rw [hnx]; simpa [isAt] using hvs)
          have hd : decide ((0 : Int) < 0) = false := by decide
          clear hQ hvs hF hx hsub hl hM hnn hgx hjl hy hnx
          go_wp2_with fail
          go_quiet (fail)
          go_wp2
          go_roundw
          case rel => exact ⟨j + 1, vs, by omega, rfl, HN.out _ _, HV.out⟩
          case measure => simp [intOf]; omega
        | «at» q l =>
          obtain ⟨cp, rfl, hpos⟩ := hshp
          obtain ⟨hya, hyn⟩ := hsub (.at q l) (List.mem_filter.2 ⟨List.mem_of_getElem? hy, rfl⟩)
          have hvl : vs.length ≤ j := by rw [hvs.length]; exact Nat.le_trans (List.length_filter_le _ _) (List.length_take_le _ _)
          have hlen : (xs ++ vs).length ≤ 2000000 := by rw [List.length_append]; omega
          have LK := Lib.hid (fun (Y : World) (hY : Sx W M root K' ent' done (xs ++ vs) tot Y) => hY.look_out hM hF hya hyn)
          have PL := Lib.hid (fun w => place_any q l.length cp w hpos)
          have PU := Lib.hid (fun (Y : World) (hY : Sx W M root K' ent' done (xs ++ vs) tot Y) => hY.push hlen (some ⟨q, 0, none⟩) l.length cp)
          have HK := Lib.hid (fun (Y : World) (hY : Sx W M root K' ent' done (xs ++ vs) tot Y) => hY.c0)
          have HV := Lib.hid (show Shps ((x.els.take (j + 1)).filter isAt) (vs ++ [.slice (some ⟨q, 0, none⟩) l.length cp]) by
            rw [hnx]; exact hvs.append ⟨⟨cp, rfl, hpos⟩, trivial⟩)
          clear hvs hF hx hsub hl hM hnn hgx hjl hy hnx hya hyn hvl hlen hQ
          change RowKit.Hid (∀ (Y : World), _ → (Instr.lookup 62 (.map (some M)) (keyP q l.length) false).run Tryd.prog Y = .ok (.pointer none) Y) at LK
          obtain ⟨m, hm⟩ : ∃ m, m = l.length := ⟨_, rfl⟩
          rw [← hm] at LK PL PU HV l3 hpos
          clear hm
          have hd : decide ((0 : Int) < (m : Int)) = true := by simpa using hpos
          go_wp2_with fail
          obtain ⟨o, ho⟩ : ∃ o, o = Obj.cells #[.int .i64 k1, .int .u64 n1, .string s1, .slice (some ⟨q, 0, none⟩) m cp, .bool o1] 29 := ⟨_, rfl⟩
          rw [← ho]
          have HO : ∀ Z, Below (wr.alloc o).heap.size (wr.alloc o) Z → Z.cell? ⟨wr.heap.size, 3, none⟩ = some (.slice (some ⟨q, 0, none⟩) m cp) := fun Z hZ => by
            rw [hZ.cell (p := ⟨wr.heap.size, 3, none⟩) (by simp), ho]
            exact cell_of_row _ _ 3 _ _ _ (heap_alloc_new _ _)
          have HO' := Lib.hid HO; clear HO
          have HNX := Lib.hid (fun (Z : World) (hZ : Below (wr.alloc o).heap.size (wr.alloc o) Z) => (HQ0.out.alloc o).next hZ)
          clear ho
          generalize hV : wr.alloc o = V at *
          go_region_held3 (fun Z => Z.cell? ⟨M + 1, 0, none⟩ = some (.map (some M)) ∧ Z.cell? ⟨wr.heap.size, 3, none⟩ = some (.slice (some ⟨q, 0, none⟩) m cp)) (first | exact ⟨HK.out _ (HNX.out _ (Below.refl _ _).drew), HO'.out _ (Below.refl _ _).drew⟩ | exact ⟨HK.out _ (HNX.out _ HBV.out), HO'.out _ HBV.out⟩ | exact ⟨HK.out _ (HNX.out _ HBV.out.drew), HO'.out _ HBV.out.drew⟩)
            (first | (go_at_call 60; with_reducible refine (PL.out _).mono ?_; rintro e w' ⟨rfl, hb⟩; have hbv := bx1 hb; clear hb; have hz := hbv.size; have lk := LK.out _ (HNX.out _ hbv); have HBV := Lib.hid hbv; clear hbv))
          go_wp2_with fail
          refine (PU.out _ (HNX.out _ HBV.out)).mono ?_
          rintro e w'' ⟨rfl, hq⟩
          rw [List.append_assoc] at hq
          have HQ2 := Lib.hid hq; clear hq
          go_wp2
          go_roundw
          case rel => exact ⟨j + 1, vs ++ [.slice (some ⟨q, 0, none⟩) m cp], by omega, rfl, HQ2.out, HV.out⟩
          case measure => simp [intOf]; omega
      · obtain rfl : j = n := by omega
        obtain ⟨hF, hx, hsub, hl, hM, hnn, hgx⟩ := HF.out
        have he : (x.els.take j).filter isAt = x.subs := by rw [show x.els.take j = x.els from List.take_of_length_le (by rw [hnn]; exact Nat.le_refl _)]; rfl
        rw [he] at hvs
        rw [HENT'.out] at hQ
        have HQ := Lib.hid (And.intro hQ hvs)
        clear hQ hvs he hF hx hsub hl hM hnn hgx
        go_wp2
        go_end0
        exact ⟨rfl, K', vs, HQ.out.1, HQ.out.2⟩
end Tree
end Go.Proofs.YtmbmhblogjkflaaDoor
