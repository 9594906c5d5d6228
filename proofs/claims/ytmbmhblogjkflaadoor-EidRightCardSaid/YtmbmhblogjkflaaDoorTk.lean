/-
  Contract of item's copyList at any tree of lists. Conditions: the tree lies in memory, each list at a block's head, no two in one block.
-/
import Derived.Test.YtmbmhblogjkflaaDoorTj
namespace Go.Proofs.YtmbmhblogjkflaaDoor
namespace Tree
open Go.ChangeShapes Go.WideShapes Go.ChangeAt Go.RowKit Go.MapKept
open Nd
set_option linter.unusedVariables false
set_option maxRecDepth 100000

/-- What copyList leaves: for each list of the tree a copy in a block of its own. -/
structure Copied (W : World) (root : Nd) (C : Nat → Nat) (w' : World) : Prop where
  below : Below W.heap.size W w'
  new : ∀ y ∈ root.all, W.heap.size ≤ C y.g
  inj : ∀ y ∈ root.all, ∀ z ∈ root.all, C y.g = C z.g → y.g = z.g
  blk : ∀ y ∈ root.all, Blk W w' C root.all y y.n

theorem Walking.last {W : World} {M : Nat} {root : Nd} {K : Nat → Nat} {ent : List Nd} {tot h0 : Nat} {fin : List Nd} {C J : Nat → Nat} {P : List Nat} {xs : List Value} {w : World} (hM : M = W.heap.size) (hp : fin.Perm (all root)) (hx : Wx W M root K ent tot C J P ([] ++ fin) xs w) (hJ : ∀ y ∈ fin, J y.g = y.n) : Copied W root C w := by
  have he : ∀ y, y ∈ [] ++ fin ↔ y ∈ root.all := fun y => by rw [List.nil_append]; exact hp.mem_iff
  have h := hx.live he
  refine ⟨by rw [← hM]; exact h.pq.below, fun y hy => ?_, h.inj, fun y hy => ?_⟩
  · have := (h.lt (h.cin y hy)).1; omega
  · have := h.blk y hy
    rwa [hJ y (hp.mem_iff.2 hy)] at this

set_option maxHeartbeats 8000000 in
theorem copyList_any {w : World} {root : Nd} (hF : Forest w root) (cap : Nat) :
    Calls Tryd.prog 38 #[.slice (some ⟨root.g, 0, none⟩) root.n cap] w fun e w' => ∃ C cap', e = .returned (.slice (some ⟨C root.g, 0, none⟩) root.n cap') ∧ Copied w root C w' := by
  have hrt := self_mem hF.isAt
  have hpos := (hF.lst root hrt).pos
  have hcl := hF.few
  obtain ⟨n0, fin, hruns, hperm⟩ := two_all root hF.isAt (cnt root + 1) [] [] (by simp) (by simpa using hF.nodup)
  rw [List.append_nil] at hperm
  obtain ⟨t, ht⟩ : ∃ t, t = (⟨[], fin⟩ : Wk) := ⟨_, rfl⟩
  obtain ⟨B, hB⟩ : ∃ B, B = cnt root + 1 := ⟨_, rfl⟩
  rw [← ht, ← hB] at hruns
  have hmade := Sx.made w root
  have HCO := Lib.hid (count_any hmade rfl hF cap)
  obtain ⟨gx, hgx⟩ : ∃ q, q = root.g := ⟨_, rfl⟩
  obtain ⟨n, hnn⟩ : ∃ n, n = root.n := ⟨_, rfl⟩
  obtain ⟨tot, htot⟩ : ∃ c, c = cnt root := ⟨_, rfl⟩
  have hcy : ∀ (K : Nat → Nat) (ent : List Nd) (done : List Nat) (w1 : World), Sx w w.heap.size root K ent done [] tot w1 → (∀ y, y ∈ ent ↔ y ∈ all root) → (∀ q, q ∈ done ↔ q ∈ gs root) →
      Calls Tryd.prog 49 #[.pointer (some ⟨w.heap.size + 1, 0, none⟩), .slice (some ⟨gx, 0, none⟩) n cap] w1 fun e w' => ∃ h cap', e = .returned (.slice (some ⟨h, 0, none⟩) n cap') ∧ ∃ n0, Walking w w.heap.size root K ent tot h t B n0 w' := fun K ent done w1 h1 h2 h3 => by
    have hd : ∀ y ∈ ent, y.g ∈ done := fun y hy => (h3 _).2 (List.mem_map_of_mem ((h2 y).1 hy))
    have hx := h1.begin hd (fun _ => 0) (fun _ => 0)
    have hre := (h2 root).2 hrt
    rw [hgx, hnn]
    refine (copyOf_at hx.pq rfl hF (fun y hy => (h2 y).1 hy) hre (hx.kn root hre).1 (hx.kn root hre).2 (by omega) (by simp) cap).mono ?_
    rintro e w' ⟨h, cap', cur, rfl, hh, hp, hk, hcur, hus⟩
    have hadd := hx.add hF hrt (by simp) hh hp hk hcur hus
    refine ⟨h, cap', rfl, n0, ⟨[root], []⟩, _, _, _, _, hruns, hadd, ?_, (fun y hy => (by cases hy)), ?_, if_pos rfl, by simp⟩
    · exact ⟨⟨cap', by rw [show updK (fun _ => 0) root.g h root.g = h from if_pos rfl]⟩, trivial⟩
    · intro y hy
      rw [List.mem_singleton.1 hy]; exact if_pos rfl
  have HCY := Lib.hid hcy; clear hcy
  have HE := Lib.hid (And.intro hF (And.intro ht (And.intro hB (And.intro hperm (And.intro hgx (And.intro hnn (And.intro htot hcl)))))))
  rw [← hgx, ← hnn, ← htot] at HCO
  rw [← hnn] at hpos ⊢
  rw [← hgx]
  have hd1 : ((n : Int) == 0) = false := by simp; omega
  have hd2 : decide ((n : Int) = 0) = false := by simp; omega
  clear hmade hrt hcl hruns hperm ht hB hgx hnn htot hF
  have hmm := @run_makeMap Tryd.prog
  go_enter Tryd.func38, Tryd.ntmps38
  go_wp2_with fail
  refine HCO.out.mono ?_
  rintro e w1 ⟨rfl, K, ent, done, hs1, hent, hdone⟩
  have HCY' := Lib.hid (HCY.out K ent done w1 hs1 hent hdone)
  have HEN := Lib.hid hent
  clear hs1 hent hdone HCO HCY
  go_wp2_with fail
  refine HCY'.out.mono ?_
  rintro e w2 ⟨h0, cap', rfl, hw2⟩
  have HW2 := Lib.hid hw2; clear hw2 HCY'
  generalize hM : w.heap.size = M at *
  have HM := Lib.hid hM; clear hM
  go_wp2_with fail
  go_loopw [] (fun wr => ∃ n, Walking w M root K ent tot h0 t B n wr) (fun wr => leftAt (Walking w M root K ent tot h0 t B) wr)
  case atStart => exact HW2.out
  case round =>
    obtain ⟨hcnt, hmin⟩ := leftAt_spec hrel
    generalize hmm : leftAt (Walking w M root K ent tot h0 t B) wr = mm at hcnt hmin ⊢
    clear hmm hmin hrel HW2
    obtain ⟨s, C, J, P, xs, hruns, hx, hshp, hJ1, hJ0, hC0, hrin⟩ := hcnt
    obtain ⟨hF, ht, hB, hperm, hgx, hnn, htot, hcl⟩ := HE.out
    cases hruns with
    | nil =>
      rw [ht] at hx hshp hJ1
      obtain rfl : xs = [] := by
        cases xs with
        | nil => rfl
        | cons v vs => exact (show CShps C [] (v :: vs) from hshp).elim
      obtain ⟨A, cp, cst⟩ := hx.pq.stack_none
      have hd : decide ((0 : Int) < 0) = false := by decide
      have HL := Lib.hid (Walking.last (h0 := h0) HM.out.symm hperm hx hJ1)
      have HC := Lib.hid (And.intro hC0 (And.intro hgx hnn))
      clear hx hshp hJ1 hJ0 hC0 hrin hF ht hB hperm hgx hnn htot hcl
      go_wp2
      go_ret
      refine ⟨C, cap', ?_, HL.out⟩
      rw [HC.out.2.1, HC.out.1]; rfl
    | step s t n' hg hruns =>
      obtain ⟨x, r, hst, hxa, hroom, hnod⟩ := hg
      have hstep : s.step = ⟨x.subs.reverse ++ r, x :: s.fin⟩ := by simp only [Wk.step, hst]
      rw [hst] at hshp hJ0 hrin hx
      rw [hstep] at hruns
      obtain ⟨ws, cap1, rfl, hws⟩ := hshp.last
      obtain ⟨q0, c0, cst⟩ := hx.pq.stack_some
      obtain ⟨len, hlen⟩ : ∃ l, l = ws.length := ⟨_, rfl⟩
      have hwr : ws.length = r.length := by rw [hws.length, List.length_reverse]
      rw [← hlen] at cst
      have hq5 : decide ((0 : Int) < (len : Int) + 1) = true := by simp
      have hxr : x ∈ root.all := hx.sub x (by simp)
      have hxp := (hF.lst x hxr).pos
      have hxf := (hF.lst x hxr).few
      have hin0 : ∀ w3, Pq w M K ent P ws tot w3 → (∀ k ∈ P, w3.heap[k]? = wr.heap[k]?) → Within w M root K ent tot h0 x r s.fin ws (C x.g) 0 w3 := fun w3 h3 h4 =>
        ⟨C, J, P, [], by rw [List.append_nil]; exact hx.kept h3 h4, hws, trivial, hJ1, fun y hy => hJ0 y (List.mem_cons_of_mem _ hy), fun y hy => (by cases hy), hJ0 x List.mem_cons_self, rfl, hC0, hrin⟩
      have HIN := Lib.hid hin0
      have HPO := Lib.hid hx.pq.pop
      obtain ⟨q, hq⟩ : ∃ q, q = C x.g := ⟨_, rfl⟩
      obtain ⟨nx, hnx⟩ : ∃ q, q = x.n := ⟨_, rfl⟩
      rw [← hq] at HIN
      rw [← hq, ← hnx] at HPO
      rw [← hnx] at hxp hxf
      have HF := Lib.hid (And.intro hF (And.intro hnod (And.intro hruns (And.intro hxr (And.intro hwr (And.intro hroom (And.intro hB (And.intro htot (And.intro hcl hnx)))))))))
      clear hx hshp hJ1 hJ0 hC0 hrin hF ht hB hperm hgx hnn htot hcl hnod hruns hxr hwr hroom hin0 hq hnx hws hlen hst hstep hxa
      go_wp2_with fail
      refine HPO.out.mono ?_
      rintro e w3 ⟨rfl, hp3, hk3⟩
      have HW3 := Lib.hid (HIN.out w3 hp3 hk3); clear hp3 hk3 cst hq5 HIN HPO
      go_wp2_with fail
      go_loopw [24] (fun i wq => ∃ j : Nat, j ≤ nx ∧ i = .int .i64 j ∧ Within w M root K ent tot h0 x r s.fin ws q j wq) (fun i _ => nx - (intOf i).toNat)
      case atStart => exact ⟨0, Nat.zero_le _, rfl, HW3.out⟩
      case round =>
        obtain ⟨j, hj, rfl, hwi⟩ := hrel
        clear HW3
        obtain ⟨hF, hnod, hruns, hxr, hwr, hroom, hB, htot, hcl, hnx⟩ := HF.out
        by_cases hlt : j < nx
        · have hjl : j < x.els.length := by rw [hnx] at hlt; exact hlt
          obtain ⟨y, hy⟩ : ∃ y, x.els[j]? = some y := ⟨_, List.getElem?_eq_getElem hjl⟩
          have hwi2 := hwi
          obtain ⟨C', J', P', vs, h1, h2, h3, h4, h5, h6, h7, hC, h8, h9⟩ := hwi2
          have hxl : x ∈ ((x.els.take j).filter isAt).reverse ++ x :: (r ++ s.fin) := List.mem_append_right _ List.mem_cons_self
          have hblk := h1.blk x hxl
          obtain ⟨k, n1, s1, v, o1, v', e1, e2, e3, e4, e5⟩ := hblk.els j y hy
          have hvv := e5 (by omega)
          rw [hvv, hC] at e3
          have hrow : Row q wr := by have := hblk.row; rwa [hC] at this
          have hqlt := hrow.lt
          have hfz : ∀ (o : Obj) (i : Nat), (wr.alloc o).frozen? ⟨q, i, none⟩ = false := fun o i => by
            obtain ⟨cs, hcs⟩ := hrow
            exact free_at ((Below.heap_alloc _ _ _ (lt_of_obj hcs)).trans hcs) i
          have hj1 : IntKind.i64.wrap ((j : Int) + 1) = ((j + 1 : Nat) : Int) := by rw [IntKind.wrap_i64]; omega
          obtain ⟨l0, l1, l2, l3, l4⟩ := e3
          cases y with
          | no =>
            obtain ⟨A, cp, rfl⟩ := e2
            have HBR := Lib.hid (fun o => (hwi.bare hF hnod hy).alloc o)
            clear hwi hF hnod hruns hxr hwr hroom hB htot hcl hnx hjl hy h1 h2 h3 h4 h5 h6 h7 hC h8 h9 hxl hblk e1 e4 e5 hvv hrow
            go_wp2_with fail
            refine (copyOf_none M A cp _).mono ?_
            rintro e w4 ⟨rfl, rfl⟩
            go_wp2
            go_roundw
            case rel => exact ⟨j + 1, by omega, rfl, HBR.out _⟩
            case measure => simp [intOf]; omega
          | «at» p l =>
            obtain ⟨cp, rfl, hpos'⟩ := e2
            have hzr : Nd.at p l ∈ root.all := all_sub hxr (List.mem_filter.2 ⟨List.mem_of_getElem? hy, rfl⟩)
            have hze : Nd.at p l ∈ ent := (HEN.out _).2 hzr
            have hle : (ws ++ vs).length ≤ 2000000 := by
              have a1 := h3.length
              have a2 : ((x.els.take j).filter isAt).length ≤ j := Nat.le_trans (List.length_filter_le _ _) (List.length_take_le _ _)
              rw [List.length_append]; omega
            have hcall : ∀ o, Calls Tryd.prog 49 #[.pointer (some ⟨M + 1, 0, none⟩), .slice (some ⟨p, 0, none⟩) l.length cp] (wr.alloc o) fun e w' => ∃ h cap2, e = .returned (.slice (some ⟨h, 0, none⟩) l.length cap2) ∧
                w'.cell? ⟨q, j * 5 + 3, none⟩ = some (.slice (some ⟨p, 0, none⟩) l.length cp) ∧ Row q w' ∧ Within w M root K ent tot h0 x r s.fin ws q (j + 1) (w'.setCell ⟨q, j * 5 + 3, none⟩ (.slice (some ⟨h, 0, none⟩) l.length cap2)) := fun o => by
              have ha := h1.alloc o
              refine (copyOf_at ha.pq HM.out.symm hF (fun y hy => (HEN.out y).1 hy) hze (ha.kn _ hze).1 (ha.kn _ hze).2 (by omega) hle cp).mono ?_
              rintro e w' ⟨h, cap2, cur, rfl, hh, hp, hk, hcur, hus⟩
              have hqP : q ∈ P' := by have := h1.cin x hxl; rwa [hC] at this
              exact ⟨h, cap2, rfl, (World.cell?_of_block (a := ⟨q, j * 5 + 3, none⟩) ((hk q hqP).trans (Below.heap_alloc wr o q hqlt))).trans l3, Within.full hF hnod hy hpos' ha h2 h3 h4 h5 h6 h7 hC h8 h9 hh hp hk hcur hus⟩
            have HCA := Lib.hid hcall
            clear hwi hF hnod hruns hxr hwr hroom hB htot hcl hnx hjl hy h1 h2 h3 h4 h5 h6 h7 hC h8 h9 hxl hblk e1 e4 e5 hvv hrow hcall hzr hze hle hfz
            obtain ⟨m, hm⟩ : ∃ m, m = l.length := ⟨_, rfl⟩
            rw [← hm] at HCA l3 hpos'
            clear hm
            go_wp2_with fail
            refine (HCA.out _).mono ?_
            rintro e w4 ⟨h, cap2, rfl, l3', hrow, hwj⟩
            have hqlt4 := hrow.lt
            have hfz : ∀ (i : Nat), w4.frozen? ⟨q, i, none⟩ = false := fun i => by
              obtain ⟨cs, hcs⟩ := hrow
              exact free_at hcs i
            have HWJ := Lib.hid hwj; clear hwj hrow
            go_wp2
            go_roundw
            case rel => exact ⟨j + 1, by omega, rfl, HWJ.out⟩
            case measure => simp [intOf]; omega
        · obtain rfl : j = nx := by omega
          obtain ⟨C', J', P', vs, h1, h2, h3, h4, h5, h6, h7, hC, h8, h9⟩ := hwi
          have he : (x.els.take j).filter isAt = x.subs := by rw [show x.els.take j = x.els from List.take_of_length_le (by rw [hnx]; exact Nat.le_refl _)]; rfl
          rw [he] at h1 h3 h6
          have hfin : Walking w M root K ent tot h0 t B n' wr := by
            refine ⟨_, C', J', P', ws ++ vs, hruns, h1.live (fun y => ?_), ?_, ?_, ?_, h8, ?_⟩
            · simp only [List.mem_append, List.mem_cons, List.mem_reverse]
              constructor
              · rintro (h | h | h | h)
                · exact .inl (.inl h)
                · exact .inr (.inl h)
                · exact .inl (.inr h)
                · exact .inr (.inr h)
              · rintro ((h | h) | h | h)
                · exact .inl h
                · exact .inr (.inr (.inl h))
                · exact .inr (.inl h)
                · exact .inr (.inr (.inr h))
            · show CShps C' (x.subs.reverse ++ r).reverse _
              rw [List.reverse_append, List.reverse_reverse]
              exact h2.append h3
            · intro y hy
              rcases List.mem_cons.1 hy with rfl | hy
              · rw [h7, hnx]
              · exact h4 y hy
            · intro y hy
              rcases List.mem_append.1 hy with hy | hy
              · exact h6 y (List.mem_reverse.1 hy)
              · exact h5 y hy
            · simp only [List.mem_append, List.mem_cons] at h9 ⊢
              rcases h9 with h | h | h
              · exact .inr (.inl h)
              · exact .inl (.inr h)
              · exact .inr (.inr h)
          have HF5 := Lib.hid hfin
          clear hfin he h1 h2 h3 h4 h5 h6 h7 hC h8 h9 hF hnod hruns hxr hwr hroom hB htot hcl hnx
          go_wp2
          go_roundw
          case rel => exact ⟨_, HF5.out⟩
          case measure => have := (leftAt_spec ⟨_, HF5.out⟩).2 _ HF5.out; omega
end Tree
end Go.Proofs.YtmbmhblogjkflaaDoor
