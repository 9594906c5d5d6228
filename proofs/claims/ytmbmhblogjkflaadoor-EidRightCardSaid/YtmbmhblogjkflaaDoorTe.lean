/-
  Contract of the copier's leave. Conditions: the tree lies in memory; the list is entered, not done; the lists in it are done.
-/
import Derived.Test.YtmbmhblogjkflaaDoorTd
namespace Go.Proofs.YtmbmhblogjkflaaDoor
namespace Tree
open Go.ChangeShapes Go.WideShapes Go.ChangeAt Go.RowKit Go.MapKept
open Nd
set_option linter.unusedVariables false
set_option maxRecDepth 100000

theorem cnt_mem {l : List Nd} {y : Nd} (h : y ∈ l) : cnt y ≤ cntOf l := by
  induction l with
  | nil => cases h
  | cons a r ih =>
    rcases List.mem_cons.1 h with rfl | h'
    · simp [cntOf]
    · have := ih h'; simp [cntOf]; omega
theorem cnt_le {x y : Nd} (h : y ∈ all x) : cnt y ≤ cnt x := by
  revert y
  refine ind (P := fun x => ∀ {y}, y ∈ all x → cnt y ≤ cnt x) ?_ ?_ x
  · intro y h; simp [all] at h
  · intro g l ih y h
    simp only [all, List.mem_cons, mem_allOf] at h
    rcases h with rfl | ⟨x, hx, hy⟩
    · exact Nat.le_refl _
    · have h1 := ih x hx hy
      have h2 := cnt_mem hx
      simp only [cnt]; omega
theorem cnt_eq {x : Nd} (h : x.isAt = true) : cnt x = x.n + cntOf x.els := by
  cases x with
  | no => cases h
  | «at» q l => rfl
theorem cntOf_append (l m : List Nd) : cntOf (l ++ m) = cntOf l + cntOf m := by
  induction l with
  | nil => simp [cntOf]
  | cons a r ih => simp [cntOf, ih]; omega
theorem cntOf_take_next (l : List Nd) (j : Nat) (y : Nd) (h : l[j]? = some y) : cntOf (l.take (j + 1)) = cntOf (l.take j) + cnt y := by
  rw [List.take_add_one, h, cntOf_append]; simp [cntOf]
theorem cntOf_take_le (l : List Nd) (j : Nat) : cntOf (l.take j) ≤ cntOf l := by
  have := cntOf_append (l.take j) (l.drop j)
  rw [List.take_append_drop] at this; omega

section
variable {W X Y : World} {M : Nat} {root : Nd} {K : Nat → Nat} {ent : List Nd} {done : List Nat} {xs : List Value} {tot : Nat}
theorem Sx.open_known (h : Sx W M root K ent done xs tot X) {y : Nd} (hy : y ∈ ent) (hd : y.g ∉ done) : X.heap[K y.g]? = some (knownV true 0) := by
  have := h.known y hy
  simpa [hd] using this
theorem Sx.done_known (h : Sx W M root K ent done xs tot X) {y : Nd} (hy : y ∈ ent) (hd : y.g ∈ done) : X.heap[K y.g]? = some (knownV false (cnt y)) := by
  have := h.known y hy
  simpa [hd] using this
/-- A list is done. -/
theorem Sx.left (h : Sx W M root K ent done xs tot X) (hF : Forest W root) {x : Nd} (hx : x ∈ ent) (hd : x.g ∉ done) :
    Sx W M root K ent (x.g :: done) xs tot ((X.setCell ⟨K x.g, 1, none⟩ (.int .u64 (cnt x : Nat))).setCell ⟨K x.g, 0, none⟩ (.bool false)) := by
  obtain ⟨st, c, hs⟩ := h.cp
  refine ⟨⟨st, (c.other (i := 1) _ (h.lo x hx) (hs x hx)).other (i := 0) _ (h.lo x hx) (hs x hx), hs⟩, fun y hy => ?_, h.lo, h.inj, h.sub⟩
  by_cases e : y.g = x.g
  · obtain rfl := nodup_inj hF.nodup (h.sub y hy) (h.sub x hx) e
    rw [set_at (set_at (h.open_known hy hd))]
    simp [knownV]
  · have hk : K y.g ≠ K x.g := fun e' => e (h.inj y hy x hx e')
    rw [Below.heap_setCell _ _ _ _ (by simpa using hk), Below.heap_setCell _ _ _ _ (by simpa using hk), h.known y hy]
    simp [e]
end

set_option maxHeartbeats 4000000 in
theorem leave_any {W X : World} {M : Nat} {root : Nd} {K : Nat → Nat} {ent : List Nd} {done : List Nat} {xs : List Value} {tot : Nat} (hS : Sx W M root K ent done xs tot X) (hM : M = W.heap.size) (hF : Forest W root) {x : Nd} (hx : x ∈ ent) (hd : x.g ∉ done)
    (hs : ∀ y ∈ x.subs, y ∈ ent ∧ y.g ∈ done) (cap : Nat) :
    Calls Tryd.prog 62 #[.pointer (some ⟨M + 1, 0, none⟩), .slice (some ⟨x.g, 0, none⟩) x.n cap] X fun e w' => e = .returned (.tuple #[]) ∧ Sx W M root K ent (x.g :: done) xs tot w' := by
  have hxr := hS.sub x hx
  have hpos := (hF.lst x hxr).pos
  have hcx := cnt_eq (all_at hxr)
  have hcl : cnt x ≤ 1000000 := Nat.le_trans (cnt_le hxr) hF.few
  have hk : ∀ Z, Sx W M root K ent done xs tot Z → Z.cell? ⟨M + 1, 0, none⟩ = some (.map (some M)) ∧ (Instr.lookup 62 (.map (some M)) (keyP x.g x.n) false).run Tryd.prog Z = .ok (.pointer (some ⟨K x.g, 0, none⟩)) Z := fun Z hZ => ⟨hZ.c0, hZ.look_in hM hF hx⟩
  have HK := Lib.hid hk; clear hk
  have HPL := Lib.hid (fun w => place_any x.g x.n cap w hpos)
  have HL := Lib.hid (fun (Z : World) (hZ : Sx W M root K ent done xs tot Z) => hZ.left hF hx hd)
  have HO := Lib.hid (fun (Z : World) (hZ : Sx W M root K ent done xs tot Z) => hZ.open_known hx hd)
  have HC := Lib.hid hS; clear hS
  obtain ⟨n, hnn⟩ : ∃ n, n = x.n := ⟨_, rfl⟩
  obtain ⟨gx, hgx⟩ : ∃ q, q = x.g := ⟨_, rfl⟩
  obtain ⟨kx, hkx⟩ : ∃ q, q = K x.g := ⟨_, rfl⟩
  obtain ⟨cx, hcx'⟩ : ∃ q, q = cnt x := ⟨_, rfl⟩
  have HF := Lib.hid (And.intro hF (And.intro hxr (And.intro hs (And.intro hcx (And.intro hM (And.intro hnn (And.intro hgx hcx')))))))
  rw [← hcx'] at HL hcl
  rw [← hkx] at HK HL HO
  rw [← hnn, ← hgx] at HPL HK ⊢
  rw [← hgx] at HL
  have hw : IntKind.u64.wrap (n : Int) = (n : Int) := by rw [IntKind.wrap_u64]; omega
  clear hF hx hs hd hpos hM hnn hgx hxr hcx hkx hcx'
  go_enter Tryd.func62, Tryd.ntmps62
  go_upto_region 0 with fail
  go_cut [4] (fun s4 wc => s4 = .pointer (some ⟨kx, 0, none⟩) ∧ Sx W M root K ent done xs tot wc)
  case first =>
    go_region_held3 (fun Z => Z.cell? ⟨M + 1, 0, none⟩ = some (.map (some M)) ∧ (Instr.lookup 62 (.map (some M)) (keyP gx n) false).run Tryd.prog Z = .ok (.pointer (some ⟨kx, 0, none⟩)) Z)
      ((refine HK.out _ ?_; first | exact HC.out | exact HC.out.drew | exact HCP.out | exact HCP.out.drew))
      (first | (go_at_call 60; with_reducible refine (HPL.out _).mono ?_; rintro e w' ⟨rfl, hb⟩; have HCP := Lib.hid (HC.out.drew.next hb); clear hb))
    all_goals (go_wp2_with fail; go_meet)
    all_goals exact ⟨rfl, HCP.out⟩
  case rest =>
    obtain ⟨rfl, hcp⟩ := hcut
    have k1 : wc.cell? ⟨kx, 1, none⟩ = some (.int .u64 0) := cell_of_row wc _ 1 _ _ _ (HO.out _ hcp)
    have hd : decide ((0 : Int) < 0) = false := by decide
    have HR := Lib.hid hcp; clear hcp HC HK HPL
    go_wp2_with fail
    go_loopw [5, 6, 27] (fun s5 s6 i wr => ∃ j : Nat, s5 = .int .u64 ((n + cntOf (x.els.take j) : Nat) : Int) ∧ s6 = .bool false ∧ j ≤ n ∧ i = .int .i64 j ∧ Sx W M root K ent done xs tot wr) (fun _ _ i _ => n - (intOf i).toNat)
    case atStart => exact ⟨0, by simp [cntOf], rfl, Nat.zero_le _, rfl, HR.out⟩
    case round =>
      obtain ⟨j, rfl, rfl, hj, rfl, hQ⟩ := hrel
      clear k1
      by_cases hlt : j < n
      · obtain ⟨hF, hxr, hsub, hcx, hM, hnn, hgx, hcx'⟩ := HF.out
        have hjl : j < x.els.length := by rw [hnn] at hlt; exact hlt
        obtain ⟨y, hy⟩ : ∃ y, x.els[j]? = some y := ⟨_, List.getElem?_eq_getElem hjl⟩
        obtain ⟨k1, n1, s1, v1, o1, hcel, hshp⟩ := hQ.cel hM hF hxr hy
        rw [← hgx] at hcel
        have hnx := cntOf_take_next x.els j y hy
        have htl := cntOf_take_le x.els (j + 1)
        have hbig : n + cntOf (x.els.take j) + cnt y ≤ 1000000 := by omega
        obtain ⟨l0, l1, l2, l3, l4⟩ := hcel
        have HN := Lib.hid (fun o m => (hQ.alloc o).drewN m)
        have HQ0 := Lib.hid hQ
        have hj1 : IntKind.i64.wrap ((j : Int) + 1) = ((j + 1 : Nat) : Int) := by rw [IntKind.wrap_i64]; omega
        cases y with
        | no =>
          obtain ⟨A, cp, rfl⟩ := hshp
          have HV : cntOf (x.els.take (j + 1)) = cntOf (x.els.take j) := by rw [hnx]; simp [cnt]
          clear hQ hF hxr hsub hcx hM hnn hgx hcx' hjl hy hnx htl hbig
          go_wp2
          go_roundw
          case rel => exact ⟨j + 1, by rw [HV], rfl, by omega, rfl, HN.out _ 0⟩
          case measure => simp [intOf]; omega
        | «at» q l =>
          obtain ⟨cp, rfl, hpos⟩ := hshp
          obtain ⟨hye, hyd⟩ := hsub (.at q l) (List.mem_filter.2 ⟨List.mem_of_getElem? hy, rfl⟩)
          have hk2 : ∀ Z, Sx W M root K ent done xs tot Z → Z.cell? ⟨M + 1, 0, none⟩ = some (.map (some M)) ∧ (Instr.lookup 62 (.map (some M)) (keyP q l.length) false).run Tryd.prog Z = .ok (.pointer (some ⟨K q, 0, none⟩)) Z ∧
              Z.cell? ⟨K q, 0, none⟩ = some (.bool false) ∧ Z.cell? ⟨K q, 1, none⟩ = some (.int .u64 (cnt (.at q l) : Nat)) := fun Z hZ =>
            ⟨hZ.c0, hZ.look_in hM hF hye, cell_of_row Z _ 0 _ _ _ (hZ.done_known hye hyd), cell_of_row Z _ 1 _ _ _ (hZ.done_known hye hyd)⟩
          have PL := Lib.hid (fun w => place_any q l.length cp w hpos)
          obtain ⟨c0', cy, hc0, hcy⟩ : ∃ c cy : Nat, n + cntOf (x.els.take j) = c ∧ cnt (.at q l) = cy := ⟨_, _, rfl, rfl⟩
          have HV : n + cntOf (x.els.take (j + 1)) = c0' + cy := by omega
          have hw2 : IntKind.u64.wrap ((c0' : Int) + (cy : Int)) = ((c0' + cy : Nat) : Int) := by rw [IntKind.wrap_u64]; omega
          rw [hcy] at hk2
          rw [hc0]
          have HK2 := Lib.hid hk2
          clear hk2 hQ hF hxr hsub hcx hM hnn hgx hcx' hjl hy hnx htl hbig hcy hc0 hye hyd
          obtain ⟨m, hm⟩ : ∃ m, m = l.length := ⟨_, rfl⟩
          rw [← hm] at PL HK2 l3 hpos
          clear hm
          obtain ⟨kq, hkq⟩ : ∃ k, k = K q := ⟨_, rfl⟩
          rw [← hkq] at HK2
          clear hkq
          have hd1 : decide ((m : Int) = 0) = false := by simp; omega
          have hd2 : ((m : Int) == 0) = false := by simp; omega
          go_wp2_with fail
          obtain ⟨o, ho⟩ : ∃ o, o = Obj.cells #[.int .i64 k1, .int .u64 n1, .string s1, .slice (some ⟨q, 0, none⟩) m cp, .bool o1] 29 := ⟨_, rfl⟩
          rw [← ho]
          have HO : ∀ Z, Below (wr.alloc o).heap.size (wr.alloc o) Z → Z.cell? ⟨wr.heap.size, 3, none⟩ = some (.slice (some ⟨q, 0, none⟩) m cp) := fun Z hZ => by
            rw [hZ.cell (p := ⟨wr.heap.size, 3, none⟩) (by simp), ho]
            exact cell_of_row _ _ 3 _ _ _ (heap_alloc_new _ _)
          have HO' := Lib.hid HO; clear HO
          have HNX := Lib.hid (fun (Z : World) (hZ : Below (wr.alloc o).heap.size (wr.alloc o) Z) => (HQ0.out.alloc o).next hZ)
          clear ho
          generalize hV : wr.alloc o = V at *
          go_region_held3 (fun Z => Z.cell? ⟨M + 1, 0, none⟩ = some (.map (some M)) ∧ Z.cell? ⟨wr.heap.size, 3, none⟩ = some (.slice (some ⟨q, 0, none⟩) m cp))
            (first | exact ⟨(HK2.out _ (HNX.out _ (Below.refl _ _).drew)).1, HO'.out _ (Below.refl _ _).drew⟩ | exact ⟨(HK2.out _ (HNX.out _ HBV.out)).1, HO'.out _ HBV.out⟩ | exact ⟨(HK2.out _ (HNX.out _ HBV.out.drew)).1, HO'.out _ HBV.out.drew⟩)
            (first | (go_at_call 60; with_reducible refine (PL.out _).mono ?_; rintro e w' ⟨rfl, hb⟩; have hbv := bx1 hb; clear hb; have hz := hbv.size; obtain ⟨q0, q1, q2, q3⟩ := HK2.out _ (HNX.out _ hbv); have HBV := Lib.hid hbv; clear hbv))
          go_wp2
          go_roundw
          case rel => exact ⟨j + 1, by rw [HV]; rfl, rfl, by omega, rfl, HNX.out _ HBV.out⟩
          case measure => simp [intOf]; omega
      · obtain rfl : j = n := by omega
        obtain ⟨hF, hxr, hsub, hcx, hM, hnn, hgx, hcx'⟩ := HF.out
        have he : j + cntOf (x.els.take j) = cx := by rw [show x.els.take j = x.els from List.take_of_length_le (by rw [hnn]; exact Nat.le_refl _), hcx', hcx, hnn]
        have hkn := HO.out _ hQ
        have k0 : wr.cell? ⟨kx, 0, none⟩ = some (.bool true) := cell_of_row wr _ 0 _ _ _ hkn
        have k1 : wr.cell? ⟨kx, 1, none⟩ = some (.int .u64 0) := cell_of_row wr _ 1 _ _ _ hkn
        have f0 := free_at hkn
        have HE := Lib.hid (HL.out _ hQ)
        have hmin : min (cx : Int) 2147483648 = (cx : Int) := by omega
        rw [he]
        clear hQ he hF hxr hsub hcx hM hnn hgx hkn hcx'
        go_wp2
        go_end0
        exact ⟨rfl, HE.out⟩
end Tree
end Go.Proofs.YtmbmhblogjkflaaDoor
