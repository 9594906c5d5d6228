/-
  The walk of EidNodes. Conditions: none.
-/
import Derived.Test.YtmbmhblogjkflaaEig
import Derived.Test.YtmbmhblogjkflaaEij
namespace Go.Proofs.Ytmbmhblogjkflaa
namespace Eid
open Go.ChangeShapes Go.WideShapes Go.ChangeAt Go.RowKit
set_option linter.unusedVariables false
set_option maxRecDepth 100000

theorem extract_nb (b : ByteArray) (k : Nat) : nb (b.extract 0 k) = (nb b).take k := by
  unfold nb
  rw [ByteArray.data_extract, Array.toList_extract, List.extract_eq_take_drop]
  simp [List.map_take]
/-- A right name's node is right, and its own. -/
theorem node_right {e : Nm} (h : Right e) : Right (nodeE e) ∧ nodeE (nodeE e) = nodeE e := by
  obtain ⟨s, nm, nd, sv⟩ := e
  rcases h with ⟨h1, h2, h3, h4⟩ | ⟨h1, h2, h3, h4, h5⟩
  · have h1' : s = 2 := h1
    subst h1'
    exact ⟨.inl ⟨rfl, h2, h3, Nat.zero_le _⟩, rfl⟩
  · have h1' : s = 1 := h1
    subst h1'
    have h2' : nd = 0 := h2
    subst h2'
    have h3' : sv = 0 := h3
    subst h3'
    by_cases hn : nm = noneB
    · subst hn
      have e : nodeE ⟨1, noneB, 0, 0⟩ = noneE := by unfold nodeE; rw [if_neg (by decide), if_pos rfl]; rfl
      rw [e]
      exact ⟨noneE_right, e⟩
    · have e : nodeE ⟨1, nm, 0, 0⟩ = ⟨1, nm.extract 0 (svc (nb nm)), 0, 0⟩ := by unfold nodeE; rw [if_neg (show ¬ (1 : Int) = 2 by decide), if_neg hn]
      rw [e]
      obtain ⟨a, b, hf⟩ : ∃ a b, Full (nb nm) a b := h5.resolve_left fun h => hn ((noneB_iff nm).1 h)
      have hx : nb (nm.extract 0 (svc (nb nm))) = nodeL (nb nm) := by rw [extract_nb, take_svc hf]
      have hfn := full_node hf
      rw [← hx] at hfn
      have hne : nm.extract 0 (svc (nb nm)) ≠ noneB := fun h => by
        rw [h] at hfn
        exact none_not_full hfn
      refine ⟨.inr ⟨rfl, rfl, rfl, ?_, .inr ⟨_, _, hfn⟩⟩, ?_⟩
      · have h1 := nodeL_len hf
        rw [← hx, nb_length, nb_length] at h1
        have : nm.size ≤ 60 := h4
        show (nm.extract 0 (svc (nb nm))).size ≤ 60
        omega
      · unfold nodeE
        rw [if_neg (show ¬ (1 : Int) = 2 by decide), if_neg hne]
        have : (nm.extract 0 (svc (nb nm))).extract 0 (svc (nb (nm.extract 0 (svc (nb nm))))) = nm.extract 0 (svc (nb nm)) := by
          apply nb_inj
          rw [extract_nb, take_svc hfn, hx, nodeL_nodeL hf]
        rw [this]
theorem node_size {e : Nm} : (nodeE e).name.size ≤ e.name.size := by
  unfold nodeE
  split
  · exact Nat.le_refl _
  · split
    · exact Nat.le_refl _
    · show (e.name.extract 0 _).size ≤ _
      rw [ByteArray.size_extract]; omega

theorem EB.stay {X Y : World} {b : Nat} {e : Nm} (h : EB X b e) (hb : Below X.heap.size X Y) : EB Y b e := h.below hb h.lt

set_option maxHeartbeats 16000000 in
theorem nodes_not (e : Nm) (h : ¬ Right e) (hs : e.name.size ≤ 100) (sv : Nat) (w : World) : Calls Try.prog 4 #[eV e, .int .u32 (sv : Nat)] w fun r w' => r = .returned (.bool true) ∧ Below w.heap.size w w' := by
  have HA := Lib.hid (fun w => awake_any w)
  have hf := fun w => rfew e w
  rw [decide_eq_true hs] at hf
  have HF := Lib.hid hf
  have HN := Lib.hid (fun w => pnode_no e h (by omega) w)
  have HR := Lib.hid (fun w => rright e false ⟨fun h => (by cases h), fun k => absurd k h⟩ (by omega) w)
  have HE := fun X => eql_run zeroE zeroE X
  rw [decide_eq_true (rfl : zeroE = zeroE)] at HE
  clear hf h hs
  obtain ⟨h0, h2⟩ := EB.box1 w e (Below.refl _ _)
  generalize hW : w.alloc (.cells (eCells e) 29 (0, 0)) = w1 at h0 h2
  obtain ⟨e0, e1, e2, e3⟩ := e
  obtain ⟨c0, c1, c2, c3⟩ := h0.cells
  have HB := Lib.hid (And.intro h0 h2); clear h0 h2
  simp only [eV, eCells, zeroE, Int.cast_ofNat_Int] at HF HN HR HE hW ⊢
  go_enter Try.func4, Try.ntmps4
  go_upto_region 1 with fail
  clear hW
  go_wp2_with fail
  refine (HA.out _).mono ?_
  rintro _ w2 ⟨rfl, hb2⟩
  have h02 := HB.out.1.stay hb2
  have hbl2 := HB.out.2.trans (hb2.mono HB.out.2.size)
  clear c0 c1 c2 c3 hb2
  obtain ⟨c0, c1, c2, c3⟩ := h02.cells
  have HB2 := Lib.hid (And.intro h02 hbl2); clear h02 hbl2
  go_wp2_with fail
  refine (HF.out _).mono ?_
  rintro _ w3 ⟨rfl, hb3⟩
  have h03 := HB2.out.1.stay hb3
  have hbl3 := HB2.out.2.trans (hb3.mono HB2.out.2.size)
  clear c0 c1 c2 c3 hb3
  obtain ⟨c0, c1, c2, c3⟩ := h03.cells
  have HB3 := Lib.hid (And.intro h03 hbl3); clear h03 hbl3
  go_wp2_with fail
  refine (HN.out _).mono ?_
  rintro _ w4 ⟨rfl, hb4⟩
  have h04 := HB3.out.1.stay hb4
  have hbl4 := HB3.out.2.trans (hb4.mono HB3.out.2.size)
  clear c0 c1 c2 c3 hb4
  have hn5 := EB.new w4 zeroE
  have h05 := h04.alloc (.cells (eCells zeroE) 29 (0, 0))
  have hbl5 := hbl4.alloc hbl4.size (.cells (eCells zeroE) 29 (0, 0))
  have HQ := Lib.hid (And.intro hn5 (And.intro h05 hbl5)); clear hn5 h05 hbl5 h04 hbl4
  go_upto_region 4 with fail
  obtain ⟨hn5, h05, hbl5⟩ := HQ.out
  clear HQ
  simp only [eCells, zeroE, Int.cast_ofNat_Int] at hn5 h05 hbl5
  generalize w4.alloc (.cells #[.int .i64 0, .string ⟨#[]⟩, .int .u64 0, .int .u64 0] 29) = w5 at *
  obtain ⟨c0, c1, c2, c3⟩ := h05.cells
  have HB5 := Lib.hid (And.intro hn5 hbl5); clear hn5 h05 hbl5
  go_wp2_with fail
  refine (HR.out _).mono ?_
  rintro _ w6 ⟨rfl, hb6⟩
  obtain ⟨d0, d1, d2, d3⟩ := (HB5.out.1.stay hb6).cells
  have HFIN := Lib.hid (HB5.out.2.trans (hb6.mono HB5.out.2.size))
  clear hb6 c0 c1 c2 c3
  simp only [zeroE, Int.cast_ofNat_Int] at d0 d1 d2 d3
  go_wp2
  go_ret
  exact ⟨rfl, HFIN.out⟩

/-- What is kept: the name, and four more. -/
structure Five (w : World) (b0 : Nat) (e n : Nm) (L : List (Nat × Nm)) (X : World) : Prop where
  e : EB X b0 e
  l : ∀ p ∈ L, EB X p.1 p.2
  b : Below w.heap.size w X
theorem Five.next {w : World} {b0 : Nat} {e n : Nm} {L : List (Nat × Nm)} {X Y : World} (h : Five w b0 e n L X) (hb : Below X.heap.size X Y) : Five w b0 e n L Y :=
  ⟨h.e.stay hb, fun p hp => (h.l p hp).stay hb, h.b.trans (hb.mono h.b.size)⟩
theorem Five.add {w : World} {b0 : Nat} {e n : Nm} {L : List (Nat × Nm)} {X : World} (h : Five w b0 e n L X) (x : Nm) : Five w b0 e n (L ++ [(X.heap.size, x)]) (X.alloc (.cells (eCells x) 29 (0, 0))) :=
  ⟨h.e.alloc _, fun p hp => by
    rcases List.mem_append.1 hp with hp | hp
    · exact (h.l p hp).alloc _
    · obtain rfl := List.mem_singleton.1 hp
      exact EB.new X x, h.b.alloc h.b.size _⟩
theorem Five.set {w : World} {b0 : Nat} {e n : Nm} {L : List (Nat × Nm)} {X : World} (h : Five w b0 e n L X) (hL : ∀ p ∈ L, p.1 ≠ b0) (hb : w.heap.size ≤ b0) (k : Nat) : Five w b0 ⟨e.scheme, e.name, e.node, k⟩ n L (X.setCell ⟨b0, 3, none⟩ (.int .u64 (k : Nat))) :=
  ⟨h.e.set3 k, fun p hp => (h.l p hp).other (hL p hp) 3 _, h.b.setCell (p := ⟨b0, 3, none⟩) hb _⟩

set_option maxHeartbeats 32000000 in
theorem nodes_by (e n k : Nm) (h : Int) (sv : Nat) (hs : e.name.size ≤ 100) (hsv : sv < 4294967296)
    (HN : Hid (∀ w, Calls Try.prog 11 #[eV e] w fun r w' => r = .returned (.tuple #[eV n, .int .i64 0]) ∧ Below w.heap.size w w'))
    (HR : Hid (∀ w, Calls Try.prog 12 #[eV e] w fun r w' => r = .returned (.bool true) ∧ Below w.heap.size w w'))
    (HW : Hid (∀ w, Calls Try.prog 13 #[eV e] w fun r w' => r = .returned (eV n) ∧ Below w.heap.size w w'))
    (HM : Hid (∀ w, Calls Try.prog 11 #[eV n] w fun r w' => r = .returned (.tuple #[eV n, .int .i64 0]) ∧ Below w.heap.size w w'))
    (HK : Hid (∀ w, Calls Try.prog 11 #[eV ⟨e.scheme, e.name, e.node, sv⟩] w fun r w' => r = .returned (.tuple #[eV k, .int .i64 h]) ∧ Below w.heap.size w w'))
    (hcase : (h = 0 ∧ k = n ∧ e.scheme = 2) ∨ (h = 0 ∧ k = n ∧ e.scheme = 1 ∧ sv = 0) ∨ (h = 1 ∧ e.scheme = 1 ∧ sv ≠ 0)) (w : World) :
    Calls Try.prog 4 #[eV e, .int .u32 (sv : Nat)] w fun r w' => r = .returned (.bool true) ∧ Below w.heap.size w w' := by
  have HA := Lib.hid (fun w => awake_any w)
  have hf := fun w => rfew e w
  rw [decide_eq_true hs] at hf
  have HF := Lib.hid hf
  have HE1 := fun X => eql_run n n X
  rw [decide_eq_true (rfl : n = n)] at HE1
  have hwr : IntKind.u64.wrap (sv : Int) = (sv : Int) := by simp [IntKind.wrap, IntKind.bits, IntKind.signed]; omega
  clear hf hs hsv
  obtain ⟨h0, h2⟩ := EB.box1 w e (Below.refl _ _)
  have h5 : Five w w.heap.size e n [] (w.alloc (.cells (eCells e) 29 (0, 0))) := ⟨h0, fun p hp => (by cases hp), h2⟩
  clear h0 h2
  generalize hW : w.alloc (.cells (eCells e) 29 (0, 0)) = w1 at h5
  obtain ⟨e0, e1, e2, e3⟩ := e
  obtain ⟨n0, n1, n2, n3⟩ := n
  obtain ⟨k0, k1, k2, k3⟩ := k
  obtain ⟨c0, c1, c2, c3⟩ := h5.e.cells
  have HB := Lib.hid h5; clear h5
  simp only [eV, eCells] at HF HN HR HW HM HK HE1 hW ⊢
  have HC := Lib.hid hcase; clear hcase
  go_enter Try.func4, Try.ntmps4
  go_upto_region 1 with fail
  clear hW
  go_wp2_with fail
  refine (HA.out _).mono ?_
  rintro _ w2 ⟨rfl, hb2⟩
  have HB2 := Lib.hid (HB.out.next hb2)
  clear c0 c1 c2 c3 hb2
  obtain ⟨c0, c1, c2, c3⟩ := HB2.out.e.cells
  go_wp2_with fail
  refine (HF.out _).mono ?_
  rintro _ w3 ⟨rfl, hb3⟩
  have HB3 := Lib.hid (HB2.out.next hb3)
  clear c0 c1 c2 c3 hb3
  obtain ⟨c0, c1, c2, c3⟩ := HB3.out.e.cells
  go_wp2_with fail
  refine (HN.out _).mono ?_
  rintro _ w4 ⟨rfl, hb4⟩
  have HB4 := Lib.hid ((HB3.out.next hb4).add ⟨n0, n1, n2, n3⟩)
  have HZ4 := Lib.hid (HB3.out.next hb4).e.lt
  clear c0 c1 c2 c3 hb4
  go_upto_region 4 with fail
  simp only [eCells] at HB4
  generalize w4.alloc (.cells #[.int .i64 n0, .string n1, .int .u64 (n2 : Nat), .int .u64 (n3 : Nat)] 29) = w5 at *
  obtain ⟨c0, c1, c2, c3⟩ := HB4.out.e.cells
  go_wp2_with fail
  refine (HR.out _).mono ?_
  rintro _ w6 ⟨rfl, hb6⟩
  have HB6 := Lib.hid (HB4.out.next hb6)
  clear c0 c1 c2 c3 hb6
  obtain ⟨c0, c1, c2, c3⟩ := HB6.out.e.cells
  go_wp2_with fail
  refine (HW.out _).mono ?_
  rintro _ w7 ⟨rfl, hb7⟩
  have HB7 := Lib.hid ((HB6.out.next hb7).add ⟨n0, n1, n2, n3⟩)
  have HZ7 := Lib.hid (HB6.out.next hb7).e.lt
  clear c0 c1 c2 c3 hb7
  go_upto_region 7 with fail
  simp only [eCells] at HB7
  generalize w7.alloc (.cells #[.int .i64 n0, .string n1, .int .u64 (n2 : Nat), .int .u64 (n3 : Nat)] 29) = w8 at *
  obtain ⟨c0, c1, c2, c3⟩ := (HB7.out.l (w4.heap.size, ⟨n0, n1, n2, n3⟩) (by simp)).cells
  go_wp2_with fail
  refine (HM.out _).mono ?_
  rintro _ w9 ⟨rfl, hb9⟩
  have HB9 := Lib.hid ((HB7.out.next hb9).add ⟨n0, n1, n2, n3⟩)
  have HZ9 := Lib.hid (HB7.out.next hb9).e.lt
  clear c0 c1 c2 c3 hb9
  go_upto_region 8 with fail
  simp only [eCells] at HB9
  generalize w9.alloc (.cells #[.int .i64 n0, .string n1, .int .u64 (n2 : Nat), .int .u64 (n3 : Nat)] 29) = w10 at *
  obtain ⟨c0, c1, c2, c3⟩ := HB9.out.e.cells
  have cf := HB9.out.e.free
  have HB10 := Lib.hid (HB9.out.set (fun p hp => by
    have h4 := HZ4.out; have h7 := HZ7.out; have h9 := HZ9.out
    simp at hp
    rcases hp with rfl | rfl | rfl <;> (dsimp only; omega)) (Nat.le_refl _) sv)
  go_upto_region 9 with fail
  clear c0 c1 c2 c3 cf
  generalize w10.setCell ⟨w.heap.size, 3, none⟩ (.int .u64 (sv : Nat)) = w11 at *
  obtain ⟨c0, c1, c2, c3⟩ := HB10.out.e.cells
  go_wp2_with fail
  refine (HK.out _).mono ?_
  rintro _ w12 ⟨rfl, hb12⟩
  have HB12 := Lib.hid ((HB10.out.next hb12).add ⟨k0, k1, k2, k3⟩)
  clear c0 c1 c2 c3 hb12
  go_upto_region 10 with fail
  simp only [eCells] at HB12
  generalize w12.alloc (.cells #[.int .i64 k0, .string k1, .int .u64 (k2 : Nat), .int .u64 (k3 : Nat)] 29) = w13 at *
  obtain ⟨a0, a1, a2, a3⟩ := (HB12.out.l (w4.heap.size, ⟨n0, n1, n2, n3⟩) (by simp)).cells
  obtain ⟨b0, b1, b2, b3⟩ := (HB12.out.l (w7.heap.size, ⟨n0, n1, n2, n3⟩) (by simp)).cells
  obtain ⟨d0, d1, d2, d3⟩ := (HB12.out.l (w9.heap.size, ⟨n0, n1, n2, n3⟩) (by simp)).cells
  obtain ⟨f0, f1, f2, f3⟩ := (HB12.out.l (w12.heap.size, ⟨k0, k1, k2, k3⟩) (by simp)).cells
  obtain ⟨c0, c1, c2, c3⟩ := HB12.out.e.cells
  have HFIN := Lib.hid (fun m => (⟨HB12.out.b.os, HB12.out.b.tape, HB12.out.b.output, HB12.out.b.size, HB12.out.b.block⟩ : Below w.heap.size w (w13.drewN m)))
  simp only at a0 a1 a2 a3 b0 b1 b2 b3 c0 c1 c2 c3 d0 d1 d2 d3 f0 f1 f2 f3
  rcases HC.out with ⟨h1, h2, h3⟩ | ⟨h1, h2, h3, h4⟩ | ⟨h1, h3, h4⟩
  · have hc0 := c0
    simp only [Nm.mk.injEq] at h2
    obtain ⟨rfl, rfl, rfl, rfl⟩ := h2
    subst h1
    have h3' : e0 = 2 := h3
    subst h3'
    clear HC h3
    go_quiet (fail)
    go_wp2
    go_ret
    exact ⟨rfl, HFIN.out _⟩
  · simp only [Nm.mk.injEq] at h2
    obtain ⟨rfl, rfl, rfl, rfl⟩ := h2
    subst h1 h4
    have h3' : e0 = 1 := h3
    subst h3'
    clear HC h3
    go_quiet (fail)
    go_wp2
    go_ret
    exact ⟨rfl, HFIN.out _⟩
  · subst h1
    have h3' : e0 = 1 := h3
    subst h3'
    have h5 : ((sv : Int) == 0) = false := by simp; omega
    have h6 : decide ((sv : Int) = 0) = false := by simp; omega
    clear HC h3
    go_quiet (fail)
    go_wp2
    go_ret
    exact ⟨rfl, HFIN.out _⟩

/-- EidNodes: whatever the name and the service. -/
theorem nodes_few (e : Nm) (hs : e.name.size ≤ 100) (sv : Nat) (hsv : sv < 4294967296) (w : World) : Calls Try.prog 4 #[eV e, .int .u32 (sv : Nat)] w fun r w' => r = .returned (.bool true) ∧ Below w.heap.size w w' := by
  by_cases h : Right e
  · have hn := node_right h
    have hz : (nodeE e).name.size ≤ 1099511627776 := Nat.le_trans node_size (by omega)
    have hm := pnode (nodeE e) hn.1 hz
    rw [hn.2] at hm
    have HN := Lib.hid (fun w => pnode e h (by omega) w)
    have HR := Lib.hid (fun w => rright e true ⟨fun _ => h, fun _ => rfl⟩ (by omega) w)
    have HW := Lib.hid (fun w => rnode e h (by omega) w)
    have HM := Lib.hid hm
    have h0 := h
    obtain ⟨s, nm, nd, v⟩ := e
    rcases h with ⟨h1, h2, h3, h4⟩ | ⟨h1, h2, h3, h4, h5⟩
    · have h1' : s = 2 := h1
      subst h1'
      have hr : Right ⟨2, nm, nd, sv⟩ := .inl ⟨rfl, h2, h3, by show sv ≤ 4294967295; omega⟩
      exact nodes_by ⟨2, nm, nd, v⟩ _ (nodeE ⟨2, nm, nd, sv⟩) 0 sv hs hsv HN HR HW HM (Lib.hid fun w => pnode _ hr (show nm.size ≤ _ by have : nm.size ≤ 100 := hs; omega) w) (.inl ⟨rfl, rfl, rfl⟩) w
    · have h1' : s = 1 := h1
      subst h1'
      have h2' : nd = 0 := h2
      subst h2'
      have h3' : v = 0 := h3
      subst h3'
      by_cases hv : sv = 0
      · subst hv
        exact nodes_by ⟨1, nm, 0, 0⟩ _ (nodeE ⟨1, nm, 0, 0⟩) 0 0 hs hsv HN HR HW HM HN (.inr (.inl ⟨rfl, rfl, rfl, rfl⟩)) w
      · have hr : ¬ Right ⟨1, nm, 0, sv⟩ := fun h => by
          rcases h with ⟨h, -⟩ | ⟨-, -, h, -⟩
          · exact absurd (show (1 : Int) = 2 from h) (by decide)
          · exact hv h
        exact nodes_by ⟨1, nm, 0, 0⟩ _ zeroE 1 sv hs hsv HN HR HW HM (Lib.hid fun w => pnode_no _ hr (show nm.size ≤ _ by have : nm.size ≤ 100 := hs; omega) w) (.inr (.inr ⟨rfl, rfl, hv⟩)) w
  · exact nodes_not e h hs sv w

set_option maxHeartbeats 16000000 in
theorem nodes_many (e : Nm) (hs : ¬ e.name.size ≤ 100) (sv : Nat) (w : World) : Calls Try.prog 4 #[eV e, .int .u32 (sv : Nat)] w fun r w' => r = .returned (.bool true) ∧ Below w.heap.size w w' := by
  have HA := Lib.hid (fun w => awake_any w)
  have hf := fun w => rfew e w
  rw [decide_eq_false hs] at hf
  have HF := Lib.hid hf
  clear hf hs
  obtain ⟨h0, h2⟩ := EB.box1 w e (Below.refl _ _)
  generalize hW : w.alloc (.cells (eCells e) 29 (0, 0)) = w1 at h0 h2
  obtain ⟨e0, e1, e2, e3⟩ := e
  obtain ⟨c0, c1, c2, c3⟩ := h0.cells
  have HB := Lib.hid (And.intro h0 h2); clear h0 h2
  simp only [eV, eCells] at HF hW ⊢
  go_enter Try.func4, Try.ntmps4
  go_upto_region 1 with fail
  clear hW
  go_wp2_with fail
  refine (HA.out _).mono ?_
  rintro _ w2 ⟨rfl, hb2⟩
  have h02 := HB.out.1.stay hb2
  have hbl2 := HB.out.2.trans (hb2.mono HB.out.2.size)
  clear c0 c1 c2 c3 hb2
  obtain ⟨c0, c1, c2, c3⟩ := h02.cells
  have HB2 := Lib.hid hbl2; clear h02 hbl2
  go_wp2_with fail
  refine (HF.out _).mono ?_
  rintro _ w3 ⟨rfl, hb3⟩
  have HB3 := Lib.hid (HB2.out.trans (hb3.mono HB2.out.size)); clear hb3 c0 c1 c2 c3
  go_wp2_with fail
  refine (HA.out _).mono ?_
  rintro _ w4 ⟨rfl, hb4⟩
  have HB4 := Lib.hid (HB3.out.trans (hb4.mono HB3.out.size)); clear hb4
  go_wp2
  go_ret
  exact ⟨rfl, HB4.out⟩

theorem nodes_law (e : Nm) (sv : Nat) (w : World) (_ : EFit e) (hsv : sv < 4294967296) : Calls Try.prog 4 #[eV e, .int .u32 (sv : Nat)] w fun r w' => r = .returned (.bool true) ∧ Below w.heap.size w w' := by
  by_cases h : e.name.size ≤ 100
  · exact nodes_few e h sv hsv w
  · exact nodes_many e h sv w
end Eid
end Go.Proofs.Ytmbmhblogjkflaa
