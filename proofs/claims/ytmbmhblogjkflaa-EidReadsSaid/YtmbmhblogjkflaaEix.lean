/-
  Contract of dromondref10.Of at any item of few bytes: the right name that has it, or the error. Conditions: none.
-/
import Derived.Test.YtmbmhblogjkflaaEiw
namespace Go.Proofs.Ytmbmhblogjkflaa
namespace Eid
open Go.ChangeShapes Go.WideShapes Go.ChangeAt Go.RowKit
open Plain
set_option linter.unusedVariables false
set_option linter.unusedSimpArgs false
set_option maxRecDepth 100000

/-! ### Plain facts -/
def zOf : List It → Nat × Nat
  | [a, b] => (a.n, b.n)
  | _ => (0, 0)
theorem text_inj {a b : ByteArray} (h : textI a = textI b) : a = b := by
  simp only [textI, It.mk.injEq, true_and, and_true] at h; exact h
/-- A right name's item has one of three names. -/
theorem e_tries {e : Nm} (he : Right e) {k0 : Int} {n0 : Nat} {st : ByteArray} {y0 : It} {k1 : Int} {n1 : Nat} {t : ByteArray} {l : List It} {q o : Bool} (hi : itE e = .mk k0 n0 st [y0, .mk k1 n1 t l q] o) :
    e = noneE ∨ e = ⟨1, t, 0, 0⟩ ∨ (l.length = 2 ∧ e = ⟨2, ⟨#[]⟩, (zOf l).1, (zOf l).2⟩) := by
  have hp : partI e = .mk k1 n1 t l q := by
    simp only [itE, pairI, It.mk.injEq, List.cons.injEq, true_and, and_true] at hi
    exact hi.2.2.2.1.2
  obtain ⟨s, nm, nd, sv⟩ := e
  rcases he with ⟨h1, h2, h3, h4⟩ | ⟨h1, h2, h3, h4, h5⟩
  · have h1' : s = 2 := h1
    have h2' : nm = ⟨#[]⟩ := h2
    subst h1' h2'
    refine .inr (.inr ?_)
    rw [partI, if_pos rfl] at hp
    simp only [pairI, It.mk.injEq] at hp
    obtain ⟨-, -, -, rfl, -⟩ := hp
    exact ⟨rfl, rfl⟩
  · have h1' : s = 1 := h1
    have h2' : nd = 0 := h2
    have h3' : sv = 0 := h3
    subst h1' h2' h3'
    by_cases hn : nm = noneB
    · subst hn; exact .inl rfl
    · refine .inr (.inl ?_)
      rw [partI, if_neg (show ¬ (1 : Int) = 2 by decide), if_neg hn] at hp
      simp only [textI, It.mk.injEq] at hp
      rw [hp.2.2.1]
theorem item_inj {e f : Nm} (he : Right e) (hf : Right f) (h : itE e = itE f) : e = f := by
  have h1 := pair_inj h
  have hs := num_inj h1.1
  have hp := h1.2
  obtain ⟨s, nm, nd, sv⟩ := e
  obtain ⟨s', nm', nd', sv'⟩ := f
  rcases he with ⟨a1, a2, a3, a4⟩ | ⟨a1, a2, a3, a4, a5⟩ <;> rcases hf with ⟨b1, b2, b3, b4⟩ | ⟨b1, b2, b3, b4, b5⟩ <;> simp only at a1 a2 a3 b1 b2 b3 hs <;> subst a1 a2 b1 b2
  · rw [partI, partI, if_pos rfl, if_pos rfl] at hp
    have h2 := pair_inj hp
    have := num_inj h2.1
    have := num_inj h2.2
    simp_all
  · exact absurd hs (by decide)
  · exact absurd hs (by decide)
  · subst a3 b3
    rw [partI, partI, if_neg (show ¬ (1 : Int) = 2 by decide), if_neg (show ¬ (1 : Int) = 2 by decide)] at hp
    simp only at hp
    by_cases n1 : nm = noneB <;> by_cases n2 : nm' = noneB
    · rw [n1, n2]
    · rw [if_pos n1, if_neg n2] at hp; simp [numI, textI] at hp
    · rw [if_neg n1, if_pos n2] at hp; simp [numI, textI] at hp
    · rw [if_neg n1, if_neg n2] at hp
      rw [text_inj hp]
theorem of_one {x : It} {r q : Nm} {c d : Int} (h : OfR x r c) (k : OfR x q d) : r = q ∧ c = d := by
  rcases h with ⟨h1, h2, rfl⟩ | ⟨h1, rfl, rfl⟩ <;> rcases k with ⟨k1, k2, rfl⟩ | ⟨k1, rfl, rfl⟩
  · exact ⟨item_inj h1 k1 (h2.trans k2.symm), rfl⟩
  · exact absurd ⟨r, h1, h2⟩ k1
  · exact absurd ⟨q, k1, k2⟩ h1
  · exact ⟨rfl, rfl⟩

theorem len_num (n : Nat) : (bytesOf (numI n)).length ≤ 9 := by
  simp only [numI, bytesOf, if_true]; exact headOf_len 0 n
theorem len_text (s : ByteArray) : (bytesOf (textI s)).length ≤ 9 + s.size := by
  have := headOf_len 3 s.size
  simp only [textI, bytesOf]
  rw [if_neg (by decide), if_pos (by decide), List.length_append, size_data]
  have h3 : (3 : Int).toNat = 3 := rfl
  rw [h3]; omega
theorem len_pair (a b : It) : (bytesOf (pairI a b)).length ≤ 9 + (bytesOf a).length + (bytesOf b).length := by
  have := headOf_len 4 2
  simp only [pairI, bytesOf, bytesL]
  rw [if_neg (by decide), if_neg (by decide)]
  simp only [Bool.false_eq_true, if_false, List.length_append, List.length_cons, List.length_nil]
  have h2 : (headOf 4 (0 + 1 + 1)).length ≤ 9 := this
  omega
theorem len_item {e : Nm} (h : Right e) : (bytesOf (itE e)).length ≤ 1000000 := by
  have h0 := len_pair (numI e.scheme.toNat) (partI e)
  have h1 := len_num e.scheme.toNat
  have h2 : (bytesOf (partI e)).length ≤ 200 := by
    unfold partI
    split
    · have := len_pair (numI e.node) (numI e.service)
      have := len_num e.node
      have := len_num e.service
      omega
    · split
      · have := len_num 0; omega
      · have := len_text e.name
        have := (right_small h).2.2.2
        omega
  show (bytesOf (pairI _ _)).length ≤ _
  omega
theorem plain_item (e : Nm) : plainB (itE e) = true := by
  have := right_valid (itE e)
  rw [valid_item, rightB, Bool.and_eq_true] at this
  exact this.2
theorem bytes_iff {e : Nm} {x : It} (he : Right e) (hx : AllFit x) (vx : rightB x = true) : (⟨(bytesOf (itE e)).toArray⟩ : ByteArray) = ⟨(bytesOf x).toArray⟩ ↔ itE e = x := by
  constructor
  · intro h
    have h1 : bytesOf (itE e) = bytesOf x := by
      have := congrArg (fun b : ByteArray => b.data.toList) h
      simpa using this
    exact bytes_inj (allFit_item he) hx (valid_item e) ((right_valid x).symm.trans vx) h1
  · intro h; rw [h]

/-! ### What is no name's item -/
set_option maxHeartbeats 16000000 in
theorem rof_not (x : It) (rb : Bool) (h : rb = false ∨ x.l.length ≠ 2) (A : Option Addr) (cap : Nat) (w : World)
    (HR : Hid (∀ W, Below w.heap.size w W → Calls Try.prog 24 #[itV x (.slice A x.l.length cap)] W fun e w' => e = .returned (.bool rb) ∧ Below W.heap.size W w')) :
    Calls Try.prog 9 #[itV x (.slice A x.l.length cap)] w fun e w' => e = .returned (.tuple #[eV zeroE, .int .i64 2]) ∧ Below w.heap.size w w' := by
  have h0 := IBox.new w x (.slice A x.l.length cap) zeroE
  generalize hW : (w.alloc (boxOf x (.slice A x.l.length cap))).alloc (.cells (eCells zeroE) 29 (0, 0)) = w1 at h0
  obtain ⟨k, n, s, l, o⟩ := x
  simp only [boxOf, eCells, zeroE, Int.cast_ofNat_Int, It.kind, It.n, It.s, It.l, It.opn, itV] at hW HR h ⊢
  obtain ⟨c0, c1, c2, c3, c4⟩ := h0.cells
  have HX := Lib.hid h0; clear h0
  simp only [zeroE, It.kind, It.n, It.s, It.l, It.opn, Int.cast_ofNat_Int] at c0 c1 c2 c3 c4
  go_enter Try.func9, Try.ntmps9
  go_upto_region 1 with fail
  clear hW
  go_wp2_with fail
  refine (HR.out _ HX.out.below).mono ?_
  rintro _ X ⟨rfl, hb⟩
  have h3 := HX.out.next hb
  clear hb c0 c1 c2 c3 c4 HX
  obtain ⟨c0, c1, c2, c3, c4⟩ := h3.cells
  simp only [It.kind, It.n, It.s, It.l, It.opn] at c0 c1 c2 c3 c4
  obtain ⟨r0, r1, r2, r3⟩ := h3.res.cells
  have rf := h3.res.free
  have HX := Lib.hid h3; clear h3
  simp only [zeroE, Int.cast_ofNat_Int] at r0 r1 r2 r3
  cases rb with
  | false =>
    clear h
    go_wp2
    generalize hF : ((((X.setCell ⟨w.heap.size + 1, 0, none⟩ (.int .i64 0)).setCell ⟨w.heap.size + 1, 1, none⟩ (.string ⟨#[]⟩)).setCell ⟨w.heap.size + 1, 2, none⟩ (.int .u64 0)).setCell ⟨w.heap.size + 1, 3, none⟩ (.int .u64 0)) = F
    have hfin := HX.out.fin (f := zeroE) F hF
    obtain ⟨f0, f1, f2, f3⟩ := hfin.res.cells
    clear hF
    exact bodyPost_ret (v := .tuple #[eV (zeroE), .int .i64 2]) (by simp [results, Try.results9, go_sem, f0, f1, f2, f3, eV, zeroE]) rfl ⟨rfl, hfin.below⟩
  | true =>
    have hl : l.length ≠ 2 := h.resolve_left (fun h => by cases h)
    have q1 : ((l.length : Int) == 2) = false := by simp; omega
    have q2 : ((l.length : Int) != 2) = true := by simp; omega
    have q3 : decide ((l.length : Int) = 2) = false := by simp; omega
    clear h hl
    go_wp2
    generalize hF : ((((X.setCell ⟨w.heap.size + 1, 0, none⟩ (.int .i64 0)).setCell ⟨w.heap.size + 1, 1, none⟩ (.string ⟨#[]⟩)).setCell ⟨w.heap.size + 1, 2, none⟩ (.int .u64 0)).setCell ⟨w.heap.size + 1, 3, none⟩ (.int .u64 0)) = F
    have hfin := HX.out.fin (f := zeroE) F hF
    obtain ⟨f0, f1, f2, f3⟩ := hfin.res.cells
    clear hF
    exact bodyPost_ret (v := .tuple #[eV (zeroE), .int .i64 2]) (by simp [results, Try.results9, go_sem, f0, f1, f2, f3, eV, zeroE]) rfl ⟨rfl, hfin.below⟩

theorem two_of {w : World} {B : Nat} {k1 : Int} {n1 : Nat} {t : ByteArray} {l : List It} {q : Bool} {A1 : Option Addr} {cp1 : Nat} (h : Lies w B (.mk k1 n1 t l q) (itV (.mk k1 n1 t l q) (.slice A1 l.length cp1))) (h2 : l.length = 2) :
    ∃ z0 z1 b' off' zs0 zs1, l = [z0, z1] ∧ A1 = some ⟨b', off', none⟩ ∧ b' < B ∧ Two w b' off' z0 z1 zs0 zs1 ∧ zOf l = (z0.n, z1.n) := by
  obtain ⟨A2, cp2, e2, hf2, hel⟩ := h.out
  obtain ⟨rfl, -⟩ : A1 = A2 ∧ cp1 = cp2 := by simpa [itV, It.l] using e2
  match l, h2 with
  | [z0, z1], _ =>
    obtain ⟨b, off, s0, rfl, hb, h0, -⟩ := hel 0 z0 rfl
    obtain ⟨b', off', s1, e1, hb', h1, -⟩ := hel 1 z1 rfl
    simp only [Option.some.injEq, Addr.mk.injEq, and_true] at e1
    obtain ⟨rfl, rfl⟩ := e1
    simp only [Nat.zero_mul, Nat.add_zero, Nat.one_mul] at h0 h1
    exact ⟨z0, z1, b, off, s0, s1, rfl, rfl, hb, ⟨h0, h1⟩, rfl⟩

/-- dromondref10.Of. -/
theorem rof_any (x : It) (hs : ∀ y ∈ x.l, y.s.size ≤ 1099511627776) (hlen : (bytesOf x).length ≤ 1000000) (w : World) (B : Nat) (v : Value) (hB : B ≤ w.heap.size) (hx : Lies w B x v) :
    Calls Try.prog 9 #[v] w fun e w' => ∃ r c, e = .returned (.tuple #[eV r, .int .i64 c]) ∧ OfR x r c ∧ Below w.heap.size w w' := by
  have hx0 := hx
  obtain ⟨A, cap, rfl, hf, he⟩ := hx.out
  have hle : ∀ W, Below w.heap.size w W → B ≤ W.heap.size := fun W h => Nat.le_trans hB h.size
  have HR : Hid (∀ W, Below w.heap.size w W → Calls Try.prog 24 #[itV x (.slice A x.l.length cap)] W fun e w' => e = .returned (.bool (rightB x)) ∧ Below W.heap.size W w') :=
    Lib.hid fun W hW => refRight_any x W B _ (hle W hW) (hx0.keep (hW.mono hB))
  by_cases hr : rightB x = true
  · by_cases hl : x.l.length = 2
    · obtain ⟨k0, n0, st, ll, o⟩ := x
      match ll, hl with
      | [y0, y1], _ =>
      obtain ⟨b, off, s0, rfl, hb, h0, l0⟩ := he 0 y0 rfl
      obtain ⟨b', off', s1, e1, hb', h1, l1⟩ := he 1 y1 rfl
      simp only [Option.some.injEq, Addr.mk.injEq, and_true] at e1
      obtain ⟨rfl, rfl⟩ := e1
      simp only [Nat.zero_mul, Nat.add_zero, Nat.one_mul] at h0 h1
      obtain ⟨A1, cp1, rfl⟩ := l1.slice
      have hsz : y1.s.size ≤ 1099511627776 := hs y1 (by simp [It.l])
      obtain ⟨k1, n1, t, l, q⟩ := y1
      have hfit := hx0.allFit
      refine rof_two ⟨(bytesOf (.mk k0 n0 st [y0, .mk k1 n1 t l q] o)).toArray⟩ (fun e => ⟨(bytesOf (itE e)).toArray⟩) y0 k1 n1 t l q b off cap s0 A1 cp1 k0 n0 o st w B hB hb ⟨h0, h1⟩
        (Lib.hid fun W hW => by have := HR.out W hW.below; rwa [hr] at this)
        (Lib.hid fun W hW => bytesR_any _ W B _ (hle W hW) (hx0.keep (hW.mono hB)) (by rw [rightB, Bool.and_eq_true] at hr; exact hr.2) hlen)
        (Lib.hid fun e he W v hv => bytesR_any _ W W.heap.size v (Nat.le_refl _) hv (plain_item e) (len_item he))
        (Lib.hid fun e he => bytes_iff he hfit hr) (Lib.hid hsz) (zOf l) (Lib.hid fun h2 => ?_) _ _ rfl rfl
        (Lib.hid fun h2 hno => ?_) (Lib.hid fun h2 hno => ?_)
      · exact two_of l1 h2
      · rintro ⟨e, he, hi⟩
        rcases e_tries he hi with rfl | rfl | ⟨h3, -⟩
        · exact hno 0 _ rfl ⟨he, hi⟩
        · exact hno 1 _ rfl ⟨he, hi⟩
        · exact h2 h3
      · rintro ⟨e, he, hi⟩
        rcases e_tries he hi with rfl | rfl | ⟨h3, rfl⟩
        · exact hno 0 _ rfl ⟨he, hi⟩
        · exact hno 1 _ rfl ⟨he, hi⟩
        · exact hno 2 _ rfl ⟨he, hi⟩
    · refine (rof_not x _ (.inr hl) A cap w HR).mono ?_
      rintro e w' ⟨rfl, hb⟩
      refine ⟨_, _, rfl, .inr ⟨?_, rfl, rfl⟩, hb⟩
      rintro ⟨e, he, rfl⟩
      exact hl rfl
  · refine (rof_not x _ (.inl (by simpa using hr)) A cap w HR).mono ?_
    rintro e w' ⟨rfl, hb⟩
    refine ⟨_, _, rfl, .inr ⟨?_, rfl, rfl⟩, hb⟩
    rintro ⟨e, he, rfl⟩
    exact hr ((right_valid _).trans (valid_item e))
end Eid
end Go.Proofs.Ytmbmhblogjkflaa
