/-
  Contract of dromondref10.Of. Conditions: the item lies in memory, it and its bytes are few.
-/
import Derived.Test.YtmbmhblogjkflaaEiu
import Derived.Test.YtmbmhblogjkflaaEiv
import Derived.Deep.AppendLies
import Derived.Deep.RegionLaw
namespace Go.Proofs.Ytmbmhblogjkflaa
namespace Eid
open Go.ChangeShapes Go.WideShapes Go.ChangeAt Go.RowKit
set_option linter.unusedVariables false
set_option linter.unusedSimpArgs false
set_option maxRecDepth 100000

/-- An item's block. -/
def iCells (k : Int) (n : Nat) (s : ByteArray) (v : Value) (o : Bool) : Array Value := #[.int .i64 k, .int .u64 (n : Nat), .string s, v, .bool o]
def IB (X : World) (b : Nat) (k : Int) (n : Nat) (s : ByteArray) (v : Value) (o : Bool) : Prop := X.heap[b]? = some (.cells (iCells k n s v o) 25 (0, 0))
section
variable {X Y : World} {b B : Nat} {k : Int} {n : Nat} {s : ByteArray} {v : Value} {o : Bool}
theorem IB.cells (h : IB X b k n s v o) : X.cell? ⟨b, 0, none⟩ = some (.int .i64 k) ∧ X.cell? ⟨b, 1, none⟩ = some (.int .u64 (n : Nat)) ∧ X.cell? ⟨b, 2, none⟩ = some (.string s) ∧ X.cell? ⟨b, 3, none⟩ = some v ∧ X.cell? ⟨b, 4, none⟩ = some (.bool o) :=
  ⟨cell_of_row X _ 0 _ _ _ h, cell_of_row X _ 1 _ _ _ h, cell_of_row X _ 2 _ _ _ h, cell_of_row X _ 3 _ _ _ h, cell_of_row X _ 4 _ _ _ h⟩
theorem IB.lt (h : IB X b k n s v o) : b < X.heap.size := by
  rcases Nat.lt_or_ge b X.heap.size with h1 | h1
  · exact h1
  · unfold IB at h; rw [Array.getElem?_eq_none h1] at h; cases h
theorem IB.below (h : IB X b k n s v o) (hb : Below B X Y) (hB : b < B) : IB Y b k n s v o := (hb.block b hB).trans h
theorem IB.new (w : World) (k : Int) (n : Nat) (s : ByteArray) (v : Value) (o : Bool) : IB (w.alloc (.cells (iCells k n s v o) 25 (0, 0))) w.heap.size k n s v o := heap_alloc_new w _
end

/-- The cells of names, one behind another. -/
def eFlat : List Nm → List Value
  | [] => []
  | e :: l => .int .i64 e.scheme :: .string e.name :: .int .u64 (e.node : Nat) :: .int .u64 (e.service : Nat) :: eFlat l
theorem eFlat_append (a b : List Nm) : eFlat (a ++ b) = eFlat a ++ eFlat b := by
  induction a with
  | nil => rfl
  | cons e l ih => simp [eFlat, ih]
theorem eFlat_length (l : List Nm) : (eFlat l).length = l.length * 4 := by
  induction l with
  | nil => rfl
  | cons e l ih => simp [eFlat, ih]; omega
theorem eFlat_at : ∀ (l : List Nm) (i : Nat) (e : Nm), l[i]? = some e → (eFlat l)[i * 4]? = some (.int .i64 e.scheme) ∧ (eFlat l)[i * 4 + 1]? = some (.string e.name) ∧ (eFlat l)[i * 4 + 2]? = some (.int .u64 (e.node : Nat)) ∧ (eFlat l)[i * 4 + 3]? = some (.int .u64 (e.service : Nat))
  | [], i, e, h => by simp at h
  | a :: l, 0, e, h => by
    obtain rfl : a = e := by simpa using h
    exact ⟨rfl, rfl, rfl, rfl⟩
  | a :: l, i + 1, e, h => by
    have ih := eFlat_at l i e (by simpa using h)
    have e1 : (i + 1) * 4 = i * 4 + 1 + 1 + 1 + 1 := by omega
    rw [e1]
    simp only [eFlat]
    exact ih
theorem eFlat_one (l : List Nm) : ∀ u ∈ eFlat l, u.oneCell' = true := by
  induction l with
  | nil => intro u h; cases h
  | cons e l ih =>
    intro u h
    simp only [eFlat, List.mem_cons] at h
    rcases h with rfl | rfl | rfl | rfl | h
    · rfl
    · rfl
    · rfl
    · rfl
    · exact ih u h

theorem infoEid : (Try.prog.info? 29).map (fun i => (i.zero, i.size, i.bytes)) = some (some (.agg #[.int .i64 0, .string ⟨#[]⟩, .int .u64 0, .int .u64 0]), 4, 40) := by kernel_rfl

/-- The tries lie in a row. -/
structure TBox (w : World) (x : It) (sl : Value) (T : List Nm) (g : Nat) (cap : Nat) (X : World) : Prop where
  i : IBox w x sl zeroE X
  row : X.ownsRow 0 29 4 (.slice (some ⟨g, 0, none⟩) T.length cap) T.length (eFlat T)
  hg : w.heap.size + 1 < g
  hl : g < X.heap.size

theorem below_of_grown {w w' : World} (h : w.grownBy w' none) : Below w.heap.size w w' := ⟨h.os, h.tape, h.output, h.size, fun k hk => h.block k hk (by simp)⟩
theorem below_of_grown' {w w' : World} {g B : Nat} (h : w.grownBy w' (some g)) (hB : B ≤ g) (hw : B ≤ w.heap.size) : Below B w w' := ⟨h.os, h.tape, h.output, h.size, fun k hk => h.block k (by omega) (by simp; omega)⟩
theorem TBox.next {w : World} {x : It} {sl : Value} {T : List Nm} {g cap : Nat} {X Y : World} (h : TBox w x sl T g cap X) (hb : Below X.heap.size X Y) : TBox w x sl T g cap Y :=
  ⟨h.i.next hb, by
    refine ⟨h.row.1, ?_⟩
    rcases h.row.2 with ⟨h0, -⟩ | ⟨g', cp, cur, hv, hbs, hg, r⟩
    · cases h0
    · exact .inr ⟨g', cp, cur, hv, hbs, (hb.block _ (by
        rcases Nat.lt_or_ge g' X.heap.size with h1 | h1
        · exact h1
        · rw [Array.getElem?_eq_none h1] at hg; cases hg)).trans hg, r⟩, h.hg, Nat.lt_of_lt_of_le h.hl hb.size⟩
theorem TBox.at {w : World} {x : It} {sl : Value} {T : List Nm} {g cap : Nat} {X : World} (h : TBox w x sl T g cap X) {k : Nat} {e : Nm} (he : T[k]? = some e) :
    X.cell? ⟨g, k * 4, none⟩ = some (.int .i64 e.scheme) ∧ X.cell? ⟨g, k * 4 + 1, none⟩ = some (.string e.name) ∧ X.cell? ⟨g, k * 4 + 2, none⟩ = some (.int .u64 (e.node : Nat)) ∧ X.cell? ⟨g, k * 4 + 3, none⟩ = some (.int .u64 (e.service : Nat)) := by
  have hk := (List.getElem?_eq_some_iff.1 he).1
  obtain ⟨h0, h1, h2, h3⟩ := eFlat_at T k e he
  exact ⟨(h.row.cellAt _ (by omega)).trans h0, (h.row.cellAt _ (by omega)).trans h1, (h.row.cellAt _ (by omega)).trans h2, (h.row.cellAt _ (by omega)).trans h3⟩

set_option maxHeartbeats 64000000 in
theorem rof_two (bx : ByteArray) (bE : Nm → ByteArray) (y0 : It) (k1 : Int) (n1 : Nat) (t : ByteArray) (l : List It) (q : Bool) (b off cap : Nat) (s0 : Value) (A1 : Option Addr) (cp1 : Nat) (k0 : Int) (n0 : Nat) (o : Bool) (st : ByteArray) (w : World) (B : Nat) (hB : B ≤ w.heap.size) (hb : b < B) (h5 : Two w b off y0 (.mk k1 n1 t l q) s0 (.slice A1 l.length cp1))
    (HR : Hid (∀ W, IBox w (.mk k0 n0 st [y0, .mk k1 n1 t l q] o) (.slice (some ⟨b, off, none⟩) 2 cap) zeroE W → Calls Try.prog 24 #[itV (.mk k0 n0 st [y0, .mk k1 n1 t l q] o) (.slice (some ⟨b, off, none⟩) 2 cap)] W fun e w' => e = .returned (.bool true) ∧ Below W.heap.size W w'))
    (HBX : Hid (∀ W, Below w.heap.size w W → Calls Try.prog 25 #[itV (.mk k0 n0 st [y0, .mk k1 n1 t l q] o) (.slice (some ⟨b, off, none⟩) 2 cap)] W fun e w' => e = .returned (.string bx) ∧ Below W.heap.size W w'))
    (HBY : Hid (∀ e, Right e → ∀ W v, Lies W W.heap.size (itE e) v → Calls Try.prog 25 #[v] W fun r w' => r = .returned (.string (bE e)) ∧ Below W.heap.size W w'))
    (HBE : Hid (∀ e, Right e → (bE e = bx ↔ itE e = (.mk k0 n0 st [y0, .mk k1 n1 t l q] o))))
    (HSZ : Hid (t.size ≤ 1099511627776)) (z : Nat × Nat)
    (HZ : Hid (l.length = 2 → ∃ z0 z1 b' off' zs0 zs1, l = [z0, z1] ∧ A1 = some ⟨b', off', none⟩ ∧ b' < B ∧ Two w b' off' z0 z1 zs0 zs1 ∧ z = (z0.n, z1.n)))
    (T2 T3 : List Nm) (hT2 : T2 = [noneE, ⟨1, t, 0, 0⟩]) (hT3 : T3 = [noneE, ⟨1, t, 0, 0⟩, ⟨2, ⟨#[]⟩, z.1, z.2⟩])
    (HA2 : Hid (l.length ≠ 2 → (∀ (i : Nat) e, T2[i]? = some e → ¬ (Right e ∧ itE e = (.mk k0 n0 st [y0, .mk k1 n1 t l q] o))) → ¬ ∃ e, Right e ∧ itE e = (.mk k0 n0 st [y0, .mk k1 n1 t l q] o)))
    (HA3 : Hid (l.length = 2 → (∀ (i : Nat) e, T3[i]? = some e → ¬ (Right e ∧ itE e = (.mk k0 n0 st [y0, .mk k1 n1 t l q] o))) → ¬ ∃ e, Right e ∧ itE e = (.mk k0 n0 st [y0, .mk k1 n1 t l q] o))) :
    Calls Try.prog 9 #[itV (.mk k0 n0 st [y0, .mk k1 n1 t l q] o) (.slice (some ⟨b, off, none⟩) 2 cap)] w fun e w' => ∃ r c, e = .returned (.tuple #[eV r, .int .i64 c]) ∧ OfR (.mk k0 n0 st [y0, .mk k1 n1 t l q] o) r c ∧ Below w.heap.size w w' := by
  obtain ⟨i0, hi0, hz0, hz1, hz2⟩ := info_parts infoEid
  have h0 := IBox.new w (.mk k0 n0 st [y0, .mk k1 n1 t l q] o) (.slice (some ⟨b, off, none⟩) 2 cap) zeroE
  generalize hW : (w.alloc (boxOf (.mk k0 n0 st [y0, .mk k1 n1 t l q] o) (.slice (some ⟨b, off, none⟩) 2 cap))).alloc (.cells (eCells zeroE) 29 (0, 0)) = w1 at h0
  have hkeep : ∀ W, Below w.heap.size w W → Two W b off y0 (.mk k1 n1 t l q) s0 (.slice A1 l.length cp1) := fun W h => h5.below h (by omega)
  have HK := Lib.hid hkeep; clear hkeep h5
  have HBB := Lib.hid (And.intro hB hb); clear hB hb
  have HT := Lib.hid (And.intro hT2 hT3); clear hT2 hT3
  simp only [boxOf, eCells, zeroE, Int.cast_ofNat_Int, It.kind, It.n, It.s, It.l, It.opn, itV, List.length_cons, List.length_nil] at hW HR ⊢
  obtain ⟨c0, c1, c2, c3, c4⟩ := h0.cells
  have HX := Lib.hid h0; clear h0
  simp only [zeroE, It.kind, It.n, It.s, It.l, It.opn, Int.cast_ofNat_Int] at c0 c1 c2 c3 c4
  obtain ⟨len, hlen⟩ : ∃ len, len = l.length := ⟨_, rfl⟩
  rw [← hlen] at HK
  have HL := Lib.hid hlen; clear hlen
  go_enter Try.func9, Try.ntmps9
  go_upto_region 1 with fail
  clear hW
  go_wp2_with fail
  refine (HR.out _ HX.out).mono ?_
  rintro _ X ⟨rfl, hb⟩
  have h3 := HX.out.next hb
  clear hb c0 c1 c2 c3 c4 HX
  obtain ⟨c0, c1, c2, c3, c4⟩ := h3.cells
  have h5 := HK.out _ h3.below
  have b0 := h5.b.c0
  have b1 := h5.b.c1
  have b2 := h5.b.c2
  have b3 := h5.b.c3
  have b4 := h5.b.c4
  have HX := Lib.hid h3; clear h3 h5
  simp only [It.kind, It.n, It.s, It.l, It.opn] at c0 c1 c2 c3 c4 b0 b1 b2 b3 b4
  go_upto_region 5 with fail
  have hY := IB.new X k1 n1 t (.slice A1 len cp1) q
  have hlY := hY.lt
  have hXY := (HX.out.next ((Below.refl _ _).alloc (Nat.le_refl _) (.cells (iCells k1 n1 t (.slice A1 len cp1) q) 25 (0, 0))))
  have hq4 : w.heap.size + 1 < X.heap.size := HX.out.res.lt
  generalize X.heap.size = q4 at *
  clear c0 c1 c2 c3 c4 b0 b1 b2 b3 b4 HX
  simp only [iCells] at hXY hY hlY
  generalize X.alloc (.cells #[.int .i64 k1, .int .u64 (n1 : Nat), .string t, .slice A1 len cp1, .bool q] 25) = Y at *
  obtain ⟨d0, d1, d2, d3, d4⟩ := hY.cells
  have hnews := World.news_of_block (heap_alloc_new Y (.cells (eFlat [noneE, ⟨1, t, 0, 0⟩]).toArray 29 (0, 0)))
  simp only [eFlat, noneE, noneB, Int.cast_ofNat_Int] at hnews
  have hone := eFlat_one [noneE, ⟨1, t, 0, 0⟩]
  simp only [eFlat, noneE, noneB, Int.cast_ofNat_Int] at hone
  have HQ := Lib.hid (And.intro hnews hone)
  have HXY := Lib.hid (And.intro hXY hY); clear hnews hone hXY hY
  go_upto_region 6 with (at_builtin; refine wpList_append_lies _ rfl _ _ 45 rfl 0 29 i0 _ 4 40 Try.underlying45 hi0 hz0 hz1 hz2 rfl (by decide) (.slice none 0 0) 0 [] rfl (World.ownsRow_nil _ 0 _ 4) ⟨Y.heap.size, 0, none⟩ 2 2 (eFlat [noneE, ⟨1, t, 0, 0⟩]) rfl rfl HQ.out.1 HQ.out.2 (by decide) (by decide) (by decide) (Nat.zero_le _) (Y.heap.size + 1) (by simp) ?_; intro g cp Y2 hown hgrow hat hgl; have HG := Lib.hid (And.intro hown (And.intro hgrow (And.intro hat hgl))); clear hown hgrow hat hgl; simp only [Nat.zero_add])
  have hbY : Below Y.heap.size Y Y2 := ((Below.refl _ _).alloc (Nat.le_refl _) _).trans ((below_of_grown HG.out.2.1).mono (by simp))
  have hiY := HXY.out.1.next hbY
  have hYY := HXY.out.2.below hbY hlY
  have hgv : g = Y.heap.size + 1 := by
    rcases HG.out.2.2.1 with h | h
    · cases h
    · exact h
  have htb : TBox w (.mk k0 n0 st [y0, .mk k1 n1 t l q] o) (.slice (some ⟨b, off, none⟩) 2 cap) T2 g cp Y2 := by
    refine ⟨hiY, ?_, by omega, HG.out.2.2.2⟩
    rw [HT.out.1]
    exact HG.out.1
  clear d0 d1 d2 d3 d4
  obtain ⟨d0, d1, d2, d3, d4⟩ := hYY.cells
  have HTB := Lib.hid htb; clear htb hiY
  have HYY := Lib.hid (And.intro hYY (And.intro hbY hgv)); clear hYY hbY hgv
  go_upto_if 31 with fail
  go_cut [5] (fun s5 wc => ∃ (T : List Nm) (g cp : Nat), s5 = .slice (some ⟨g, 0, none⟩) T.length cp ∧ TBox w (.mk k0 n0 st [y0, .mk k1 n1 t l q] o) (.slice (some ⟨b, off, none⟩) 2 cap) T g cp wc ∧ T.length ≤ 3 ∧ (∀ e ∈ T, e.name.size ≤ 1099511627776) ∧ ((∀ (i : Nat) e, T[i]? = some e → ¬ (Right e ∧ itE e = (.mk k0 n0 st [y0, .mk k1 n1 t l q] o))) → ¬ ∃ e, Right e ∧ itE e = (.mk k0 n0 st [y0, .mk k1 n1 t l q] o)))
  case first =>
    by_cases hl2 : len = 2
    · subst hl2
      obtain ⟨z0, z1, b', off', zs0, zs1, hz, rfl, hb', h2z, rfl⟩ := HZ.out HL.out.symm
      have hwY : Below w.heap.size w Y2 := HTB.out.i.below
      have h2y := h2z.below hwY (by have := HBB.out.1; omega)
      have x1 := h2y.a.c1
      have x2 := h2y.b.c1
      have HZZ := Lib.hid (And.intro hz (And.intro hb' h2y)); clear hz hb' h2z h2y hwY
      obtain ⟨p0, hp0⟩ : ∃ p, p = z0.n := ⟨_, rfl⟩
      obtain ⟨p1, hp1⟩ : ∃ p, p = z1.n := ⟨_, rfl⟩
      rw [← hp0] at x1
      rw [← hp1] at x2
      dsimp only at HT
      rw [← hp0, ← hp1] at HT
      clear hp0 hp1
      obtain ⟨RB, hRB⟩ : ∃ B, B = Obj.cells #[.int .i64 2, .string ⟨#[]⟩, .int .u64 (p0 : Nat), .int .u64 (p1 : Nat)] 29 := ⟨_, rfl⟩
      have hrow : ∀ X' : World, X'.heap = (Y2.alloc RB).heap → X'.ownsRow 0 29 4 (.slice (some ⟨g, 0, none⟩) 2 cp) 2 (eFlat T2) := by
        intro X' hX'
        have h : (Y2.alloc RB).ownsRow 0 29 4 (.slice (some ⟨g, 0, none⟩) 2 cp) 2 (eFlat T2) := by
          have := HTB.out.row
          rw [HT.out.1] at this ⊢
          exact this.alloc RB
        refine ⟨h.1, ?_⟩
        rcases h.2 with h0 | ⟨g', c', cur, hv, hb, hg, r⟩
        · exact .inl h0
        · exact .inr ⟨g', c', cur, hv, hb, by rw [hX']; exact hg, r⟩
      have hnews : ∀ X' : World, X'.heap = (Y2.alloc RB).heap → ∀ j u, (eFlat [⟨2, ⟨#[]⟩, p0, p1⟩])[j]? = some u → X'.cell? ((⟨Y2.heap.size, 0, none⟩ : Addr).add j) = some u := by
        intro X' hX'
        refine World.news_of_block (B := Y2.heap.size) (cs := #[.int .i64 2, .string ⟨#[]⟩, .int .u64 (p0 : Nat), .int .u64 (p1 : Nat)]) (t := 29) (fr := (0, 0)) ?_
        rw [hX', heap_alloc_new Y2 RB, hRB]
      have hsz : ∀ X' : World, X'.heap = (Y2.alloc RB).heap → X'.heap.size = Y2.heap.size + 1 := by
        intro X' hX'
        rw [hX']; simp
      have HROW := Lib.hid hrow
      have HNEWS := Lib.hid hnews
      have HSS := Lib.hid hsz
      have hfin : ∀ (X' : World) (g2 cp2 : Nat) (Y3 : World), X'.heap = (Y2.alloc RB).heap → X'.os = Y2.os → X'.tape = Y2.tape → X'.output = Y2.output → Y3.ownsRow 0 29 4 (.slice (some ⟨g2, 0, none⟩) (2 + 1) cp2) (2 + 1) (eFlat T2 ++ eFlat [⟨2, ⟨#[]⟩, p0, p1⟩]) → X'.grownBy Y3 (Value.ownBlock (.slice (some ⟨g, 0, none⟩) 2 cp)) → (Value.ownBlock (.slice (some ⟨g, 0, none⟩) 2 cp) = some g2 ∨ g2 = Y2.heap.size + 1) → g2 < Y3.heap.size → TBox w (.mk k0 n0 st [y0, .mk k1 n1 t l q] o) (.slice (some ⟨b, off, none⟩) 2 cap) T3 g2 cp2 Y3 := by
        intro X' g2 cp2 Y3 hX' ho ht hu hown hgrow hat hgl
        have hg2 : w.heap.size + 1 < g2 := by
          have h1 := HTB.out.hg
          have h2 := HTB.out.i.res.lt
          rcases hat with h | h
          · have : g = g2 := by simpa [Value.ownBlock] using h
            omega
          · omega
        have hg1 := HTB.out.hg
        have hs2 := HTB.out.i.res.lt
        have hlt2 := HTB.out.hl
        have hbl : Below (w.heap.size + 2) Y2 Y3 := by
          refine ⟨hgrow.os.trans ho, hgrow.tape.trans ht, hgrow.output.trans hu, ?_, fun k hk => ?_⟩
          · have := hgrow.size
            have h3 := HSS.out X' hX'
            omega
          · rw [hgrow.block k (by rw [HSS.out X' hX']; omega) (by simp [Value.ownBlock]; omega), hX']
            exact ((Below.refl Y2.heap.size Y2).alloc (Nat.le_refl _) RB).block k (by omega)
        refine ⟨⟨(hbl.block _ (by omega)).trans HTB.out.i.box, (hbl.block _ (by omega)).trans HTB.out.i.res, HTB.out.i.below.trans (hbl.mono (by omega))⟩, ?_, hg2, hgl⟩
        rw [HT.out.2, show eFlat [noneE, ⟨1, t, 0, 0⟩, ⟨2, ⟨#[]⟩, p0, p1⟩] = eFlat T2 ++ eFlat [⟨2, ⟨#[]⟩, p0, p1⟩] by rw [HT.out.1, ← eFlat_append]; rfl]
        exact hown
      have HFN := Lib.hid hfin
      have HTS3 := Lib.hid (show ∀ e ∈ T3, e.name.size ≤ 1099511627776 by
        intro e he
        rw [HT.out.2] at he
        simp only [List.mem_cons, List.not_mem_nil, or_false] at he
        rcases he with rfl | rfl | rfl
        · decide
        · exact HSZ.out
        · show (⟨#[]⟩ : ByteArray).size ≤ _; decide)
      have HT3L := Lib.hid (show T3.length = 3 by rw [HT.out.2]; rfl)
      have HA := Lib.hid (HA3.out HL.out.symm)
      clear hrow hnews hsz hfin
      subst hRB
      go_upto_region 7 with fail
      go_region_law ((refine step_append_lies _ (by rfl) _ _ 45 (by rfl) 0 29 i0 _ 4 40 Try.underlying45 hi0 hz0 hz1 hz2 rfl (by decide) _ _ (eFlat T2) (by rfl) (HROW.out _ (by rfl)) ⟨Y2.heap.size, 0, none⟩ 1 1 (eFlat [⟨2, ⟨#[]⟩, p0, p1⟩]) (by rfl) (by rfl) (HNEWS.out _ (by rfl)) (eFlat_one _) (by decide) (by decide) (by decide) (Nat.zero_le _) (Y2.heap.size + 1) (HSS.out _ (by rfl)) ?_; intro g2 cp2 Y3 hown hgrow hat hgl; have HG3 := Lib.hid (HFN.out _ g2 cp2 Y3 (by rfl) (by rfl) (by rfl) (by rfl) hown hgrow hat hgl); clear hown hgrow hat hgl))
      all_goals (go_wp2_with fail; go_meet)
      all_goals exact ⟨T3, g2, cp2, by rw [HT3L.out], HG3.out, by rw [HT3L.out]; exact Nat.le_refl _, HTS3.out, HA.out⟩
    · have g2 : ((len : Int) == 2) = false := by simp; omega
      have g3 : decide ((len : Int) = 2) = false := by simp; omega
      have HTS := Lib.hid (show ∀ e ∈ T2, e.name.size ≤ 1099511627776 by
        intro e he
        rw [HT.out.1] at he
        simp only [List.mem_cons, List.not_mem_nil, or_false] at he
        rcases he with rfl | rfl
        · decide
        · exact HSZ.out)
      have HT2L := Lib.hid (show T2.length = 2 by rw [HT.out.1]; rfl)
      have HA := Lib.hid (HA2.out (by rw [← HL.out]; exact hl2))
      go_wp2_with fail
      go_meet
      exact ⟨T2, g, cp, by rw [HT2L.out], HTB.out, by rw [HT2L.out]; decide, HTS.out, HA.out⟩
  case rest =>
    obtain ⟨T, g, cp, rfl, htb, hn3, hts, hta⟩ := hcut
    have HTB := Lib.hid htb
    have HTS := Lib.hid hts
    have HTA := Lib.hid hta
    obtain ⟨m, hm⟩ : ∃ m, m = T.length := ⟨_, rfl⟩
    have HTL := Lib.hid hm.symm
    rw [← hm] at hn3 ⊢
    have hmI : (m : Int) ≤ 3 := by omega
    clear hm htb hts hta
    go_wp2_with fail
    go_loopw [6] (fun i wr => ∃ k : Nat, k ≤ m ∧ i = .int .i64 (k : Nat) ∧ TBox w (.mk k0 n0 st [y0, .mk k1 n1 t l q] o) (.slice (some ⟨b, off, none⟩) 2 cap) T g cp wr ∧ ∀ j e, j < k → T[j]? = some e → ¬ (Right e ∧ itE e = .mk k0 n0 st [y0, .mk k1 n1 t l q] o)) (fun i _ => m - (intOf i).toNat)
    case atStart => exact ⟨0, Nat.zero_le _, rfl, HTB.out, fun j e hj => by omega⟩
    case round =>
      obtain ⟨j, hj, rfl, hTB, hno⟩ := hrel
      by_cases hlt : j < m
      · have hjI : (j : Int) < (m : Int) := by omega
        have hj1 : IntKind.i64.wrap ((j : Int) + 1) = ((j + 1 : Nat) : Int) := by rw [IntKind.wrap_i64]; omega
        obtain ⟨e, he⟩ : ∃ e, T[j]? = some e := ⟨_, List.getElem?_eq_getElem (by rw [HTL.out]; exact hlt)⟩
        have hsm := HTS.out e (List.mem_of_getElem? he)
        obtain ⟨r, hr⟩ : ∃ r, r = decide (Right e) := ⟨_, rfl⟩
        have hr' : r = true ↔ Right e := by rw [hr]; exact decide_eq_true_iff
        have HRR := Lib.hid (fun w => rright e r hr' hsm w)
        obtain ⟨u, hu⟩ : ∃ u : Bool, u = true ↔ itE e = .mk k0 n0 st [y0, .mk k1 n1 t l q] o := by
          by_cases h : itE e = .mk k0 n0 st [y0, .mk k1 n1 t l q] o
          · exact ⟨true, fun _ => h, fun _ => rfl⟩
          · exact ⟨false, fun h => (by cases h), fun k => absurd k h⟩
        have hnext : ¬ (Right e ∧ itE e = .mk k0 n0 st [y0, .mk k1 n1 t l q] o) → ∀ i f, i < j + 1 → T[i]? = some f → ¬ (Right f ∧ itE f = .mk k0 n0 st [y0, .mk k1 n1 t l q] o) := fun h i f hi hf => by
          rcases Nat.lt_or_ge i j with h1 | h1
          · exact hno i f h1 hf
          · obtain rfl : i = j := by omega
            rw [he] at hf
            obtain rfl := Option.some.inj hf
            exact h
        have hbe : r = true → ((bE e).toList == bx.toList) = u := fun h => by
          rw [text_beq, Bool.eq_iff_iff, decide_eq_true_iff, hu]
          exact HBE.out e (hr'.1 h)
        have HI := Lib.hid (fun (h : r = true) w => ritem e (hr'.1 h) w)
        have HB1 := Lib.hid (fun (h : r = true) W v (hl : Lies W W.heap.size (itE e) v) => HBY.out e (hr'.1 h) W v hl)
        have hkp : ∀ X, Below wr.heap.size wr X → (X.cell? ⟨g, j * 4, none⟩ = some (.int .i64 e.scheme) ∧ X.cell? ⟨g, j * 4 + 1, none⟩ = some (.string e.name) ∧ X.cell? ⟨g, j * 4 + 2, none⟩ = some (.int .u64 (e.node : Nat)) ∧ X.cell? ⟨g, j * 4 + 3, none⟩ = some (.int .u64 (e.service : Nat))) ∧ X.cell? ⟨w.heap.size, 0, none⟩ = some (.int .i64 k0) ∧ X.cell? ⟨w.heap.size, 1, none⟩ = some (.int .u64 (n0 : Nat)) ∧ X.cell? ⟨w.heap.size, 2, none⟩ = some (.string st) ∧ X.cell? ⟨w.heap.size, 3, none⟩ = some (.slice (some ⟨b, off, none⟩) 2 cap) ∧ X.cell? ⟨w.heap.size, 4, none⟩ = some (.bool o) := fun X hX =>
          ⟨(hTB.next hX).at he, (hTB.next hX).i.cells⟩
        have hb2 : ∀ X, Below wr.heap.size wr X → Calls Try.prog 25 #[itV (.mk k0 n0 st [y0, .mk k1 n1 t l q] o) (.slice (some ⟨b, off, none⟩) 2 cap)] X fun e w' => e = .returned (.string bx) ∧ Below X.heap.size X w' := fun X hX => HBX.out X (hTB.next hX).i.below
        have HKP := Lib.hid hkp; clear hkp
        have HB2 := Lib.hid hb2; clear hb2
        have HNX := Lib.hid hnext; clear hnext
        have HTBX := Lib.hid hTB; clear hTB
        have HU := Lib.hid hu; clear hu
        have HRE := Lib.hid hr'; clear hr hr' hno hsm
        have HEE := Lib.hid he; clear he
        have hd0 : Below wr.heap.size wr wr.drew := (Below.refl _ _).drew
        have hd1 : Below wr.heap.size wr wr := Below.refl _ _
        obtain ⟨⟨a0, a1, a2, a3⟩, c0, c1, c2, c3, c4⟩ := HKP.out _ hd1
        generalize bE e = be at *
        obtain ⟨e0, e1, e2, e3⟩ := e
        simp only [eV, itV, It.kind, It.n, It.s, It.l, It.opn] at HRR HI HB2 a0 a1 a2 a3
        cases r with
        | false =>
          have hno2 : ¬ (Right ⟨e0, e1, e2, e3⟩ ∧ itE ⟨e0, e1, e2, e3⟩ = .mk k0 n0 st [y0, .mk k1 n1 t l q] o) := fun h => by have := HRE.out.2 h.1; cases this
          have HNN := Lib.hid (HNX.out hno2); clear hno2 hbe HI HB1
          go_upto_region 11 with fail
          first | (go_region_with ((first | (go_at_call 12; with_reducible refine (HRR.out _).mono ?_; rintro e' w' ⟨rfl, hb⟩) | (go_at_call 26; refine (HI2.out _).mono ?_; intro e' w' hh; obtain ⟨v, hv, hl, hb⟩ := hh; subst hv) | (go_at_call 25; first | (with_reducible refine (HB12.out _ _ (by with_reducible assumption)).mono ?_; rintro e' w' ⟨rfl, hb⟩) | (with_reducible refine (HB2.out _ (by with_reducible assumption)).mono ?_; rintro e' w' ⟨rfl, hb⟩))); have hw := Below.trans (by with_reducible assumption) (hb.mono (Below.size (by with_reducible assumption))); obtain ⟨⟨a0, a1, a2, a3⟩, c0, c1, c2, c3, c4⟩ := HKP.out _ hw)) | fail
          all_goals
            have HTN := Lib.hid (HTBX.out.next hw)
            clear hw hb
            go_wp2
            go_roundw
            case rel => exact ⟨j + 1, hlt, rfl, HTN.out, HNN.out⟩
            case measure => simp [intOf]; omega
        | true =>
          have hbe' := hbe rfl
          have HI2 := Lib.hid (HI.out (by first | rfl | trivial))
          have HB12 := Lib.hid (HB1.out (by first | rfl | trivial))
          clear hbe HI HB1
          cases u with
          | false =>
            have hno2 : ¬ (Right ⟨e0, e1, e2, e3⟩ ∧ itE ⟨e0, e1, e2, e3⟩ = .mk k0 n0 st [y0, .mk k1 n1 t l q] o) := fun h => by have := HU.out.2 h.2; cases this
            have HNN := Lib.hid (HNX.out hno2); clear hno2
            go_upto_region 11 with fail
            go_region_with ((first | (go_at_call 12; with_reducible refine (HRR.out _).mono ?_; rintro e' w' ⟨rfl, hb⟩) | (go_at_call 26; refine (HI2.out _).mono ?_; intro e' w' hh; obtain ⟨v, hv, hl, hb⟩ := hh; subst hv) | (go_at_call 25; first | (with_reducible refine (HB12.out _ _ (by with_reducible assumption)).mono ?_; rintro e' w' ⟨rfl, hb⟩) | (with_reducible refine (HB2.out _ (by with_reducible assumption)).mono ?_; rintro e' w' ⟨rfl, hb⟩))); have hw := Below.trans (by with_reducible assumption) (hb.mono (Below.size (by with_reducible assumption))); obtain ⟨⟨a0, a1, a2, a3⟩, c0, c1, c2, c3, c4⟩ := HKP.out _ hw)
            all_goals
              have HTN := Lib.hid (HTBX.out.next hw)
              clear hw hb
              go_wp2
              go_roundw
              case rel => exact ⟨j + 1, hlt, rfl, HTN.out, HNN.out⟩
              case measure => simp [intOf]; omega
          | true =>
            have HGOOD := Lib.hid (And.intro (HRE.out.1 rfl) (HU.out.1 rfl))
            go_upto_region 11 with fail
            go_region_with ((first | (go_at_call 12; with_reducible refine (HRR.out _).mono ?_; rintro e' w' ⟨rfl, hb⟩) | (go_at_call 26; refine (HI2.out _).mono ?_; intro e' w' hh; obtain ⟨v, hv, hl, hb⟩ := hh; subst hv) | (go_at_call 25; first | (with_reducible refine (HB12.out _ _ (by with_reducible assumption)).mono ?_; rintro e' w' ⟨rfl, hb⟩) | (with_reducible refine (HB2.out _ (by with_reducible assumption)).mono ?_; rintro e' w' ⟨rfl, hb⟩))); have hw := Below.trans (by with_reducible assumption) (hb.mono (Below.size (by with_reducible assumption))); obtain ⟨⟨a0, a1, a2, a3⟩, c0, c1, c2, c3, c4⟩ := HKP.out _ hw)
            all_goals
              have htn := HTBX.out.next hw
              obtain ⟨r0, r1, r2, r3⟩ := htn.i.res.cells
              have rf := htn.i.res.free
              have HX := Lib.hid htn.i; clear htn hw hb
              simp only [zeroE, Int.cast_ofNat_Int] at r0 r1 r2 r3
              go_wp2
              generalize hF : ((((w'.setCell ⟨w.heap.size + 1, 0, none⟩ (.int .i64 e0)).setCell ⟨w.heap.size + 1, 1, none⟩ (.string e1)).setCell ⟨w.heap.size + 1, 2, none⟩ (.int .u64 (e2 : Nat))).setCell ⟨w.heap.size + 1, 3, none⟩ (.int .u64 (e3 : Nat))) = F
              have hfin := HX.out.fin (f := ⟨e0, e1, e2, e3⟩) F hF
              obtain ⟨f0, f1, f2, f3⟩ := hfin.res.cells
              clear hF
              exact bodyPost_ret (v := .tuple #[eV (⟨e0, e1, e2, e3⟩), .int .i64 0]) (by simp [results, Try.results9, go_sem, f0, f1, f2, f3, eV, zeroE]) rfl ⟨_, _, rfl, (.inl ⟨HGOOD.out.1, HGOOD.out.2, rfl⟩), hfin.below⟩
      · obtain rfl : j = m := by omega
        obtain ⟨r0, r1, r2, r3⟩ := hTB.i.res.cells
        have rf := hTB.i.res.free
        have HX := Lib.hid hTB.i; clear hTB
        simp only [zeroE, Int.cast_ofNat_Int] at r0 r1 r2 r3
        have HNO := Lib.hid (HTA.out fun i e hi => hno i e (by have := (List.getElem?_eq_some_iff.1 hi).1; rw [HTL.out] at this; exact this) hi)
        clear hno
        go_wp2
        generalize hF : ((((wr.setCell ⟨w.heap.size + 1, 0, none⟩ (.int .i64 0)).setCell ⟨w.heap.size + 1, 1, none⟩ (.string ⟨#[]⟩)).setCell ⟨w.heap.size + 1, 2, none⟩ (.int .u64 0)).setCell ⟨w.heap.size + 1, 3, none⟩ (.int .u64 0)) = F
        have hfin := HX.out.fin (f := zeroE) F hF
        obtain ⟨f0, f1, f2, f3⟩ := hfin.res.cells
        clear hF
        exact bodyPost_ret (v := .tuple #[eV (zeroE), .int .i64 2]) (by simp [results, Try.results9, go_sem, f0, f1, f2, f3, eV, zeroE]) rfl ⟨_, _, rfl, (.inr ⟨HNO.out, rfl, rfl⟩), hfin.below⟩
end Eid
end Go.Proofs.Ytmbmhblogjkflaa
