/-
  What the statements share: the calls and the names that came in, and the end of a law. Conditions: none.
-/
import Derived.Test.YtelgglnamojegaaPlay
import Derived.ChangeMaps5
import Derived.Deep.Slices
import Derived.Deep.Strs
import Derived.Carry
namespace Go.Proofs.Ytelgglnamojegaa
open Go.ChangeShapes Go.WideShapes Go.ChangeAt Go.RowKit Go.ChangeMaps
set_option linter.unusedVariables false

theorem own : ownKnob Try.checked.prog.godebug = none := by kernel_rfl

theorem post_law {H : Type} {enc : TypeId × Value → H} {P : Program} {f : Func} {s : ChangeSpec} {W W' : World} {args : Array Value} {v : Value} {ds gs : List (DataW H)} {before pa pv : List MemPlace}
    (hW : DataW.Whole enc P f.params.toList s.vars false W args.toList ds gs before) (hb : Below W.heap.size W W')
    (hr : DataW.TrodAll enc P W' W.heap.size (fun _ => false) false f.resultTypes.toList (v.resultList f.resultTypes.size) (s.fn H (ds ++ gs)).results [])
    (ha : DataW.TrodAll enc P W' 0 (fun b => decide (b < W.heap.size)) true f.params.toList args.toList (s.fn H (ds ++ gs)).args pa)
    (hv : DataW.TrodVars enc P W' (fun b => decide (b < W.heap.size)) s.vars (s.fn H (ds ++ gs)).vars pv) :
    s.post enc P f false true false false W args v W' :=
  ⟨ds, gs, before, [], pa, pv, hW, hr, ha, hv, hb.frame _, fun h => nomatch h⟩

theorem Try.laidOut : laidOutB Try.prog = true := by kernel_rfl

theorem add_none {a : Addr} (h : a.spot = none) (n : Nat) : a.add n = ⟨a.block, a.off + n, none⟩ := by
  obtain ⟨b, o, sp⟩ := a
  simp only [] at h
  subst h
  unfold Addr.add
  split
  · rename_i h0; subst h0; rfl
  · rfl

theorem Try.cells35 : Try.prog.cellsOf 35 = 3 := by kernel_rfl
theorem Try.cells5 : Try.prog.cellsOf 5 = 1 := by kernel_rfl
theorem Try.cells3 : Try.prog.cellsOf 3 = 1 := by kernel_rfl
theorem Try.cells9 : Try.prog.cellsOf 9 = 1 := by kernel_rfl

theorem spot_of {w : World} {a : Addr} {cs : List Value} (hc : w.cells? 0 (a.add (0 * 3)) 3 = some cs) : a.spot = none := by
  obtain ⟨_, hl, hat⟩ := World.cells?_some hc
  have h0 := hat 0 (by omega)
  rw [List.getElem?_eq_getElem (by omega)] at h0
  have := World.cell?_spot h0
  simpa [Addr.add] using this

/-- A call that came in. -/
theorem open_op {H : Type} {enc : TypeId × Value → H} {W : World} {spare : Nat → Bool} {fuel : Nat} {cs : List Value} {x : DataW H × List MemPlace} (h : DataW.trod enc Try.prog W 0 spare true fuel 35 cs = some x) :
    ∃ (k : Nat) (z : Int) (s : ByteArray), cs = [.int .u8 k, .int .i64 z, .string s] ∧ k < 256 ∧ -9223372036854775808 ≤ z ∧ z ≤ 9223372036854775807 := by
  obtain ⟨y0, y1, y2, n, -, hl, t0, t1, t2⟩ := Go.Deep.trod_struct3 Try.underlying35 h
  rw [Try.cells35] at hl
  match cs, hl with
  | [c0, c1, c2], _ =>
  simp [Try.cells5, Try.cells3, Try.cells9] at t0 t1 t2
  obtain ⟨k, hk, _, wk⟩ := DataW.trod_int Try.underlying5 t0
  obtain ⟨z, hz, _, wz⟩ := DataW.trod_int Try.underlying3 t1
  obtain ⟨s, hs, _, ws⟩ := DataW.trod_string Try.underlying9 t2
  have hk' : 0 ≤ k ∧ k ≤ 255 := by simpa [Lit.wf, IntKind.min, IntKind.max, IntKind.signed, IntKind.bits] using wk
  have hz' : -9223372036854775808 ≤ z ∧ z ≤ 9223372036854775807 := by simpa [Lit.wf, IntKind.min, IntKind.max, IntKind.signed, IntKind.bits] using wz
  refine ⟨k.toNat, z, s, ?_, by omega, hz'.1, hz'.2⟩
  have h0 : c0 = .int .u8 k := by simpa using hk
  have h1 : c1 = .int .i64 z := by simpa using hz
  have h2 : c2 = .string s := by simpa using hs
  rw [h0, h1, h2, Int.toNat_of_nonneg hk'.1]

/-- The calls that came in. -/
theorem open_ops {H : Type} {enc : TypeId × Value → H} {W : World} {base : Nat} {v : Value} {d : DataW H} {p : List MemPlace} (hv : Value.okWide Try.prog W .any base 22 v)
    (h : DataW.Trod enc Try.prog W 0 (fun _ => true) true 22 v d p) : ∃ A len cap K N S, v = .slice A len cap ∧ len ≤ maxLen ∧ Calls3 W A len K N S ∧ ∀ i, i < len → -9223372036854775808 ≤ N i ∧ N i ≤ 9223372036854775807 := by
  obtain ⟨A, len, cap, rfl⟩ := okWide_slice Try.underlying22 hv
  obtain ⟨fuel, hf⟩ := h
  rcases Go.Deep.open_slice Try.underlying22 hf with ⟨hc, _⟩ | ⟨a, len', cap', m, n, D, Pl, hc, _, hlc, hcap, hm, _, hx⟩
  · obtain ⟨rfl, rfl, rfl⟩ : A = none ∧ len = 0 ∧ cap = 0 := by simpa [Value.cells] using hc
    exact ⟨none, 0, 0, fun _ => 0, fun _ => 0, fun _ => ⟨#[]⟩, rfl, Nat.zero_le _, ⟨fun i hi => absurd hi (by omega)⟩, fun i hi => absurd hi (by omega)⟩
  · obtain ⟨rfl, rfl, rfl⟩ : A = some a ∧ len = len' ∧ cap = cap' := by simpa [Value.cells] using hc
    have hml : len ≤ m := by rw [hm]; split <;> omega
    rw [Try.cells35] at hx
    have hval : ∀ i, i < len → ∃ (k : Nat) (z : Int) (s : ByteArray), W.cells? 0 (a.add (i * 3)) 3 = some [.int .u8 k, .int .i64 z, .string s] ∧ k < 256 ∧ -9223372036854775808 ≤ z ∧ z ≤ 9223372036854775807 := by
      intro i hi
      obtain ⟨cs, hcs, htr⟩ := hx i (by omega)
      obtain ⟨k, z, s, rfl, hk, hz1, hz2⟩ := open_op htr
      exact ⟨k, z, s, hcs, hk, hz1, hz2⟩
    have hall : ∀ i, ∃ q : Nat × Int × ByteArray, i < len → W.cells? 0 (a.add (i * 3)) 3 = some [.int .u8 q.1, .int .i64 q.2.1, .string q.2.2] ∧ q.1 < 256 ∧ -9223372036854775808 ≤ q.2.1 ∧ q.2.1 ≤ 9223372036854775807 := by
      intro i
      by_cases hi : i < len
      · obtain ⟨k, z, s, h⟩ := hval i hi
        exact ⟨(k, z, s), fun _ => h⟩
      · exact ⟨(0, 0, ⟨#[]⟩), fun h => absurd h hi⟩
    obtain ⟨f, hf'⟩ := Classical.axiomOfChoice hall
    refine ⟨some a, len, cap, fun i => (f i).1, fun i => (f i).2.1, fun i => (f i).2.2, rfl, Nat.le_trans hlc hcap, ⟨fun i hi => ?_⟩, fun i hi => ⟨(hf' i hi).2.2.1, (hf' i hi).2.2.2⟩⟩
    obtain ⟨hcs, hk, _, _⟩ := hf' i hi
    have hsp : a.spot = none := by
      obtain ⟨cs, hcs0, _⟩ := hx 0 (by omega)
      exact spot_of hcs0
    obtain ⟨_, _, hat⟩ := World.cells?_some hcs
    have hat' : ∀ j, j < 3 → W.cell? ⟨a.block, a.off + i * 3 + j, none⟩ = [Value.int .u8 (f i).1, .int .i64 (f i).2.1, .string (f i).2.2][j]? := by
      intro j hj
      have := hat j hj
      rw [add_none hsp, add_none rfl] at this
      exact this
    refine ⟨a.block, a.off, ?_, lt_of_cell (a := ⟨a.block, a.off + i * 3 + 0, none⟩) (hat' 0 (by omega)), hat' 0 (by omega), hat' 1 (by omega), hat' 2 (by omega), hk⟩
    obtain ⟨b, o, sp⟩ := a
    simp only [] at hsp
    subst hsp
    rfl

/-- The names, as they lie in memory. -/
structure Names (w : World) (A : Option Addr) (len : Nat) (S : Nat → ByteArray) : Prop where
  at_ : ∀ i, i < len → ∃ b off, A = some ⟨b, off, none⟩ ∧ b < w.heap.size ∧ w.cell? ⟨b, off + i, none⟩ = some (.string (S i))

/-- The names that came in. -/
theorem open_names {H : Type} {enc : TypeId × Value → H} {W : World} {base : Nat} {v : Value} {d : DataW H} {p : List MemPlace} (hv : Value.okWide Try.prog W .any base 28 v)
    (h : DataW.Trod enc Try.prog W 0 (fun _ => true) true 28 v d p) : ∃ A len cap S, v = .slice A len cap ∧ len ≤ maxLen ∧ Names W A len S := by
  obtain ⟨A, len, cap, rfl⟩ := okWide_slice Try.underlying28 hv
  obtain ⟨fuel, hf⟩ := h
  rcases Go.Deep.open_strs Try.underlying28 Try.underlying9 Try.cells9 hf with ⟨hc, _⟩ | ⟨a, len', cap', m, Sx, hc, _, hlc, hcap, hm, _, hx⟩
  · obtain ⟨rfl, rfl, rfl⟩ : A = none ∧ len = 0 ∧ cap = 0 := by simpa [Value.cells] using hc
    exact ⟨none, 0, 0, fun _ => ⟨#[]⟩, rfl, Nat.zero_le _, ⟨fun i hi => absurd hi (by omega)⟩⟩
  · obtain ⟨rfl, rfl, rfl⟩ : A = some a ∧ len = len' ∧ cap = cap' := by simpa [Value.cells] using hc
    have hml : len ≤ m := by rw [hm]; split <;> omega
    refine ⟨some a, len, cap, Sx, rfl, Nat.le_trans hlc hcap, ⟨fun i hi => ?_⟩⟩
    have hsp : a.spot = none := by
      have := World.cell?_spot (hx 0 (by omega)).1
      simpa [Addr.add] using this
    have hci := (hx i (by omega)).1
    rw [add_none hsp] at hci
    refine ⟨a.block, a.off, ?_, lt_of_cell (a := ⟨a.block, a.off + i, none⟩) hci, hci⟩
    obtain ⟨b, o, sp⟩ := a
    simp only [] at hsp
    subst hsp
    rfl

theorem below_chain {w w1 w2 : World} (h1 : Below w.heap.size w w1) (h2 : Below w1.heap.size w1 w2) : Below w.heap.size w w2 := h1.trans (h2.mono h1.size)

end Go.Proofs.Ytelgglnamojegaa
