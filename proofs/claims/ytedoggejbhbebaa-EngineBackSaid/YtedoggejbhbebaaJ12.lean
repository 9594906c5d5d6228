/-
  Joined: Eo, Ef. Conditions: as each part says.
-/
import Derived.Test.YtedoggejbhbebaaJ11
import Derived.Lib.SmallJoins
import Derived.Test.YtedoggejbhbebaaJ1
import Derived.Deep.DeepCutAuto

/-
  Arguments that are calls on an engine: a struct of eight fields (kind, variant, five texts, back), alone or in a slice: opened and shut. Conditions: none.
-/
namespace Go.Proofs.Ytedoggejbhbebaa
namespace Eng
open Go.ChangeShapes Go.WideShapes Go.ChangeAt Go.RowKit Go.ChangeMaps Go.Joins Go.Deep
set_option linter.unusedVariables false

/-- A call, as plain data. -/
structure Call where
  kind : Int
  variant : Int
  key : ByteArray
  nonce : ByteArray
  beside : ByteArray
  text : ByteArray
  tag : ByteArray
  back : Int
/-- Its eight cells. -/
def Call.cells (c : Call) : List Value := [.int .u8 c.kind, .int .i64 c.variant, .string c.key, .string c.nonce, .string c.beside, .string c.text, .string c.tag, .int .u8 c.back]
/-- What it reads as. -/
def Call.data {H : Type} (c : Call) : DataW H := .agg [.lit (.int .u8 c.kind), .lit (.int .i64 c.variant), .lit (.string c.key.data.toList), .lit (.string c.nonce.data.toList), .lit (.string c.beside.data.toList), .lit (.string c.text.data.toList), .lit (.string c.tag.data.toList), .lit (.int .u8 c.back)]
/-- Numbers in their bounds, texts no longer than a text may be. -/
structure Call.Ok (c : Call) : Prop where
  kind : (Lit.int .u8 c.kind).wf = true
  variant : (Lit.int .i64 c.variant).wf = true
  key : c.key.size ≤ maxLen
  nonce : c.nonce.size ≤ maxLen
  beside : c.beside.size ≤ maxLen
  text : c.text.size ≤ maxLen
  tag : c.tag.size ≤ maxLen
  back : (Lit.int .u8 c.back).wf = true
/-- The type's shape in the program. -/
structure Shape (P : Program) (t : TypeId) (f0 f1 f2 f3 f4 f5 f6 f7 : Field) : Prop where
  und : P.underlying t = some (.struct #[f0, f1, f2, f3, f4, f5, f6, f7])
  one : oneCellFields P #[f0, f1, f2, f3, f4, f5, f6, f7] = true
  all : P.cellsOf t = 8
  t0 : P.underlying f0.type = some (.int .u8)
  t1 : P.underlying f1.type = some (.int .i64)
  t2 : P.underlying f2.type = some .string
  t3 : P.underlying f3.type = some .string
  t4 : P.underlying f4.type = some .string
  t5 : P.underlying f5.type = some .string
  t6 : P.underlying f6.type = some .string
  t7 : P.underlying f7.type = some (.int .u8)

section
variable {H : Type} {enc : TypeId × Value → H} {P : Program} {w : World} {base : Nat} {spare : Nat → Bool} {held : Bool} {t : TypeId} {f0 f1 f2 f3 f4 f5 f6 f7 : Field}

theorem list8 {α : Type} {l : List α} (h : l.length = 8) : ∃ a b c d e f g i, l = [a, b, c, d, e, f, g, i] := by
  match l, h with
  | [a, b, c, d, e, f, g, i], _ => exact ⟨a, b, c, d, e, f, g, i, rfl⟩

/-- Eight cells that read as a call. -/
theorem read_call (S : Shape P t f0 f1 f2 f3 f4 f5 f6 f7) {fuel : Nat} {cs : List Value} {x : DataW H × List MemPlace} (h : DataW.trod enc P w base spare held fuel t cs = some x) :
    ∃ c : Call, cs = c.cells ∧ x = (c.data, []) ∧ c.Ok := by
  obtain ⟨xs, n, -, rfl, hl, hlen, hf⟩ := DataW.trod_struct S.und h
  obtain ⟨v0, v1, v2, v3, v4, v5, v6, v7, rfl⟩ := list8 (hl.trans S.all)
  obtain ⟨x0, x1, x2, x3, x4, x5, x6, x7, rfl⟩ := list8 (show xs.length = 8 by rw [hlen]; rfl)
  obtain ⟨o0, k0⟩ := hone_of S.one 0 f0 rfl
  obtain ⟨o1, k1⟩ := hone_of S.one 1 f1 rfl
  obtain ⟨o2, k2⟩ := hone_of S.one 2 f2 rfl
  obtain ⟨o3, k3⟩ := hone_of S.one 3 f3 rfl
  obtain ⟨o4, k4⟩ := hone_of S.one 4 f4 rfl
  obtain ⟨o5, k5⟩ := hone_of S.one 5 f5 rfl
  obtain ⟨o6, k6⟩ := hone_of S.one 6 f6 rfl
  obtain ⟨o7, k7⟩ := hone_of S.one 7 f7 rfl
  have h0 := hf 0 f0 rfl
  have h1 := hf 1 f1 rfl
  have h2 := hf 2 f2 rfl
  have h3 := hf 3 f3 rfl
  have h4 := hf 4 f4 rfl
  have h5 := hf 5 f5 rfl
  have h6 := hf 6 f6 rfl
  have h7 := hf 7 f7 rfl
  rw [o0, k0] at h0
  rw [o1, k1] at h1
  rw [o2, k2] at h2
  rw [o3, k3] at h3
  rw [o4, k4] at h4
  rw [o5, k5] at h5
  rw [o6, k6] at h6
  rw [o7, k7] at h7
  obtain ⟨n0, e0, rfl, g0⟩ := DataW.trod_int S.t0 h0
  obtain ⟨n1, e1, rfl, g1⟩ := DataW.trod_int S.t1 h1
  obtain ⟨s2, e2, rfl, g2⟩ := DataW.trod_string S.t2 h2
  obtain ⟨s3, e3, rfl, g3⟩ := DataW.trod_string S.t3 h3
  obtain ⟨s4, e4, rfl, g4⟩ := DataW.trod_string S.t4 h4
  obtain ⟨s5, e5, rfl, g5⟩ := DataW.trod_string S.t5 h5
  obtain ⟨s6, e6, rfl, g6⟩ := DataW.trod_string S.t6 h6
  obtain ⟨n7, e7, rfl, g7⟩ := DataW.trod_int S.t7 h7
  obtain rfl : v0 = .int .u8 n0 := by simpa using e0
  obtain rfl : v1 = .int .i64 n1 := by simpa using e1
  obtain rfl : v2 = .string s2 := by simpa using e2
  obtain rfl : v3 = .string s3 := by simpa using e3
  obtain rfl : v4 = .string s4 := by simpa using e4
  obtain rfl : v5 = .string s5 := by simpa using e5
  obtain rfl : v6 = .string s6 := by simpa using e6
  obtain rfl : v7 = .int .u8 n7 := by simpa using e7
  exact ⟨⟨n0, n1, s2, s3, s4, s5, s6, n7⟩, rfl, rfl, ⟨g0, g1, g2, g3, g4, g5, g6, g7⟩⟩

/-- And back. -/
theorem reads_call (S : Shape P t f0 f1 f2 f3 f4 f5 f6 f7) (c : Call) (h : c.Ok) : DataW.trod enc P w base spare held 2 t c.cells = some (c.data, []) := by
  obtain ⟨o0, k0⟩ := hone_of S.one 0 f0 rfl
  obtain ⟨o1, k1⟩ := hone_of S.one 1 f1 rfl
  obtain ⟨o2, k2⟩ := hone_of S.one 2 f2 rfl
  obtain ⟨o3, k3⟩ := hone_of S.one 3 f3 rfl
  obtain ⟨o4, k4⟩ := hone_of S.one 4 f4 rfl
  obtain ⟨o5, k5⟩ := hone_of S.one 5 f5 rfl
  obtain ⟨o6, k6⟩ := hone_of S.one 6 f6 rfl
  obtain ⟨o7, k7⟩ := hone_of S.one 7 f7 rfl
  have h0 : DataW.trod enc P w base spare held 1 f0.type [.int .u8 c.kind] = some (.lit (.int .u8 c.kind), []) := by simp [DataW.trod, S.t0, h.kind]
  have h1 : DataW.trod enc P w base spare held 1 f1.type [.int .i64 c.variant] = some (.lit (.int .i64 c.variant), []) := by simp [DataW.trod, S.t1, h.variant]
  have h2 : DataW.trod enc P w base spare held 1 f2.type [.string c.key] = some (.lit (.string c.key.data.toList), []) := by simp [DataW.trod, S.t2, h.key]
  have h3 : DataW.trod enc P w base spare held 1 f3.type [.string c.nonce] = some (.lit (.string c.nonce.data.toList), []) := by simp [DataW.trod, S.t3, h.nonce]
  have h4 : DataW.trod enc P w base spare held 1 f4.type [.string c.beside] = some (.lit (.string c.beside.data.toList), []) := by simp [DataW.trod, S.t4, h.beside]
  have h5 : DataW.trod enc P w base spare held 1 f5.type [.string c.text] = some (.lit (.string c.text.data.toList), []) := by simp [DataW.trod, S.t5, h.text]
  have h6 : DataW.trod enc P w base spare held 1 f6.type [.string c.tag] = some (.lit (.string c.tag.data.toList), []) := by simp [DataW.trod, S.t6, h.tag]
  have h7 : DataW.trod enc P w base spare held 1 f7.type [.int .u8 c.back] = some (.lit (.int .u8 c.back), []) := by simp [DataW.trod, S.t7, h.back]
  have ts := trod_struct_mk (enc := enc) (w := w) (base := base) (spare := spare) (held := held) (n := 1) (cs := c.cells)
    (xs := [(.lit (.int .u8 c.kind), []), (.lit (.int .i64 c.variant), []), (.lit (.string c.key.data.toList), []), (.lit (.string c.nonce.data.toList), []), (.lit (.string c.beside.data.toList), []), (.lit (.string c.text.data.toList), []), (.lit (.string c.tag.data.toList), []), (.lit (.int .u8 c.back), [])])
    S.und (by rw [S.all]; rfl) (by simp [Call.cells, o0, k0, o1, k1, o2, k2, o3, k3, o4, k4, o5, k5, o6, k6, o7, k7, h0, h1, h2, h3, h4, h5, h6, h7])
  exact ts

/-- An argument that is a call. -/
theorem open_call (S : Shape P t f0 f1 f2 f3 f4 f5 f6 f7) {r : Reach} {b0 : Nat} {v : Value} {d : DataW H} {p : List MemPlace} (hv : Value.okWide P w r b0 t v) (h : DataW.Trod enc P w base spare held t v d p) :
    ∃ c : Call, v = .agg c.cells.toArray ∧ d = c.data ∧ p = [] ∧ c.Ok := by
  obtain ⟨cs, rfl, -⟩ := okWide_struct S.und hv
  obtain ⟨fuel, hf⟩ := h
  obtain ⟨c, e, hx, ok⟩ := read_call S hf
  simp only [Prod.mk.injEq] at hx
  refine ⟨c, ?_, hx.1, hx.2, ok⟩
  rw [← e]
  simp [Value.cells]
theorem shut_call (S : Shape P t f0 f1 f2 f3 f4 f5 f6 f7) (c : Call) (h : c.Ok) : DataW.Trod enc P w base spare held t (.agg c.cells.toArray) c.data [] :=
  ⟨2, by rw [show ((Value.agg c.cells.toArray).cells.toList) = c.cells by simp [Value.cells]]; exact reads_call S c h⟩

/-- Calls that lie in memory, one behind another. -/
structure Lie (W : World) (A : Option Addr) (len : Nat) (L : Nat → Call) : Prop where
  at_ : ∀ i, i < len → ∃ b off, A = some ⟨b, off, none⟩ ∧ b < W.heap.size ∧ ∀ j, j < 8 → W.cell? ⟨b, off + i * 8 + j, none⟩ = (L i).cells[j]?
/-- Texts that lie in memory, one behind another. -/
structure Texts (W : World) (A : Option Addr) (len : Nat) (S : Nat → ByteArray) : Prop where
  at_ : ∀ i, i < len → ∃ b off, A = some ⟨b, off, none⟩ ∧ b < W.heap.size ∧ W.cell? ⟨b, off + i, none⟩ = some (.string (S i))

theorem add_spot {a : Addr} (h : a.spot = none) (i : Nat) : a.add i = ⟨a.block, a.off + i, none⟩ := by
  obtain ⟨b, o, sp⟩ := a
  simp only [] at h
  subst h
  unfold Addr.add
  split
  · subst_vars; rfl
  · rfl
theorem spot_back {a : Addr} (h : (a.add 0).spot = none) : a.spot = none := by simpa [Addr.add] using h
theorem cell_in {W : World} {a : Addr} {v : Value} (h : W.cell? a = some v) : a.block < W.heap.size := by
  rcases Nat.lt_or_ge a.block W.heap.size with g | g
  · exact g
  · simp [World.cell?, Array.getElem?_eq_none g] at h

/-- An argument that is a slice of calls. -/
theorem open_calls (S : Shape P t f0 f1 f2 f3 f4 f5 f6 f7) {ts : TypeId} (hs : P.underlying ts = some (.slice t)) {r : Reach} {b0 : Nat} {v : Value} {d : DataW H} {p : List MemPlace}
    (hv : Value.okWide P w r b0 ts v) (h : DataW.Trod enc P w base spare held ts v d p) : ∃ A len cap L, v = .slice A len cap ∧ len ≤ maxLen ∧ Lie w A len L ∧ ∀ i, i < len → (L i).Ok := by
  obtain ⟨A, len, cap, rfl⟩ := okWide_slice hs hv
  obtain ⟨fuel, hf⟩ := h
  rcases Go.Deep.open_slice hs hf with ⟨hc, _⟩ | ⟨a, len', cap', m, n, D, Pl, hc, _, hlc, hcap, hm, _, hx⟩
  · obtain ⟨rfl, rfl, rfl⟩ : A = none ∧ len = 0 ∧ cap = 0 := by simpa [Value.cells] using hc
    exact ⟨none, 0, 0, fun _ => ⟨0, 0, ⟨#[]⟩, ⟨#[]⟩, ⟨#[]⟩, ⟨#[]⟩, ⟨#[]⟩, 0⟩, rfl, Nat.zero_le _, ⟨fun i hi => absurd hi (by omega)⟩, fun i hi => absurd hi (by omega)⟩
  · obtain ⟨rfl, rfl, rfl⟩ : A = some a ∧ len = len' ∧ cap = cap' := by simpa [Value.cells] using hc
    have hml : len ≤ m := by rw [hm]; split <;> omega
    rw [S.all] at hx
    have hall : ∀ i, ∃ c : Call, i < len → w.cells? base (a.add (i * 8)) 8 = some c.cells ∧ c.Ok := by
      intro i
      by_cases hi : i < len
      · obtain ⟨cs, hcs, htr⟩ := hx i (by omega)
        obtain ⟨c, rfl, -, ok⟩ := read_call S htr
        exact ⟨c, fun _ => ⟨hcs, ok⟩⟩
      · exact ⟨⟨0, 0, ⟨#[]⟩, ⟨#[]⟩, ⟨#[]⟩, ⟨#[]⟩, ⟨#[]⟩, 0⟩, fun h => absurd h hi⟩
    obtain ⟨L, hL⟩ := Classical.axiomOfChoice hall
    refine ⟨some a, len, cap, L, rfl, Nat.le_trans hlc hcap, ⟨fun i hi => ?_⟩, fun i hi => (hL i hi).2⟩
    obtain ⟨hcs, -⟩ := hL i hi
    obtain ⟨_, _, hat⟩ := World.cells?_some hcs
    have hsp : a.spot = none := by
      obtain ⟨_, _, hat0⟩ := World.cells?_some (hL 0 (by omega)).1
      have h0 := hat0 0 (by omega)
      rw [Nat.zero_mul] at h0
      exact spot_back (spot_back (World.cell?_spot (show w.cell? ((a.add 0).add 0) = some (.int .u8 (L 0).kind) from h0)))
    have hat' : ∀ j, j < 8 → w.cell? ⟨a.block, a.off + i * 8 + j, none⟩ = (L i).cells[j]? := by
      intro j hj
      have := hat j hj
      rw [add_spot hsp, add_spot rfl] at this
      exact this
    refine ⟨a.block, a.off, ?_, cell_in (a := ⟨a.block, a.off + i * 8 + 0, none⟩) (v := .int .u8 (L i).kind) (hat' 0 (by omega)), hat'⟩
    obtain ⟨b, o, sp⟩ := a
    simp only [] at hsp
    subst hsp
    rfl

/-- An argument that is a slice of texts. -/
theorem open_texts {ts e : TypeId} (hs : P.underlying ts = some (.slice e)) (he : P.underlying e = some .string) (ce : P.cellsOf e = 1) {r : Reach} {b0 : Nat} {v : Value} {d : DataW H} {p : List MemPlace}
    (hv : Value.okWide P w r b0 ts v) (h : DataW.Trod enc P w base spare held ts v d p) : ∃ A len cap S, v = .slice A len cap ∧ len ≤ maxLen ∧ Texts w A len S := by
  obtain ⟨A, len, cap, rfl⟩ := okWide_slice hs hv
  obtain ⟨fuel, hf⟩ := h
  rcases Go.Deep.open_slice1 hs ce hf with ⟨hc, _⟩ | ⟨a, len', cap', m, n, V, D, Pl, hc, _, hlc, hcap, hm, _, hx⟩
  · obtain ⟨rfl, rfl, rfl⟩ : A = none ∧ len = 0 ∧ cap = 0 := by simpa [Value.cells] using hc
    exact ⟨none, 0, 0, fun _ => ⟨#[]⟩, rfl, Nat.zero_le _, ⟨fun i hi => absurd hi (by omega)⟩⟩
  · obtain ⟨rfl, rfl, rfl⟩ : A = some a ∧ len = len' ∧ cap = cap' := by simpa [Value.cells] using hc
    have hml : len ≤ m := by rw [hm]; split <;> omega
    have hall : ∀ i, ∃ s : ByteArray, i < len → w.cell? (a.add i) = some (.string s) := by
      intro i
      by_cases hi : i < len
      · obtain ⟨hc1, htr⟩ := hx i (by omega)
        obtain ⟨s, e1, -, -⟩ := DataW.trod_string he htr
        refine ⟨s, fun _ => ?_⟩
        rw [hc1]
        simpa using e1
      · exact ⟨⟨#[]⟩, fun h => absurd h hi⟩
    obtain ⟨S, hS⟩ := Classical.axiomOfChoice hall
    refine ⟨some a, len, cap, S, rfl, Nat.le_trans hlc hcap, ⟨fun i hi => ?_⟩⟩
    have hci := hS i hi
    have hsp : a.spot = none := by
      exact spot_back (World.cell?_spot (hS 0 (by omega)))
    rw [add_spot hsp] at hci
    refine ⟨a.block, a.off, ?_, cell_in (a := ⟨a.block, a.off + i, none⟩) hci, hci⟩
    obtain ⟨b, o, sp⟩ := a
    simp only [] at hsp
    subst hsp
    rfl

end
end Eng
end Go.Proofs.Ytedoggejbhbebaa

/-
  Contract of dromondref09.Few. Conditions: the calls lie in memory.
-/
namespace Go.Proofs.Ytedoggejbhbebaa
namespace Eng
open Go.ChangeShapes Go.WideShapes Go.ChangeAt Go.RowKit
set_option linter.unusedVariables false
set_option maxRecDepth 100000

/-- A call of a size that is looked at. -/
def Small (c : Call) : Prop := c.key.size ≤ 100 ∧ c.nonce.size ≤ 40 ∧ c.beside.size ≤ 100 ∧ c.text.size ≤ 100 ∧ c.tag.size ≤ 100
/-- So many calls, of such sizes. -/
def FewP (L : Nat → Call) (len : Nat) (n : Int) : Prop := (∀ i, i < len → i < 200 → Small (L i)) ∧ (len : Int) ≤ n
theorem not_few {L : Nat → Call} {len : Nat} {n : Int} {r : Bool} (hr : r = true ↔ FewP L len n) (h : ¬ FewP L len n) : false = r := by
  cases r
  · rfl
  · exact absurd (hr.1 rfl) h
theorem few_eq {L : Nat → Call} {len : Nat} {n : Int} {r b : Bool} (hr : r = true ↔ FewP L len n) (hb : b = true ↔ FewP L len n) : b = r := by
  cases r <;> cases b <;> simp_all
def numE : Value → Int
  | .int _ n => n
  | _ => 0

set_option maxHeartbeats 4000000 in
theorem rfew (A : Option Addr) (len cap : Nat) (n : Int) (L : Nat → Call) (w : World) (hl : Lie w A len L) (r : Bool) (hr : r = true ↔ FewP L len n) :
    Calls Try.prog 13 #[.slice A len cap, .int .i64 n] w fun e w' => e = .returned (.bool r) ∧ Below w.heap.size w w' := by
  have HL := Lib.hid hl
  have HR := Lib.hid hr
  clear hl hr
  go_enter Try.func13, Try.ntmps13
  go_wp2
  go_loopw [5] (fun x wr => ∃ k : Nat, k ≤ len ∧ k ≤ 200 ∧ x = .int .i64 (k : Nat) ∧ Hid (∀ i, i < k → Small (L i)) ∧ Below w.heap.size w wr) (fun x _ => len - (numE x).toNat)
  case atStart => exact ⟨0, Nat.zero_le _, Nat.zero_le _, rfl, Lib.hid (fun i hi => absurd hi (by omega)), Below.refl _ _⟩
  case round =>
    obtain ⟨k, hk, hk2, rfl, hs, hb⟩ := hrel
    by_cases h1 : k < len
    · have g1 : (k : Int) < (len : Int) := by omega
      by_cases h2 : k < 200
      · have g2 : (k : Int) < 200 := by omega
        obtain ⟨b, off, rfl, hbs, hc⟩ := HL.out.at_ k h1
        obtain ⟨c, hce⟩ : ∃ c, c = L k := ⟨_, rfl⟩
        rw [← hce] at hc
        have at_ : ∀ j v, j < 8 → c.cells[j]? = some v → wr.cell? ⟨b, off + k * 8 + j, none⟩ = some v := fun j v hj hv => (hb.cell (p := ⟨b, off + k * 8 + j, none⟩) hbs).trans ((hc j hj).trans hv)
        have l0 : wr.cell? ⟨b, off + k * 8, none⟩ = _ := at_ 0 _ (by omega) rfl
        have l1 := at_ 1 _ (by omega) rfl
        have l2 := at_ 2 _ (by omega) rfl
        have l3 := at_ 3 _ (by omega) rfl
        have l4 := at_ 4 _ (by omega) rfl
        have l5 := at_ 5 _ (by omega) rfl
        have l6 := at_ 6 _ (by omega) rfl
        have l7 := at_ 7 _ (by omega) rfl
        have HB := Lib.hid hb
        have HC := Lib.hid (And.intro hce (And.intro h1 (And.intro h2 (And.intro hk hk2))))
        have k0 : (0 : Int) ≤ (k : Int) := by omega
        clear hb hc at_ hce h2
        go_wp2
        all_goals first
          | (go_ret; exact ⟨congrArg (fun b => Ending.returned (Value.bool b)) (show false = r from not_few HR.out (fun h => absurd (h.1 k HC.out.2.1 HC.out.2.2.1) (by rw [← HC.out.1]; unfold Small; omega))), HB.out.alloc HB.out.size _⟩)
          | go_roundw
        case rel =>
          have hsm : Small c := by unfold Small; omega
          exact ⟨k + 1, by have := HC.out.2.1; omega, by have := HC.out.2.2.1; omega, congrArg (Value.int .i64) (by omega), Lib.hid (fun i hi => by
            by_cases e : i = k
            · rw [e, ← HC.out.1]; exact hsm
            · exact hs.out i (by omega)), HB.out.alloc HB.out.size _⟩
        case measure => have := HC.out.2.1; simp [numE]; omega
      · have g2 : ¬ (k : Int) < 200 := by omega
        have HE := Lib.hid hs
        have HB := Lib.hid hb
        have hfew : decide ((len : Int) ≤ n) = true ↔ FewP L len n := by
          simp only [decide_eq_true_iff]
          exact ⟨fun h => ⟨fun i hi h200 => HE.out.out i (by omega), h⟩, fun h => h.2⟩
        clear hs hb h2
        go_wp2
        go_ret
        exact ⟨congrArg (fun b => Ending.returned (Value.bool b)) (show decide ((len : Int) ≤ n) = r from few_eq HR.out hfew), HB.out⟩
    · have g1 : ¬ (k : Int) < (len : Int) := by omega
      have HE := Lib.hid hs
      have HB := Lib.hid hb
      have hfew : decide ((len : Int) ≤ n) = true ↔ FewP L len n := by
        simp only [decide_eq_true_iff]
        exact ⟨fun h => ⟨fun i hi h200 => HE.out.out i (by omega), h⟩, fun h => h.2⟩
      clear hs hb
      go_wp2
      go_ret
      exact ⟨congrArg (fun b => Ending.returned (Value.bool b)) (show decide ((len : Int) ≤ n) = r from few_eq HR.out hfew), HB.out⟩
end Eng
end Go.Proofs.Ytedoggejbhbebaa
