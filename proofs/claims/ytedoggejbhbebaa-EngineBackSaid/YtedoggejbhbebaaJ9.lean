/-
  Joined: Kd, Ke. Conditions: as each part says.
-/
import Derived.Test.YtedoggejbhbebaaJ8
import Derived.Deep.RegionHeld3

/-
  Contract of (*idealCore).tagged. Conditions: the core lies in memory; fewer than a thousand entries.
-/
namespace Go.Proofs.Ytedoggejbhbebaa
namespace Eng
open Go.ChangeShapes Go.WideShapes Go.ChangeAt Go.RowKit Go.Great
open Gf Aes Gcm
set_option linter.unusedVariables false
set_option maxRecDepth 100000

deriving instance DecidableEq for Ent

theorem sizeOf_le (v : Int) : 0 ≤ sizeOf v ∧ sizeOf v ≤ 64 := by
  unfold sizeOf
  split
  · omega
  · split
    · omega
    · split
      · omega
      · split <;> omega
/-- A fresh tag. -/
def freshTag (n : Nat) (v : Int) : ByteArray := toE (freshL n (sizeOf v).toNat)

theorem text_beq (a b : ByteArray) : (a.toList == b.toList) = decide (a = b) := by
  by_cases h : a = b
  · subst h; simp
  · have : ¬ a.toList = b.toList := fun e => h (by
      rw [ByteArray.toList_eq, ByteArray.toList_eq] at e
      exact ByteArray.ext (Array.toList_inj.1 e))
    simp [h, this]
theorem struct_ofE {P : Program} {t : TypeId} (h : (match P.underlying t with | some (.struct _) => true | _ => false) = true) : ∃ fs, P.underlying t = some (.struct fs) := by
  cases hu : P.underlying t with
  | none => rw [hu] at h; cases h
  | some d => cases d <;> simp_all
theorem under_ent : ∃ fs, Try.prog.underlying 157 = some (.struct fs) := struct_ofE (by kernel_rfl)
theorem info_ent : (Try.prog.info? 157).map (·.size) = some 5 := by kernel_rfl

/-- The end of a function that gives a number, an entry and a bool. -/
theorem ret_ent {fn : Func} {p q r : Tmp} {Q : Ending → World → Prop} {tmps : Array Value} {w : World} {g : Nat} {cs : Array Value} {u v : Value} (h : fn.results = #[.tmp q, .cell p 157, .tmp r]) (hp : tmps.getD p undef = .pointer (some ⟨g, 0, none⟩)) (hq : tmps.getD q undef = u) (hr : tmps.getD r undef = v) (hg : w.heap[g]? = some (.cells cs 157 (0, 0))) (hc : cs.size = 5)
    (hQ : Q (.returned (.tuple #[u, .agg cs, v])) w) : bodyPost Try.prog fn Q Exit.ret { tmps := tmps, defers := [] } w := by
  obtain ⟨fs, hu⟩ := under_ent
  have hr : (results fn tmps).run Try.prog w = .ok (.tuple #[u, .agg cs, v]) w := by
    have hp' : tmps[p]?.getD undef = .pointer (some ⟨g, 0, none⟩) := by simpa using hp
    have hv' : tmps[q]?.getD undef = u := by simpa using hq
    have hr' : tmps[r]?.getD undef = v := by simpa using hr
    simp [results, h, hp', hv', hr', asAddr, run_loadVar_row w g 157 157 cs (0, 0) _ hg hu rfl (by rw [hc]; exact info_ent)]
  exact bodyPost_ret hr rfl hQ

def noEnt : Array Value := #[.int .i64 0, .string ⟨#[]⟩, .string ⟨#[]⟩, .string ⟨#[]⟩, .string ⟨#[]⟩]

theorem tagged_out (c : Nat) (v : Value) (L : List Ent) (tag : ByteArray) (w : World) (h : Cor w c v L) (hfew : L.length ≤ 1000) (hn : numOf tag = 0 ∨ L.length < numOf tag) :
    Calls Try.prog 116 #[.pointer (some ⟨c, 0, none⟩), .string tag] w fun e w' => e = .returned (.tuple #[.int .u64 0, .agg noEnt, .bool false]) ∧ Below w.heap.size w w' := by
  obtain ⟨A, cap, hv⟩ := h.slice
  have HT := Lib.hid h; clear h
  subst hv
  generalize hN : L.length = l at *
  have HN := Lib.hid hN; clear hN
  have K := Lib.hid (number_any tag)
  obtain ⟨n, hnn⟩ : ∃ n, n = numOf tag := ⟨_, rfl⟩
  rw [← hnn] at K hn
  clear hnn
  have q1 : IntKind.u64.wrap (l : Int) = (l : Int) := by rw [IntKind.wrap_u64]; omega
  have c0 := HT.out.cell
  have c1 := (HT.out.below ((Below.refl _ _).alloc (Nat.le_refl _) (.cells #[.int .i64 0, .string ⟨#[]⟩, .string ⟨#[]⟩, .string ⟨#[]⟩, .string ⟨#[]⟩] 157))).cell
  have hend : ∀ X : World, X = w.alloc (.cells noEnt 157) → X.heap[w.heap.size]? = some (.cells noEnt 157 (0, 0)) ∧ Below w.heap.size w X := by
    rintro X rfl
    exact ⟨heap_alloc_new _ _, (Below.refl _ _).alloc (Nat.le_refl _) _⟩
  have HE := Lib.hid hend; clear hend
  rcases hn with rfl | hn
  · go_enter Try.func116, Try.ntmps116
    go_wp2_with fail
    refine (K.out _).mono ?_
    rintro e w1 ⟨rfl, hw⟩
    rw [hw]
    clear hw
    go_wp2
    exact ret_ent rfl rfl rfl rfl (HE.out _ rfl).1 rfl ⟨rfl, (HE.out _ rfl).2⟩
  · by_cases h0 : n = 0
    · omega
    · have g1 : decide ((n : Int) < 1) = false := by simp; omega
      have g2 : decide ((l : Int) < (n : Int)) = true := by simp; omega
      clear h0
      go_enter Try.func116, Try.ntmps116
      go_wp2_with fail
      refine (K.out _).mono ?_
      rintro e w1 ⟨rfl, hw⟩
      rw [hw]
      clear hw
      go_wp2
      exact ret_ent rfl rfl rfl rfl (HE.out _ rfl).1 rfl ⟨rfl, (HE.out _ rfl).2⟩

/-- Five cells in a block. -/
abbrev E5 (g : Nat) (x : Ent) (w : World) : Prop := w.heap[g]? = some (.cells #[.int .i64 x.variant, .string x.key, .string x.nonce, .string x.beside, .string x.text] 157 (0, 0))
theorem E5.cells {g : Nat} {x : Ent} {w : World} (h : E5 g x w) : w.cell? ⟨g, 0, none⟩ = some (.int .i64 x.variant) ∧ w.cell? ⟨g, 1, none⟩ = some (.string x.key) ∧ w.cell? ⟨g, 2, none⟩ = some (.string x.nonce) ∧ w.cell? ⟨g, 3, none⟩ = some (.string x.beside) ∧ w.cell? ⟨g, 4, none⟩ = some (.string x.text) := by
  refine ⟨?_, ?_, ?_, ?_, ?_⟩ <;> (rw [cell_of_row _ _ _ _ _ _ h]; rfl)
theorem E5.frozen {g : Nat} {x : Ent} {w : World} (h : E5 g x w) (j : Nat) : w.frozen? ⟨g, j, none⟩ = false := frozen_of_row _ _ _ _ _ h
def put5E (X : World) (g : Nat) (x : Ent) : World :=
  ((((X.setCell ⟨g, 0, none⟩ (.int .i64 x.variant)).setCell ⟨g, 1, none⟩ (.string x.key)).setCell ⟨g, 2, none⟩ (.string x.nonce)).setCell ⟨g, 3, none⟩ (.string x.beside)).setCell ⟨g, 4, none⟩ (.string x.text)
theorem E5.put {g : Nat} {x : Ent} {w : World} (h : E5 g x w) (y : Ent) : E5 g y (put5E w g y) := by
  unfold E5 put5E
  rw [heap_setCell_same _ _ _ _ _ _ (heap_setCell_same _ _ _ _ _ _ (heap_setCell_same _ _ _ _ _ _ (heap_setCell_same _ _ _ _ _ _ (heap_setCell_same _ _ _ _ _ _ h))))]
  rfl
theorem below_put5E {w X : World} (hb : Below w.heap.size w X) {g : Nat} (hg : w.heap.size ≤ g) (x : Ent) : Below w.heap.size w (put5E X g x) :=
  ((((hb.setCell (by simp only []; exact hg) _).setCell (by simp only []; exact hg) _).setCell (by simp only []; exact hg) _).setCell (by simp only []; exact hg) _).setCell (by simp only []; exact hg) _

def entZero : Ent := ⟨0, ⟨#[]⟩, ⟨#[]⟩, ⟨#[]⟩, ⟨#[]⟩⟩
/-- The result's block, the entry's copy. -/
structure Tg (w : World) (x : Ent) (X : World) : Prop where
  hR : E5 w.heap.size entZero X
  hX : E5 (w.heap.size + 1) x X
  below : Below w.heap.size w X
theorem Tg.next {w X Y : World} {x : Ent} (h : Tg w x X) (hb : Below X.heap.size X Y) : Tg w x Y := ⟨keepBlock h.hR hb, keepBlock h.hX hb, below_link h.below hb⟩
theorem Tg.drew {w X : World} {x : Ent} (h : Tg w x X) : Tg w x X.drew := ⟨h.hR, h.hX, h.below.drew⟩
theorem Tg.stored {w X : World} {x : Ent} (h : Tg w x X) (y : Ent) : (put5E X w.heap.size y).cell? ⟨w.heap.size + 1, 0, none⟩ = some (.int .i64 x.variant) ∧ (put5E X w.heap.size y).cell? ⟨w.heap.size + 1, 1, none⟩ = some (.string x.key) ∧ (put5E X w.heap.size y).cell? ⟨w.heap.size + 1, 2, none⟩ = some (.string x.nonce) ∧ (put5E X w.heap.size y).cell? ⟨w.heap.size + 1, 3, none⟩ = some (.string x.beside) ∧ (put5E X w.heap.size y).cell? ⟨w.heap.size + 1, 4, none⟩ = some (.string x.text) := by
  have e : ∀ j, (put5E X w.heap.size y).cell? ⟨w.heap.size + 1, j, none⟩ = X.cell? ⟨w.heap.size + 1, j, none⟩ := fun j => by
    unfold put5E
    rw [World.cell?_setCell_far _ _ _ _ (by simp only []; omega), World.cell?_setCell_far _ _ _ _ (by simp only []; omega), World.cell?_setCell_far _ _ _ _ (by simp only []; omega), World.cell?_setCell_far _ _ _ _ (by simp only []; omega), World.cell?_setCell_far _ _ _ _ (by simp only []; omega)]
  exact ⟨by rw [e]; exact h.hX.cells.1, by rw [e]; exact h.hX.cells.2.1, by rw [e]; exact h.hX.cells.2.2.1, by rw [e]; exact h.hX.cells.2.2.2.1, by rw [e]; exact h.hX.cells.2.2.2.2⟩

set_option maxHeartbeats 1000000 in
theorem tagged_in (c : Nat) (v : Value) (L : List Ent) (tag : ByteArray) (w : World) (h : Cor w c v L) (hfew : L.length ≤ 1000) (n m : Nat) (x : Ent) (hm : m = n + 1) (hn : numOf tag = m) (hx : L[n]? = some x) (r : Bool) (hr : r = decide (tag = freshTag m x.variant)) :
    Calls Try.prog 116 #[.pointer (some ⟨c, 0, none⟩), .string tag] w fun e w' => e = .returned (.tuple #[.int .u64 (m : Nat), .agg #[.int .i64 x.variant, .string x.key, .string x.nonce, .string x.beside, .string x.text], .bool r]) ∧ Below w.heap.size w w' := by
  have hnl : n < L.length := (List.getElem?_eq_some_iff.1 hx).1
  have K := Lib.hid (number_any tag)
  rw [hn] at K
  obtain ⟨Z, hZ⟩ : ∃ Z, Z = Obj.cells #[.int .i64 0, .string ⟨#[]⟩, .string ⟨#[]⟩, .string ⟨#[]⟩, .string ⟨#[]⟩] 157 := ⟨_, rfl⟩
  have h1 := h.below ((Below.refl _ _).alloc (Nat.le_refl _) Z)
  rcases h1.form with ⟨rfl, rfl⟩ | ⟨g, cap, cur, rfl, hne, hg, hcap, hcm, hsz, htake⟩
  · simp at hnl
  · have HF : ∀ w, Calls Try.prog 117 #[.int .u64 (m : Nat), .int .i64 (sizeOf x.variant)] w fun e w' => e = .returned (.string (freshTag m x.variant)) ∧ Below w.heap.size w w' := by
      intro w
      have hs := sizeOf_le x.variant
      have := fresh_any m (sizeOf x.variant).toNat w (by rw [← hn]; exact numOf_lt tag) (by omega)
      rwa [show (((sizeOf x.variant).toNat : Nat) : Int) = sizeOf x.variant from Int.toNat_of_nonneg hs.1] at this
    have HF := Lib.hid HF
    have HS := Lib.hid (psize x.variant)
    obtain ⟨s, hs⟩ : ∃ s, s = sizeOf x.variant := ⟨_, rfl⟩
    rw [← hs] at HF HS
    have e0 : (w.alloc Z).cell? ⟨g, n * 5, none⟩ = some (.int .i64 x.variant) := ent_cell hg htake hx (j := 0) (by omega) rfl
    have e1 := ent_cell hg htake hx (j := 1) (by omega) rfl
    have e2 := ent_cell hg htake hx (j := 2) (by omega) rfl
    have e3 := ent_cell hg htake hx (j := 3) (by omega) rfl
    have e4 := ent_cell hg htake hx (j := 4) (by omega) rfl
    have c1 := h1.cell
    have q1 : IntKind.u64.wrap (L.length : Int) = (L.length : Int) := by rw [IntKind.wrap_u64]; omega
    have q2 : IntKind.u64.wrap ((m : Int) - 1) = (n : Int) := by rw [IntKind.wrap_u64]; omega
    have g1 : decide ((m : Int) < 1) = false := by simp; omega
    have g2 : decide ((L.length : Int) < (m : Int)) = false := by simp; omega
    have g5 : decide (L.length < m) = false := by simp; omega
    have g6 : ¬ (L.length < m) := by omega
    generalize hN : L.length = l at *
    obtain ⟨T, hT⟩ : ∃ T, T = freshTag m x.variant := ⟨_, rfl⟩
    rw [← hT] at HF hr
    have g3 : (n : Int) < (l : Int) := by omega
    have HH := Lib.hid (And.intro hN hr)
    have hs2 : Tg w x ((w.alloc Z).alloc (.cells #[.int .i64 x.variant, .string x.key, .string x.nonce, .string x.beside, .string x.text] 157)) := by
      subst hZ
      refine ⟨keepAlloc (heap_alloc_new w _) _, ?_, below_alloc (below_alloc (Below.refl _ _) _) _⟩
      have := heap_alloc_new (w.alloc (.cells #[.int .i64 0, .string ⟨#[]⟩, .string ⟨#[]⟩, .string ⟨#[]⟩, .string ⟨#[]⟩] 157)) (.cells #[.int .i64 x.variant, .string x.key, .string x.nonce, .string x.beside, .string x.text] 157)
      rwa [alloc_size] at this
    have HT := Lib.hid hs2
    subst hZ
    clear hm hn hx hT hs hN hr h h1 hcap hcm hsz htake hg hnl hne hs2
    go_enter Try.func116, Try.ntmps116
    go_wp2_with fail
    refine (K.out _).mono ?_
    rintro e w1 ⟨rfl, hw⟩
    rw [hw]
    clear hw
    go_wp2
    generalize ((w.alloc (Obj.cells #[.int .i64 0, .string ⟨#[]⟩, .string ⟨#[]⟩, .string ⟨#[]⟩, .string ⟨#[]⟩] 157)).alloc (Obj.cells #[.int .i64 x.variant, .string x.key, .string x.nonce, .string x.beside, .string x.text] 157)) = wq at *
    clear e0 e1 e2 e3 e4 c1
    go_region_held3 (fun X => X.cell? ⟨w.heap.size + 1, 0, none⟩ = some (.int .i64 x.variant) ∧ X.cell? ⟨w.heap.size + 1, 1, none⟩ = some (.string x.key) ∧ X.cell? ⟨w.heap.size + 1, 2, none⟩ = some (.string x.nonce) ∧ X.cell? ⟨w.heap.size + 1, 3, none⟩ = some (.string x.beside) ∧ X.cell? ⟨w.heap.size + 1, 4, none⟩ = some (.string x.text)) (first | (with_reducible exact HT.out.drew.hX.cells) | (with_reducible exact HT3.out.hX.cells) | (exact HT3.out.stored x)) (first
      | (go_at_call 9; with_reducible refine (HS.out _).mono ?_; rintro e w3 ⟨rfl, hw3⟩; rw [hw3]; clear hw3)
      | (go_at_call 117; with_reducible refine (HF.out _).mono ?_; rintro e w3 ⟨rfl, hb3⟩; have HT3 := Lib.hid (HT.out.drew.next hb3); obtain ⟨s0, s1, s2, s3, s4⟩ := HT3.out.hR.cells; have t0 := HT3.out.hR.frozen 0; have t1 := HT3.out.hR.frozen 1; have t2 := HT3.out.hR.frozen 2; have t3 := HT3.out.hR.frozen 3; have t4 := HT3.out.hR.frozen 4; clear hb3))
    clear s0 s1 s2 s3 s4 t0 t1 t2 t3 t4
    go_wp2
    exact ret_ent rfl rfl rfl rfl (HT3.out.hR.put x) rfl ⟨by rw [HH.out.2, ← text_beq]; rfl, below_put5E HT3.out.below (Nat.le_refl _) _⟩

/-- The entry that has this tag. -/
def hit (L : List Ent) (tag : ByteArray) : Option Ent :=
  match numOf tag with
  | 0 => none
  | n + 1 => match L[n]? with
    | none => none
    | some x => if tag = freshTag (n + 1) x.variant then some x else none
theorem hit_cases (L : List Ent) (tag : ByteArray) :
    ((numOf tag = 0 ∨ L.length < numOf tag) ∧ hit L tag = none) ∨ ∃ n m x, m = n + 1 ∧ numOf tag = m ∧ L[n]? = some x ∧ hit L tag = if tag = freshTag m x.variant then some x else none := by
  unfold hit
  cases hn : numOf tag with
  | zero => exact .inl ⟨.inl rfl, rfl⟩
  | succ n =>
    cases hx : L[n]? with
    | none =>
      refine .inl ⟨.inr ?_, by simp [hx]⟩
      have := List.getElem?_eq_none_iff.1 hx
      omega
    | some x => exact .inr ⟨n, n + 1, x, rfl, rfl, hx, by simp [hx]⟩
end Eng
end Go.Proofs.Ytedoggejbhbebaa

/-
  Contracts of an ideal core's entries, sign, seal, holds and open. Conditions: the core lies in memory; fewer than a thousand entries; texts of at most 2^30 bytes.
-/
namespace Go.Proofs.Ytedoggejbhbebaa
namespace Eng
open Go.ChangeShapes Go.WideShapes Go.ChangeAt Go.RowKit Go.Great
open Gf Aes Gcm
set_option linter.unusedVariables false
set_option maxRecDepth 100000

theorem text_iff (a b : ByteArray) : a.toList = b.toList ↔ a = b := by
  have := text_beq a b
  by_cases h : a = b <;> simp_all
theorem eql_run (x y : Ent) (X : World) : (binOp .eql 157 (.agg #[.int .i64 x.variant, .string x.key, .string x.nonce, .string x.beside, .string x.text]) (.agg #[.int .i64 y.variant, .string y.key, .string y.nonce, .string y.beside, .string y.text])).run Try.prog X = .ok (.bool (decide (x = y))) X := by
  have hf : Try.prog.fieldsOf 157 = (match Try.prog.underlying 157 with | some (.struct fs) => fs | _ => #[]) := rfl
  rw [Try.underlying157] at hf
  have hu : Try.prog.underlying 157 = some (.struct (Try.prog.fieldsOf 157)) := by rw [hf]; exact Try.underlying157
  rw [run_eql_struct, run_equalIn_struct X 9999 157 _ _ hu (by kernel_rfl), hf]
  have e9 : Try.prog.underlying 9 = some .string := Try.underlying9
  have e3 : Try.prog.underlying 3 = some (.int .i64) := Try.underlying3
  simp [Op.eqFields, go_sem, text_iff]
  obtain ⟨a, b, c, d, f⟩ := x
  obtain ⟨a', b', c', d', f'⟩ := y
  simp only [Ent.mk.injEq]
  by_cases h1 : a = a' <;> by_cases h2 : b = b' <;> by_cases h3 : c = c' <;> by_cases h4 : d = d' <;> by_cases h5 : f = f' <;> simp [h1, h2, h3, h4, h5]
theorem neq_run (x y : Ent) (X : World) : (binOp .neq 157 (.agg #[.int .i64 x.variant, .string x.key, .string x.nonce, .string x.beside, .string x.text]) (.agg #[.int .i64 y.variant, .string y.key, .string y.nonce, .string y.beside, .string y.text])).run Try.prog X = .ok (.bool (!decide (x = y))) X := by
  have h := eql_run x y X
  rw [run_eql_struct] at h
  rw [run_neq_struct]
  revert h
  cases (Op.equalIn 10000 157 (.agg #[.int .i64 x.variant, .string x.key, .string x.nonce, .string x.beside, .string x.text]) (.agg #[.int .i64 y.variant, .string y.key, .string y.nonce, .string y.beside, .string y.text])).run Try.prog X with
  | ok b w => intro h; simp only [Result.andThen_ok, Result.ok.injEq, Value.bool.injEq] at h ⊢; exact ⟨by rw [h.1], h.2⟩
  | halt e w => intro h; simp [Result.andThen] at h

theorem entries_any (c : Nat) (v : Value) (L : List Ent) (w : World) (h : Cor w c v L) :
    Calls Try.prog 111 #[.pointer (some ⟨c, 0, none⟩)] w fun e w' => e = .returned (.int .i64 (L.length : Nat)) ∧ w' = w := by
  obtain ⟨A, cap, hv⟩ := h.slice
  have c0 := h.cell
  subst hv
  clear h
  go_enter Try.func111, Try.ntmps111
  go_wp2
  go_ret
  exact ⟨rfl, rfl⟩

set_option maxHeartbeats 1000000 in
theorem sign_any (c : Nat) (v : Value) (L : List Ent) (var : Int) (key text : ByteArray) (w : World) (h : Cor w c v L) (hfew : L.length ≤ 1000) :
    Calls Try.prog 115 #[.pointer (some ⟨c, 0, none⟩), .int .i64 var, .string key, .string text] w fun e w' => e = .returned (.string (freshTag (L.length + 1) var)) ∧ After w c v (L ++ [⟨var, key, ⟨#[]⟩, ⟨#[]⟩, text⟩]) w' := by
  have H := Lib.hid (add_any c v L ⟨var, key, ⟨#[]⟩, ⟨#[]⟩, text⟩ w h hfew)
  obtain ⟨m, hm⟩ : ∃ m, m = L.length + 1 := ⟨_, rfl⟩
  have HF : ∀ w, Calls Try.prog 117 #[.int .u64 (m : Nat), .int .i64 (sizeOf var)] w fun e w' => e = .returned (.string (freshTag m var)) ∧ Below w.heap.size w w' := by
    intro w
    have hs := sizeOf_le var
    have := fresh_any m (sizeOf var).toNat w (by omega) (by omega)
    rwa [show (((sizeOf var).toNat : Nat) : Int) = sizeOf var from Int.toNat_of_nonneg hs.1] at this
  have HF := Lib.hid HF
  have HS := Lib.hid (psize var)
  rw [← hm] at H ⊢
  clear h hm hfew
  go_enter Try.func115, Try.ntmps115
  go_wp2_with fail
  refine H.out.mono ?_
  rintro e w1 ⟨rfl, ha⟩
  have HA := Lib.hid ha; clear ha
  go_wp2_with fail
  refine (HS.out _).mono ?_
  rintro e w2 ⟨rfl, hw⟩
  rw [hw]
  clear hw
  go_wp2_with fail
  refine (HF.out _).mono ?_
  rintro e w3 ⟨rfl, hb⟩
  have HA2 := Lib.hid (HA.out.next hb); clear hb
  go_wp2
  go_ret
  exact ⟨rfl, HA2.out⟩

set_option maxHeartbeats 1000000 in
theorem seal_any (c : Nat) (v : Value) (L : List Ent) (var : Int) (key nonce beside text : ByteArray) (w : World) (h : Cor w c v L) (hfew : L.length ≤ 1000) (ht : text.size ≤ 1073741824) :
    Calls Try.prog 114 #[.pointer (some ⟨c, 0, none⟩), .int .i64 var, .string key, .string nonce, .string beside, .string text] w fun e w' => e = .returned (.tuple #[.string (toE (freshL (L.length + 1) text.size)), .string (freshTag (L.length + 1) var), .int .i64 0]) ∧ After w c v (L ++ [⟨var, key, nonce, beside, text⟩]) w' := by
  have H := Lib.hid (add_any c v L ⟨var, key, nonce, beside, text⟩ w h hfew)
  obtain ⟨m, hm⟩ : ∃ m, m = L.length + 1 := ⟨_, rfl⟩
  have HF : ∀ w, Calls Try.prog 117 #[.int .u64 (m : Nat), .int .i64 (sizeOf var)] w fun e w' => e = .returned (.string (freshTag m var)) ∧ Below w.heap.size w w' := by
    intro w
    have hs := sizeOf_le var
    have := fresh_any m (sizeOf var).toNat w (by omega) (by omega)
    rwa [show (((sizeOf var).toNat : Nat) : Int) = sizeOf var from Int.toNat_of_nonneg hs.1] at this
  have HF := Lib.hid HF
  have HT := Lib.hid (fun w => fresh_any m text.size w (by omega) ht)
  have HS := Lib.hid (psize var)
  rw [← hm] at H ⊢
  obtain ⟨T, hT⟩ : ∃ T, T = toE (freshL m text.size) := ⟨_, rfl⟩
  rw [← hT] at HT ⊢
  clear h hm hfew ht hT
  go_enter Try.func114, Try.ntmps114
  go_wp2_with fail
  refine H.out.mono ?_
  rintro e w1 ⟨rfl, ha⟩
  have HA := Lib.hid ha; clear ha
  go_wp2_with fail
  refine (HT.out _).mono ?_
  rintro e w2 ⟨rfl, hb⟩
  have HA1 := Lib.hid (HA.out.next hb); clear hb
  go_wp2_with fail
  refine (HS.out _).mono ?_
  rintro e w2 ⟨rfl, hw⟩
  rw [hw]
  clear hw
  go_wp2_with fail
  refine (HF.out _).mono ?_
  rintro e w3 ⟨rfl, hb⟩
  have HA2 := Lib.hid (HA1.out.next hb); clear hb
  go_wp2
  exact bodyPost_ret (results_tmp3 rfl _ _ _) rfl ⟨rfl, HA2.out⟩

set_option maxHeartbeats 1000000 in
theorem holds_any (c : Nat) (v : Value) (L : List Ent) (var : Int) (key text tag : ByteArray) (w : World) (h : Cor w c v L) (hfew : L.length ≤ 1000) (r : Bool) (hr : r = decide (hit L tag = some ⟨var, key, ⟨#[]⟩, ⟨#[]⟩, text⟩)) :
    Calls Try.prog 112 #[.pointer (some ⟨c, 0, none⟩), .int .i64 var, .string key, .string text, .string tag] w fun e w' => e = .returned (.bool r) ∧ Below w.heap.size w w' := by
  rcases hit_cases L tag with ⟨h1, h2⟩ | ⟨n, m, x, h1, h2, h3, h4⟩
  · have H := Lib.hid (tagged_out c v L tag w h hfew h1)
    unfold noEnt at H
    have hr0 : r = false := by rw [hr, h2]; rfl
    subst hr0
    clear h1 h2 hr h
    go_enter Try.func112, Try.ntmps112
    go_wp2_with fail
    refine H.out.mono ?_
    rintro e w1 ⟨rfl, hb⟩
    have HB := Lib.hid hb; clear hb
    go_wp2
    go_ret
    exact ⟨rfl, HB.out.alloc HB.out.size _⟩
  · by_cases ht : tag = freshTag m x.variant
    · have H := Lib.hid (tagged_in c v L tag w h hfew n m x h1 h2 h3 true (by simp [ht]))
      rw [if_pos ht] at h4
      have hr2 : r = decide (x = ⟨var, key, ⟨#[]⟩, ⟨#[]⟩, text⟩) := by rw [hr, h4]; simp
      have E := fun X => eql_run x ⟨var, key, ⟨#[]⟩, ⟨#[]⟩, text⟩ X
      rw [← hr2] at E
      clear h1 h2 h3 h4 hr hr2 h ht
      go_enter Try.func112, Try.ntmps112
      go_wp2_with fail
      refine H.out.mono ?_
      rintro e w1 ⟨rfl, hb⟩
      have HB := Lib.hid hb; clear hb
      go_wp2
      go_ret
      exact ⟨rfl, HB.out.alloc HB.out.size _⟩
    · have H := Lib.hid (tagged_in c v L tag w h hfew n m x h1 h2 h3 false (by simp [ht]))
      rw [if_neg ht] at h4
      have hr0 : r = false := by rw [hr, h4]; rfl
      subst hr0
      clear h1 h2 h3 h4 hr h ht
      go_enter Try.func112, Try.ntmps112
      go_wp2_with fail
      refine H.out.mono ?_
      rintro e w1 ⟨rfl, hb⟩
      have HB := Lib.hid hb; clear hb
      go_wp2
      go_ret
      exact ⟨rfl, HB.out.alloc HB.out.size _⟩
end Eng
end Go.Proofs.Ytedoggejbhbebaa
