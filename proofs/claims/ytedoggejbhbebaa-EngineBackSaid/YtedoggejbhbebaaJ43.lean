/-
  Joined: Ll, Kw. Conditions: as each part says.
-/
import Derived.Test.YtedoggejbhbebaaJ13
import Derived.Test.YtedoggejbhbebaaJ42
import Derived.Test.YtedoggejbhbebaaJ18
import Derived.Test.YtedoggejbhbebaaRows
import Derived.ProofKit
import Derived.Stop.Joined
import Derived.ChangeMaps5

/-
  EngineBack returns true for either engine, whatever the table of round constants holds. Conditions: the table lies in memory with eighty words.
-/
namespace Go.Proofs.Ytedoggejbhbebaa
namespace Eng
open Go.ChangeShapes Go.WideShapes Go.ChangeAt Go.RowKit Go.Great
set_option linter.unusedVariables false
set_option maxRecDepth 100000
variable {KQ : Dg.KTab}

theorem not_both {v : Int} {key nonce : ByteArray} (h : SignsP v key) : ¬ SealsP v key nonce := by
  rintro ⟨⟨rfl, -⟩ | ⟨rfl, -⟩, -⟩ <;> (obtain ⟨⟨h1, h2⟩, -⟩ := h; omega)
theorem signs_k : SignsP 5 ⟨#[107]⟩ := ⟨by omega, by decide, by decide⟩

/-- By five stages. -/
def stages {α : Type} (a b c d e f : α) : Nat → α
  | 0 => a
  | 1 => b
  | 2 => c
  | 3 => d
  | 4 => e
  | _ => f

section ideal
variable (W : World) (o : Call) (other : ByteArray)
/-- An ideal engine, stage by stage. -/
def MI (L : Nat → List Ent) (i : Nat) (g : Nat) (X : World) : Prop := ∃ c, St W g c (L i) X
theorem mi_sign {L : Nat → List Ent} {i j : Nat} {n : Nat} {v : Int} {key text : ByteArray} (hn : (L i).length = n) (hL : L j = L i ++ [⟨v, key, ⟨#[]⟩, ⟨#[]⟩, text⟩]) (hf : n ≤ 1000) (hs : SignsP v key) (g : Nat) (X : World) (h : MI W L i g X) :
    Calls Try.prog 15 #[.pointer (some ⟨g, 0, none⟩), .int .i64 v, .string key, .string text] X fun r w' => r = .returned (.tuple #[.string (freshTag (n + 1) v), .int .i64 0]) ∧ MI W L j g w' := by
  obtain ⟨c, h⟩ := h
  have := ssign W X g c (L i) v key text h (by omega) hs
  rw [hn, ← hL] at this
  exact this.mono fun e w' ⟨h1, h2⟩ => ⟨h1, c, h2⟩
theorem mi_sign_no {L : Nat → List Ent} {i j : Nat} {v : Int} {key text : ByteArray} (hL : L j = L i) (hs : ¬ SignsP v key) (g : Nat) (X : World) (h : MI W L i g X) :
    Calls Try.prog 15 #[.pointer (some ⟨g, 0, none⟩), .int .i64 v, .string key, .string text] X fun r w' => r = .returned (.tuple #[.string ⟨#[]⟩, .int .i64 1]) ∧ MI W L j g w' := by
  obtain ⟨c, h⟩ := h
  have := ssign_no W X g c (L i) v key text h hs
  rw [← hL] at this
  exact this.mono fun e w' ⟨h1, h2⟩ => ⟨h1, c, h2⟩
theorem mi_seal {L : Nat → List Ent} {i j : Nat} {n : Nat} {v : Int} {key nonce beside text : ByteArray} (hn : (L i).length = n) (hL : L j = L i ++ [⟨v, key, nonce, beside, text⟩]) (hf : n ≤ 1000) (ht : text.size ≤ 1073741824) (hs : SealsP v key nonce) (g : Nat) (X : World) (h : MI W L i g X) :
    Calls Try.prog 16 #[.pointer (some ⟨g, 0, none⟩), .int .i64 v, .string key, .string nonce, .string beside, .string text] X fun r w' => r = .returned (.tuple #[.string (toE (freshL (n + 1) text.size)), .string (freshTag (n + 1) v), .int .i64 0]) ∧ MI W L j g w' := by
  obtain ⟨c, h⟩ := h
  have := sseal W X g c (L i) v key nonce beside text h (by omega) ht hs
  rw [hn, ← hL] at this
  exact this.mono fun e w' ⟨h1, h2⟩ => ⟨h1, c, h2⟩
theorem mi_seal_no {L : Nat → List Ent} {i j : Nat} {v : Int} {key nonce beside text : ByteArray} (hL : L j = L i) (hs : ¬ SealsP v key nonce) (g : Nat) (X : World) (h : MI W L i g X) :
    Calls Try.prog 16 #[.pointer (some ⟨g, 0, none⟩), .int .i64 v, .string key, .string nonce, .string beside, .string text] X fun r w' => r = .returned (.tuple #[.string ⟨#[]⟩, .string ⟨#[]⟩, .int .i64 1]) ∧ MI W L j g w' := by
  obtain ⟨c, h⟩ := h
  have := sseal_no W X g c (L i) v key nonce beside text h hs
  rw [← hL] at this
  exact this.mono fun e w' ⟨h1, h2⟩ => ⟨h1, c, h2⟩
theorem mi_below {L : Nat → List Ent} : ∀ i g X, MI W L i g X → Below W.heap.size W X := fun i g X ⟨c, h⟩ => h.below
theorem mi_make {L : Nat → List Ent} (hL : L 0 = []) : ∀ X, Below W.heap.size W X → Calls Try.prog 14 #[] X fun e w' => ∃ g, e = .returned (.pointer (some ⟨g, 0, none⟩)) ∧ MI W L 0 g w' := by
  intro X hX
  refine (sideal W X hX).mono ?_
  rintro e w' ⟨g, c, h1, h2⟩
  exact ⟨g, h1, c, by rw [hL]; exact h2⟩

theorem back_ideal (o : Call) (other : ByteArray) (w : World) (hfw : FewP (fun _ => o) 1 1) (h100 : other.size ≤ 100) : Calls Try.prog 4 #[.bool true, .agg #[.int .u8 o.kind, .int .i64 o.variant, .string o.key, .string o.nonce, .string o.beside, .string o.text, .string o.tag, .int .u8 o.back], .string other] w fun e w' => e = .returned (.bool true) ∧ Below w.heap.size w w' := by
  have hsm : Small o := hfw.1 0 (by omega) (by omega)
  have hst : o.text.size ≤ 1073741824 := by have := hsm.2.2.2.1; omega
  have hot : other.size ≤ 1073741824 := by omega
  by_cases hs : SignsP o.variant o.key
  · have hl : ¬ SealsP o.variant o.key o.nonce := not_both hs
    obtain ⟨L, hL⟩ : ∃ L : Nat → List Ent, L = stages [] [⟨5, ⟨#[107]⟩, ⟨#[]⟩, ⟨#[]⟩, other⟩] [⟨5, ⟨#[107]⟩, ⟨#[]⟩, ⟨#[]⟩, other⟩, ⟨o.variant, o.key, ⟨#[]⟩, ⟨#[]⟩, o.text⟩] [⟨5, ⟨#[107]⟩, ⟨#[]⟩, ⟨#[]⟩, other⟩, ⟨o.variant, o.key, ⟨#[]⟩, ⟨#[]⟩, o.text⟩] [⟨5, ⟨#[107]⟩, ⟨#[]⟩, ⟨#[]⟩, other⟩, ⟨o.variant, o.key, ⟨#[]⟩, ⟨#[]⟩, o.text⟩, ⟨o.variant, o.key, ⟨#[]⟩, ⟨#[]⟩, other⟩] [⟨5, ⟨#[107]⟩, ⟨#[]⟩, ⟨#[]⟩, other⟩, ⟨o.variant, o.key, ⟨#[]⟩, ⟨#[]⟩, o.text⟩, ⟨o.variant, o.key, ⟨#[]⟩, ⟨#[]⟩, other⟩] := ⟨_, rfl⟩
    refine back_ideal_sign o other w hfw h100 (MI _ L) (freshTag 1 5) (freshTag 2 o.variant) (freshTag 3 o.variant) ⟨#[]⟩ ⟨#[]⟩ ⟨#[]⟩ ⟨#[]⟩ ⟨mi_below _, mi_sign _ (n := 0) (by rw [hL]; rfl) (by rw [hL]; rfl) (by omega) signs_k, mi_sign _ (n := 1) (by rw [hL]; rfl) (by rw [hL]; rfl) (by omega) hs, mi_seal_no _ (by rw [hL]; rfl) hl, mi_sign _ (n := 2) (by rw [hL]; rfl) (by rw [hL]; rfl) (by omega) hs, mi_seal_no _ (by rw [hL]; rfl) hl⟩ (mi_make _ (by rw [hL]; rfl)) hs hl ?_
    rintro g X ⟨c, h⟩
    have h5 : L 5 = [⟨5, ⟨#[107]⟩, ⟨#[]⟩, ⟨#[]⟩, other⟩] ++ ⟨o.variant, o.key, ⟨#[]⟩, ⟨#[]⟩, o.text⟩ :: [⟨o.variant, o.key, ⟨#[]⟩, ⟨#[]⟩, other⟩] := by rw [hL]; rfl
    refine (sholds _ X g c (L 5) o.variant o.key o.text (freshTag 2 o.variant) h (by rw [h5]; simp) hs true ?_).mono fun e w' ⟨h1, h2⟩ => ⟨h1, c, h2⟩
    have hh := hit_new [⟨5, ⟨#[107]⟩, ⟨#[]⟩, ⟨#[]⟩, other⟩] [⟨o.variant, o.key, ⟨#[]⟩, ⟨#[]⟩, other⟩] ⟨o.variant, o.key, ⟨#[]⟩, ⟨#[]⟩, o.text⟩ (by simp) (size_signs hs)
    rw [← h5] at hh
    exact (decide_eq_true hh).symm
  · by_cases hl : SealsP o.variant o.key o.nonce
    · obtain ⟨L, hL⟩ : ∃ L : Nat → List Ent, L = stages [] [⟨5, ⟨#[107]⟩, ⟨#[]⟩, ⟨#[]⟩, other⟩] [⟨5, ⟨#[107]⟩, ⟨#[]⟩, ⟨#[]⟩, other⟩] [⟨5, ⟨#[107]⟩, ⟨#[]⟩, ⟨#[]⟩, other⟩, ⟨o.variant, o.key, o.nonce, o.beside, o.text⟩] [⟨5, ⟨#[107]⟩, ⟨#[]⟩, ⟨#[]⟩, other⟩, ⟨o.variant, o.key, o.nonce, o.beside, o.text⟩] [⟨5, ⟨#[107]⟩, ⟨#[]⟩, ⟨#[]⟩, other⟩, ⟨o.variant, o.key, o.nonce, o.beside, o.text⟩, ⟨o.variant, o.key, o.nonce, o.beside, other⟩] := ⟨_, rfl⟩
      refine back_ideal_seal o other w hfw h100 (MI _ L) (freshTag 1 5) ⟨#[]⟩ ⟨#[]⟩ (toE (freshL 2 o.text.size)) (freshTag 2 o.variant) (toE (freshL 3 other.size)) (freshTag 3 o.variant) ⟨mi_below _, mi_sign _ (n := 0) (by rw [hL]; rfl) (by rw [hL]; rfl) (by omega) signs_k, mi_sign_no _ (by rw [hL]; rfl) hs, mi_seal _ (n := 1) (by rw [hL]; rfl) (by rw [hL]; rfl) (by omega) hst hl, mi_sign_no _ (by rw [hL]; rfl) hs, mi_seal _ (n := 2) (by rw [hL]; rfl) (by rw [hL]; rfl) (by omega) hot hl⟩ (mi_make _ (by rw [hL]; rfl)) hs hl ?_ (by rw [toE_size, freshL_length])
      rintro g X ⟨c, h⟩
      have h5 : L 5 = [⟨5, ⟨#[107]⟩, ⟨#[]⟩, ⟨#[]⟩, other⟩] ++ ⟨o.variant, o.key, o.nonce, o.beside, o.text⟩ :: [⟨o.variant, o.key, o.nonce, o.beside, other⟩] := by rw [hL]; rfl
      have hh := hit_new [⟨5, ⟨#[107]⟩, ⟨#[]⟩, ⟨#[]⟩, other⟩] [⟨o.variant, o.key, o.nonce, o.beside, other⟩] ⟨o.variant, o.key, o.nonce, o.beside, o.text⟩ (by simp) (size_seals hl)
      rw [← h5] at hh
      refine (sopen _ X g c (L 5) o.variant o.key o.nonce o.beside (toE (freshL 2 o.text.size)) (freshTag 2 o.variant) h (by rw [h5]; simp) ?_ hl (some o.text) ?_).mono fun e w' ⟨h1, h2⟩ => ⟨h1, c, h2⟩
      · intro x hx
        rw [h5] at hx
        simp only [List.cons_append, List.nil_append, List.mem_cons, List.not_mem_nil, or_false] at hx
        rcases hx with rfl | rfl | rfl
        · exact hot
        · exact hst
        · exact hot
      · unfold openOf
        have hn2 : numOf (freshTag 2 o.variant) = 2 := freshTag_num 2 _ (by decide) (size_seals hl)
        rw [show hit (L 5) (freshTag 2 o.variant) = _ from hh]
        simp only [hn2]
        rw [if_pos ⟨trivial, trivial⟩]
    · obtain ⟨L, hL⟩ : ∃ L : Nat → List Ent, L = stages [] [⟨5, ⟨#[107]⟩, ⟨#[]⟩, ⟨#[]⟩, other⟩] [⟨5, ⟨#[107]⟩, ⟨#[]⟩, ⟨#[]⟩, other⟩] [⟨5, ⟨#[107]⟩, ⟨#[]⟩, ⟨#[]⟩, other⟩] [⟨5, ⟨#[107]⟩, ⟨#[]⟩, ⟨#[]⟩, other⟩] [⟨5, ⟨#[107]⟩, ⟨#[]⟩, ⟨#[]⟩, other⟩] := ⟨_, rfl⟩
      exact back_ideal_none o other w hfw h100 (MI _ L) (freshTag 1 5) ⟨#[]⟩ ⟨#[]⟩ ⟨#[]⟩ ⟨#[]⟩ ⟨#[]⟩ ⟨#[]⟩ ⟨mi_below _, mi_sign _ (n := 0) (by rw [hL]; rfl) (by rw [hL]; rfl) (by omega) signs_k, mi_sign_no _ (by rw [hL]; rfl) hs, mi_seal_no _ (by rw [hL]; rfl) hl, mi_sign_no _ (by rw [hL]; rfl) hs, mi_seal_no _ (by rw [hL]; rfl) hl⟩ (mi_make _ (by rw [hL]; rfl)) hs hl
end ideal

theorem mr_make (W : World) (hK : Dg.Kon KQ W) : ∀ X, Below W.heap.size W X → Calls Try.prog 11 #[] X fun e w' => ∃ g, e = .returned (.pointer (some ⟨g, 0, none⟩)) ∧ Re KQ W g w' := by
  intro X hX
  refine (real_any X).mono ?_
  rintro e w' ⟨g, h1, h2, h3, h4, h5⟩
  exact ⟨g, h1, h2, (hK.next hX).next h5, Aes.below_link hX h5⟩

theorem back_real (o : Call) (other : ByteArray) (w : World) (hK : Dg.Kon KQ w) (hfw : FewP (fun _ => o) 1 1) (h100 : other.size ≤ 100) : Calls Try.prog 4 #[.bool false, .agg #[.int .u8 o.kind, .int .i64 o.variant, .string o.key, .string o.nonce, .string o.beside, .string o.text, .string o.tag, .int .u8 o.back], .string other] w fun e w' => e = .returned (.bool true) ∧ Below w.heap.size w w' := by
  have hsm : Small o := hfw.1 0 (by omega) (by omega)
  have hst : o.text.size ≤ 1048576 := by have := hsm.2.2.2.1; omega
  have hsb : o.beside.size ≤ 1048576 := by have := hsm.2.2.1; omega
  have hot : other.size ≤ 1048576 := by omega
  have hK0 := hK.alloc (.cells #[.int .u8 o.kind, .int .i64 o.variant, .string o.key, .string o.nonce, .string o.beside, .string o.text, .string o.tag, .int .u8 o.back] 29)
  have no1 : ∀ (v : Int) (key text : ByteArray) (hs : ¬ SignsP v key) (g : Nat) (X : World), Re KQ (w.alloc (.cells #[.int .u8 o.kind, .int .i64 o.variant, .string o.key, .string o.nonce, .string o.beside, .string o.text, .string o.tag, .int .u8 o.back] 29)) g X → Calls Try.prog 15 #[.pointer (some ⟨g, 0, none⟩), .int .i64 v, .string key, .string text] X fun r w' => r = .returned (.tuple #[.string ⟨#[]⟩, .int .i64 1]) ∧ Re KQ (w.alloc (.cells #[.int .u8 o.kind, .int .i64 o.variant, .string o.key, .string o.nonce, .string o.beside, .string o.text, .string o.tag, .int .u8 o.back] 29)) g w' := by
    intro v key text hs g X h
    refine (esign_no g v key text X hs).mono ?_
    rintro e w' ⟨h1, rfl⟩
    exact ⟨h1, h⟩
  have no2 : ∀ (v : Int) (key nonce beside text : ByteArray) (hs : ¬ SealsP v key nonce) (g : Nat) (X : World), Re KQ (w.alloc (.cells #[.int .u8 o.kind, .int .i64 o.variant, .string o.key, .string o.nonce, .string o.beside, .string o.text, .string o.tag, .int .u8 o.back] 29)) g X → Calls Try.prog 16 #[.pointer (some ⟨g, 0, none⟩), .int .i64 v, .string key, .string nonce, .string beside, .string text] X fun r w' => r = .returned (.tuple #[.string ⟨#[]⟩, .string ⟨#[]⟩, .int .i64 1]) ∧ Re KQ (w.alloc (.cells #[.int .u8 o.kind, .int .i64 o.variant, .string o.key, .string o.nonce, .string o.beside, .string o.text, .string o.tag, .int .u8 o.back] 29)) g w' := by
    intro v key nonce beside text hs g X h
    refine (eseal_no g v key nonce beside text X hs).mono ?_
    rintro e w' ⟨h1, rfl⟩
    exact ⟨h1, h⟩
  by_cases hs : SignsP o.variant o.key
  · have hl : ¬ SealsP o.variant o.key o.nonce := not_both hs
    exact back_real_sign o other w hfw h100 (fun _ g X => Re KQ _ g X) _ _ _ ⟨#[]⟩ ⟨#[]⟩ ⟨#[]⟩ ⟨#[]⟩ ⟨fun _ _ _ h => h.below, fun g X h => resign _ X g 5 _ other h signs_k hot, fun g X h => resign _ X g _ _ _ h hs hst, fun g X h => no2 _ _ _ _ _ hl g X h, fun g X h => resign _ X g _ _ _ h hs hot, fun g X h => no2 _ _ _ _ _ hl g X h⟩ (mr_make _ hK0) hs hl (fun g X h => reholds _ X g _ _ _ h hs hst)
  · by_cases hl : SealsP o.variant o.key o.nonce
    · exact back_real_seal o other w hfw h100 (fun _ g X => Re KQ _ g X) _ ⟨#[]⟩ ⟨#[]⟩ _ _ _ _ ⟨fun _ _ _ h => h.below, fun g X h => resign _ X g 5 _ other h signs_k hot, fun g X h => no1 _ _ _ hs g X h, fun g X h => reseal _ X g _ _ _ _ _ h hl hsb hst, fun g X h => no1 _ _ _ hs g X h, fun g X h => reseal _ X g _ _ _ _ _ h hl hsb hot⟩ (mr_make _ hK0) hs hl (fun g X h => reopen _ X g _ _ _ _ _ h hl hsb hst) (Gcm.turnB_size _ _ _ _)
    · exact back_real_none o other w hfw h100 (fun _ g X => Re KQ _ g X) _ ⟨#[]⟩ ⟨#[]⟩ ⟨#[]⟩ ⟨#[]⟩ ⟨#[]⟩ ⟨#[]⟩ ⟨fun _ _ _ h => h.below, fun g X h => resign _ X g 5 _ other h signs_k hot, fun g X h => no1 _ _ _ hs g X h, fun g X h => no2 _ _ _ _ _ hl g X h, fun g X h => no1 _ _ _ hs g X h, fun g X h => no2 _ _ _ _ _ hl g X h⟩ (mr_make _ hK0) hs hl

theorem back_all (ideal : Bool) (o : Call) (other : ByteArray) (w : World) (hK : Dg.Kon KQ w) : Calls Try.prog 4 #[.bool ideal, .agg #[.int .u8 o.kind, .int .i64 o.variant, .string o.key, .string o.nonce, .string o.beside, .string o.text, .string o.tag, .int .u8 o.back], .string other] w fun e w' => e = .returned (.bool true) ∧ Below w.heap.size w w' := by
  by_cases hfw : FewP (fun _ => o) 1 1
  · by_cases h100 : other.size ≤ 100
    · cases ideal
      · exact back_real o other w hK hfw h100
      · exact back_ideal o other w hfw h100
    · exact back_long ideal o other w hfw (by omega)
  · exact back_few ideal o other w hfw
end Eng
end Go.Proofs.Ytedoggejbhbebaa

/-
  The table of round constants, whatever it holds, is eighty words: out of the shape of the memory in which a call begins. And a law's lifting that hands on that shape. Conditions: none.
-/
namespace Go.Proofs.Ytedoggejbhbebaa
namespace Eng
open Go.ChangeShapes Go.WideShapes Go.ChangeAt Go.RowKit Go.ChangeMaps
set_option linter.unusedVariables false
set_option maxRecDepth 100000

theorem glob_row : (((begin Try.prog (fun _ _ => 0) default).world.heap[0]?).bind Obj.row?).map (fun x => (x.1.size, x.2)) = some (80, 147) := by kernel_rfl
theorem glob_types : Try.prog.cellTypes Try.prog.depth 147 = some (List.replicate 80 80) := by kernel_rfl
theorem glob_builds : Try.prog.buildable 147 = true := by kernel_rfl
theorem glob_some : 0 < Try.prog.globals.size := of_decide_eq_true (by kernel_rfl)

theorem kon_of_shaped {W : World} (h : W.ShapedOpen Try.prog) : ∃ KQ : Dg.KTab, Dg.Kon KQ W := by
  obtain ⟨⟨zero, t⟩, hz, he⟩ : ∃ x, ((begin Try.prog (fun _ _ => 0) default).world.heap[0]?).bind Obj.row? = some x ∧ (x.1.size, x.2) = (80, 147) := by
    have hg := glob_row
    cases hx : ((begin Try.prog (fun _ _ => 0) default).world.heap[0]?).bind Obj.row? with
    | none => rw [hx] at hg; cases hg
    | some x => rw [hx] at hg; exact ⟨x, rfl, by simpa using hg⟩
  simp only [Prod.mk.injEq] at he
  obtain ⟨hzs, rfl⟩ := he
  obtain ⟨cs, hcs, hsz, hok⟩ := h.1 0 zero 147 glob_some hz
  obtain ⟨ts, hts, -, hcell⟩ := hok glob_builds
  rw [glob_types] at hts
  injection hts with hts
  have hs80 : cs.size = 80 := hsz.trans hzs
  have hval : ∀ (i : Nat) (v : Value), cs[i]? = some v → ∃ n : Nat, v = .int .u64 (n : Int) ∧ n < 18446744073709551616 := by
    intro i v hv
    obtain ⟨u, hu, hc⟩ := hcell i v hv
    rw [← hts, List.length_replicate, List.getElem?_replicate, if_pos (Nat.mod_lt _ (by decide))] at hu
    injection hu with hu
    subst hu
    unfold Cell.ok at hc
    rw [Try.underlying80] at hc
    cases v <;> simp only at hc
    obtain ⟨rfl, hn⟩ := hc
    rename_i n
    have hn' : 0 ≤ n ∧ n ≤ 18446744073709551615 := by simpa [IntKind.has, IntKind.min, IntKind.max, IntKind.signed, IntKind.bits] using hn
    exact ⟨n.toNat, by rw [Int.toNat_of_nonneg hn'.1], by omega⟩
  have hlen : (cs.toList.map fun v => (intOf v).toNat).length = 80 := by simp [hs80]
  have hlt : ∀ k ∈ (cs.toList.map fun v => (intOf v).toNat), k < 18446744073709551616 := by
    intro k hk
    obtain ⟨v, hv, rfl⟩ := List.mem_map.1 hk
    obtain ⟨i, hi, rfl⟩ := List.mem_iff_getElem.1 hv
    obtain ⟨n, e, hn⟩ := hval i cs[i] (by simp)
    simp only [Array.getElem_toList, e, intOf, Int.toNat_natCast]
    exact hn
  refine ⟨⟨cs.toList.map fun v => (intOf v).toNat, hlen, hlt⟩, 147, (0, 0), ?_⟩
  rw [hcs]
  congr 2
  apply Array.ext_getElem?
  intro i
  by_cases hi : i < cs.size
  · obtain ⟨n, e, hn⟩ := hval i cs[i] (by simp [hi])
    have hk : (cs.toList.map fun v => (intOf v).toNat)[i]? = some n := by
      rw [List.getElem?_map, Array.getElem?_toList, Array.getElem?_eq_getElem hi, e]
      simp [intOf]
    rw [Dg.valsK_get _ _ _ _ hk, Array.getElem?_eq_getElem hi, e]
  · rw [Array.getElem?_eq_none (by omega), Array.getElem?_eq_none (by rw [Dg.valsK_size, hlen]; omega)]

/-- A law's lifting, with the shape of the memory in which the call begins. -/
theorem handed_shaped {H : Type} {enc : TypeId × Value → H} {a : Assume} {C : Checked} {os : Os} {f : FuncId} {fn : Func} {s : ChangeSpec} {conds : List PathCond} {apart fresh handsOn again : Bool}
    (own : ownKnob C.prog.godebug = none) (started : os.Started) (noInit : C.prog.inits.idxOf? f = none) (hfn : C.prog.funcs[f]? = some fn)
    (witness : ∃ (w : World) (tape : Tape) (i : Input), w.os = os ∧ (w.forCall tape i).Shaped C.prog ∧ i.vars = [] ∧ Input.okWide C.prog (w.forCall tape i) .any w.heap.size f i ∧
      s.pre6 enc C.prog fn conds apart (w.forCall tape i).memory i.args ∧ a.holds C.prog (lone (Frame.enter C.prog f i.args .normal) [] (w.forCall tape i)))
    (contract : ∀ (W : World) (base : Nat) (args : Array Value) (ds gs : List (DataW H)) (before : List MemPlace),
      (∀ (j : Nat) t v, fn.params[j]? = some t → args[j]? = some v → Value.okWide C.prog W .any base t v) →
      DataW.Whole enc C.prog fn.params.toList s.vars apart W args.toList ds gs before → W.ShapedOpen C.prog →
      Calls C.prog f args W fun e W' => ∃ v, e = .returned v ∧ s.post enc C.prog fn apart fresh handsOn again W args v W') :
    ReturnsInHanded a C os f .any (s.pre6 enc C.prog fn conds apart) (s.post enc C.prog fn apart fresh handsOn again) := by
  refine returnsInHanded_of_calls own started noInit witness ?_
  intro w tape i _ hsh _ hok hpre _
  obtain ⟨_, _, _, fn', hfn', _, _, _, _, hval⟩ := hok
  obtain rfl : fn' = fn := Option.some.inj (hfn'.symm.trans hfn)
  obtain ⟨⟨ds, gs, before, hw, _⟩, _⟩ := hpre
  refine (contract (w.forCall tape i) w.heap.size i.args ds gs before hval (DataW.Whole.of_heap (w' := w.forCall tape i) (by rfl) hw) hsh).mono ?_
  rintro e W' ⟨v, rfl, hp⟩
  exact ChangeSpec.post_blind hp
end Eng
end Go.Proofs.Ytedoggejbhbebaa
