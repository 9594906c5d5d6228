/-
  What Seal and Open answer, program and reference alike; the walk of GcmSeals. Conditions: the texts are shorter than 2^20 bytes.
-/
import Derived.Test.YtpjobjpdfhpobaaLa
namespace Go.Proofs.Ytpjobjpdfhpobaa
namespace Gcm
open Go.ChangeShapes Go.WideShapes Go.ChangeAt Go.RowKit Go.Great Go.ChangeMaps
open Gf Aes
set_option linter.unusedVariables false
set_option maxRecDepth 100000

/-- The key and the nonce are permitted. -/
def Fit (key nonce : ByteArray) : Prop := (key.size = 16 ∨ key.size = 32) ∧ 8 ≤ nonce.size ∧ nonce.size ≤ 16
instance (key nonce : ByteArray) : Decidable (Fit key nonce) := by unfold Fit; exact inferInstance

def noB : ByteArray := ⟨#[]⟩
def sealS (key nonce s t : ByteArray) : ByteArray := if Fit key nonce then turnB (key.size / 4) key nonce t else noB
def sealT (key nonce s t : ByteArray) : ByteArray := if Fit key nonce then tagB (key.size / 4) key nonce s (turnB (key.size / 4) key nonce t) else noB
def sealE (key nonce : ByteArray) : Nat := if Fit key nonce then 0 else 1
def openS (key nonce s t g : ByteArray) : ByteArray := if Fit key nonce then (if g = tagB (key.size / 4) key nonce s t then turnB (key.size / 4) key nonce t else noB) else noB
def openE (key nonce s t g : ByteArray) : Nat := if Fit key nonce then (if g = tagB (key.size / 4) key nonce s t then 0 else 7) else 1

theorem fit_four {key nonce : ByteArray} (h : Fit key nonce) : (key.size / 4 = 4 ∨ key.size / 4 = 8) ∧ key.size = 4 * (key.size / 4) := by
  rcases h.1 with h | h <;> rw [h] <;> decide

theorem seal_all (key nonce s t : ByteArray) (w : World) (hs : s.size ≤ 1048576) (ht : t.size ≤ 1048576) :
    Calls Try.prog 20 #[.string key, .string nonce, .string s, .string t] w fun e w' => e = .returned (.tuple #[.string (sealS key nonce s t), .string (sealT key nonce s t), .int .i64 (sealE key nonce : Nat)]) ∧ Below w.heap.size w w' := by
  by_cases h : Fit key nonce
  · unfold sealS sealT sealE
    rw [if_pos h, if_pos h, if_pos h]
    exact seal_ok (key.size / 4) key nonce s t w (fit_four h).1 (fit_four h).2 h.2.1 h.2.2 (by omega) (by omega)
  · unfold sealS sealT sealE
    rw [if_neg h, if_neg h, if_neg h]
    exact seal_none key nonce s t w (by unfold Fit at h; omega)
theorem rseal_all (key nonce s t : ByteArray) (w : World) (hs : s.size ≤ 1048576) (ht : t.size ≤ 1048576) :
    Calls Try.prog 21 #[.string key, .string nonce, .string s, .string t] w fun e w' => e = .returned (.tuple #[.string (sealS key nonce s t), .string (sealT key nonce s t), .int .i64 (sealE key nonce : Nat)]) ∧ Below w.heap.size w w' := by
  by_cases h : Fit key nonce
  · unfold sealS sealT sealE
    rw [if_pos h, if_pos h, if_pos h]
    exact rseal_ok (key.size / 4) key nonce s t w (fit_four h).1 (fit_four h).2 h.2.1 h.2.2 hs ht
  · unfold sealS sealT sealE
    rw [if_neg h, if_neg h, if_neg h]
    exact rseal_none key nonce s t w h
theorem openV_eq {key nonce s t g : ByteArray} (h : Fit key nonce) : openV (key.size / 4) key nonce s t g = .tuple #[.string (openS key nonce s t g), .int .i64 (openE key nonce s t g : Nat)] := by
  unfold openV openS openE
  rw [if_pos h, if_pos h]
  by_cases e : g = tagB (key.size / 4) key nonce s t
  · rw [if_pos e, if_pos e, if_pos e]; rfl
  · rw [if_neg e, if_neg e, if_neg e]; rfl
theorem open_all (key nonce s t g : ByteArray) (w : World) (hs : s.size ≤ 1048576) (ht : t.size ≤ 1048576) (hg : g.size ≤ 1048576) :
    Calls Try.prog 22 #[.string key, .string nonce, .string s, .string t, .string g] w fun e w' => e = .returned (.tuple #[.string (openS key nonce s t g), .int .i64 (openE key nonce s t g : Nat)]) ∧ Below w.heap.size w w' := by
  by_cases h : Fit key nonce
  · rw [← openV_eq h]
    exact open_ok (key.size / 4) key nonce s t g w (fit_four h).1 (fit_four h).2 h.2.1 h.2.2 (by omega) (by omega) (by omega)
  · unfold openS openE
    rw [if_neg h, if_neg h]
    exact open_none key nonce s t g w (by unfold Fit at h; omega)
theorem ropen_all (key nonce s t g : ByteArray) (w : World) (hs : s.size ≤ 1048576) (ht : t.size ≤ 1048576) :
    Calls Try.prog 23 #[.string key, .string nonce, .string s, .string t, .string g] w fun e w' => e = .returned (.tuple #[.string (openS key nonce s t g), .int .i64 (openE key nonce s t g : Nat)]) ∧ Below w.heap.size w w' := by
  by_cases h : Fit key nonce
  · rw [← openV_eq h]
    exact ropen_ok (key.size / 4) key nonce s t g w (fit_four h).1 (fit_four h).2 h.2.1 h.2.2 hs ht
  · unfold openS openE
    rw [if_neg h, if_neg h]
    exact ropen_none key nonce s t g w h
theorem sealS_size {key nonce s t : ByteArray} (h : Fit key nonce) : (sealS key nonce s t).size = t.size := by unfold sealS; rw [if_pos h, turnB_size]
theorem sealT_size {key nonce s t : ByteArray} (h : Fit key nonce) : (sealT key nonce s t).size = 16 := by unfold sealT; rw [if_pos h, tagB_size]
theorem sealE_fit {key nonce : ByteArray} (h : Fit key nonce) : sealE key nonce = 0 := if_pos h
theorem sealE_none {key nonce : ByteArray} (h : ¬ Fit key nonce) : sealE key nonce = 1 := if_neg h
theorem open_back {key nonce s t : ByteArray} (h : Fit key nonce) : openS key nonce s (sealS key nonce s t) (sealT key nonce s t) = t ∧ openE key nonce s (sealS key nonce s t) (sealT key nonce s t) = 0 := by
  unfold openS openE sealS sealT
  simp [h, turnB_turnB]
theorem open_other {key nonce s t g : ByteArray} (h : Fit key nonce) (hg : g ≠ sealT key nonce s t) : openS key nonce s (sealS key nonce s t) g = noB ∧ openE key nonce s (sealS key nonce s t) g = 7 := by
  unfold sealT at hg
  rw [if_pos h] at hg
  unfold openS openE sealS
  simp only [if_pos h, if_neg hg]
  exact ⟨trivial, trivial⟩

/-- The four texts that came in. -/
abbrev In4 (g : Nat) (a b c d : ByteArray) (w : World) : Prop := w.heap[g]? = some (.cells #[.string a, .string b, .string c, .string d] 36 (0, 0))
theorem In4.cells {g : Nat} {a b c d : ByteArray} {w : World} (h : In4 g a b c d w) : w.cell? ⟨g, 0, none⟩ = some (.string a) ∧ w.cell? ⟨g, 1, none⟩ = some (.string b) ∧ w.cell? ⟨g, 2, none⟩ = some (.string c) ∧ w.cell? ⟨g, 3, none⟩ = some (.string d) := by
  refine ⟨?_, ?_, ?_, ?_⟩ <;> (rw [cell_of_row _ _ _ _ _ _ h]; rfl)
/-- They and the memory behind. -/
structure Ib (w : World) (a b c d : ByteArray) (X : World) : Prop where
  hI : In4 w.heap.size a b c d X
  below : Below w.heap.size w X
theorem Ib.next {w X Y : World} {a b c d : ByteArray} (h : Ib w a b c d X) (hb : Below X.heap.size X Y) : Ib w a b c d Y := ⟨keepBlock h.hI hb, below_link h.below hb⟩
theorem Ib.start (w : World) (a b c d : ByteArray) : Ib w a b c d (w.alloc (.cells #[.string a, .string b, .string c, .string d] 36)) := ⟨heap_alloc_new w _, below_alloc (Below.refl _ _) _⟩

abbrev Few (a b c d : ByteArray) : Prop := a.size ≤ 100 ∧ b.size ≤ 100 ∧ c.size ≤ 200 ∧ d.size ≤ 300
theorem few_yes {a b c d : ByteArray} (h : Few a b c d) (X : World) : Calls Try.prog 19 #[.agg #[.string a, .string b, .string c, .string d]] X fun e w' => e = .returned (.bool true) ∧ Below X.heap.size X w' := by
  have := few_any a b c d X
  rw [decide_eq_true h] at this
  exact this
theorem few_no {a b c d : ByteArray} (h : ¬ Few a b c d) (X : World) : Calls Try.prog 19 #[.agg #[.string a, .string b, .string c, .string d]] X fun e w' => e = .returned (.bool false) ∧ Below X.heap.size X w' := by
  have := few_any a b c d X
  rw [decide_eq_false h] at this
  exact this

set_option maxHeartbeats 8000000 in
theorem walk_seals (a b c d : ByteArray) (w : World) :
    Calls Try.prog 6 #[.agg #[.string a, .string b, .string c, .string d]] w fun e w' => e = .returned (.bool true) ∧ Below w.heap.size w w' := by
  have HS := Lib.hid (Ib.start w a b c d)
  go_enter Try.func6, Try.ntmps6
  go_wp2_with fail
  refine (awake_any _).mono ?_
  rintro e w1 ⟨rfl, hb1⟩
  have H1 := Lib.hid (HS.out.next hb1)
  clear hb1 HS
  obtain ⟨c0, c1, c2, c3⟩ := H1.out.hI.cells
  by_cases hf : Few a b c d
  · have HF := Lib.hid hf
    clear hf
    go_wp2_with fail
    refine (few_yes HF.out _).mono ?_
    rintro e w2 ⟨rfl, hb2⟩
    have H2 := Lib.hid (H1.out.next hb2)
    clear hb2 c0 c1 c2 c3 H1
    obtain ⟨c0, c1, c2, c3⟩ := H2.out.hI.cells
    go_wp2_with fail
    refine (seal_all a b c d _ (by have := HF.out.2.2.1; omega) (by have := HF.out.2.2.2; omega)).mono ?_
    rintro e w3 ⟨rfl, hb3⟩
    have H3 := Lib.hid (H2.out.next hb3)
    clear hb3 c0 c1 c2 c3 H2
    obtain ⟨c0, c1, c2, c3⟩ := H3.out.hI.cells
    obtain ⟨S, hS⟩ : ∃ S, S = sealS a b c d := ⟨_, rfl⟩
    obtain ⟨T, hT⟩ : ∃ T, T = sealT a b c d := ⟨_, rfl⟩
    obtain ⟨E, hE⟩ : ∃ E, E = sealE a b := ⟨_, rfl⟩
    have C4 := Lib.hid (fun X => rseal_all a b c d X (by have := HF.out.2.2.1; omega) (by have := HF.out.2.2.2; omega))
    rw [← hS, ← hT, ← hE] at C4 ⊢
    clear hS hT hE
    go_wp2_with fail
    refine (C4.out _).mono ?_
    rintro e w4 ⟨rfl, hb4⟩
    have H4 := Lib.hid (H3.out.next hb4)
    clear hb4 c0 c1 c2 c3 H3
    go_wp2
    go_ret
    exact ⟨by simp, H4.out.below⟩
  · have HF := Lib.hid hf
    clear hf
    go_wp2_with fail
    refine (few_no HF.out _).mono ?_
    rintro e w2 ⟨rfl, hb2⟩
    have H2 := Lib.hid (H1.out.next hb2)
    clear hb2 c0 c1 c2 c3 H1
    go_wp2_with fail
    refine (awake_any _).mono ?_
    rintro e w3 ⟨rfl, hb3⟩
    have H3 := Lib.hid (H2.out.next hb3)
    clear hb3
    go_wp2
    go_ret
    exact ⟨rfl, H3.out.below⟩

end Gcm
end Go.Proofs.Ytpjobjpdfhpobaa
