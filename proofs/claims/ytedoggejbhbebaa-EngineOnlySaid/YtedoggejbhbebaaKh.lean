/-
  An ideal engine made since a world, and its calls; what a fresh tag finds. Conditions: fewer than a thousand entries; texts of at most 2^30 bytes.
-/
import Derived.Test.YtedoggejbhbebaaKg
namespace Go.Proofs.Ytedoggejbhbebaa
namespace Eng
open Go.ChangeShapes Go.WideShapes Go.ChangeAt Go.RowKit Go.Great
open Gf Aes Gcm
set_option linter.unusedVariables false
set_option maxRecDepth 100000

/-- Block g is an ideal engine with the entries L, made since W. -/
structure St (W : World) (g c : Nat) (L : List Ent) (X : World) : Prop where
  idl : ∃ v, Idl X g c v L ∧ ∀ k, Own2 c v k → W.heap.size ≤ k
  below : Below W.heap.size W X

section
variable {W X Y : World} {g c : Nat} {L M : List Ent}
theorem St.next (h : St W g c L X) (hb : Below X.heap.size X Y) : St W g c L Y := by
  obtain ⟨v, hi, ho⟩ := h.idl
  exact ⟨⟨v, hi.below hb, ho⟩, below_link h.below hb⟩
theorem St.after (hb : Below W.heap.size W X) {v : Value} (ho : ∀ k, Own2 c v k → W.heap.size ≤ k) (ha : AfterI X g c v M Y) : St W g c M Y := by
  obtain ⟨v', hi', hv', hc'⟩ := ha
  refine ⟨⟨v', hi', ?_⟩, hb.trans (hc'.below hb.size ho)⟩
  rintro k (rfl | hk)
  · exact ho _ (.inl rfl)
  · rcases hv' k hk with h1 | h1
    · exact ho _ (.inr h1)
    · have := hb.size; omega

theorem sideal (W w : World) (hb : Below W.heap.size W w) : Calls Try.prog 14 #[] w fun e w' => ∃ g c, e = .returned (.pointer (some ⟨g, 0, none⟩)) ∧ St W g c [] w' := by
  refine (ideal_any w).mono ?_
  rintro e w1 ⟨g, c, rfl, hi, h1, h2, h3, h4, hb1⟩
  refine ⟨g, c, rfl, ⟨_, hi, ?_⟩, below_link hb hb1⟩
  rintro k (rfl | hk)
  · have := hb.size; omega
  · simp [Value.ownBlock] at hk

theorem ssign (W w : World) (g c : Nat) (L : List Ent) (var : Int) (key text : ByteArray) (h : St W g c L w) (hfew : L.length ≤ 1000) (hs : SignsP var key) :
    Calls Try.prog 15 #[.pointer (some ⟨g, 0, none⟩), .int .i64 var, .string key, .string text] w fun e w' => e = .returned (.tuple #[.string (freshTag (L.length + 1) var), .int .i64 0]) ∧ St W g c (L ++ [⟨var, key, ⟨#[]⟩, ⟨#[]⟩, text⟩]) w' := by
  obtain ⟨v, hi, ho⟩ := h.idl
  refine (esign_any g c v L var key text w hi hfew hs).mono ?_
  rintro e w1 ⟨rfl, ha⟩
  exact ⟨rfl, St.after h.below ho ha⟩
theorem sseal (W w : World) (g c : Nat) (L : List Ent) (var : Int) (key nonce beside text : ByteArray) (h : St W g c L w) (hfew : L.length ≤ 1000) (ht : text.size ≤ 1073741824) (hs : SealsP var key nonce) :
    Calls Try.prog 16 #[.pointer (some ⟨g, 0, none⟩), .int .i64 var, .string key, .string nonce, .string beside, .string text] w fun e w' => e = .returned (.tuple #[.string (toE (freshL (L.length + 1) text.size)), .string (freshTag (L.length + 1) var), .int .i64 0]) ∧ St W g c (L ++ [⟨var, key, nonce, beside, text⟩]) w' := by
  obtain ⟨v, hi, ho⟩ := h.idl
  refine (eseal_any g c v L var key nonce beside text w hi hfew ht hs).mono ?_
  rintro e w1 ⟨rfl, ha⟩
  exact ⟨rfl, St.after h.below ho ha⟩
theorem ssign_no (W w : World) (g c : Nat) (L : List Ent) (var : Int) (key text : ByteArray) (h : St W g c L w) (hs : ¬ SignsP var key) :
    Calls Try.prog 15 #[.pointer (some ⟨g, 0, none⟩), .int .i64 var, .string key, .string text] w fun e w' => e = .returned (.tuple #[.string ⟨#[]⟩, .int .i64 1]) ∧ St W g c L w' := by
  refine (esign_no g var key text w hs).mono ?_
  rintro e w1 ⟨rfl, rfl⟩
  exact ⟨rfl, h⟩
theorem sseal_no (W w : World) (g c : Nat) (L : List Ent) (var : Int) (key nonce beside text : ByteArray) (h : St W g c L w) (hs : ¬ SealsP var key nonce) :
    Calls Try.prog 16 #[.pointer (some ⟨g, 0, none⟩), .int .i64 var, .string key, .string nonce, .string beside, .string text] w fun e w' => e = .returned (.tuple #[.string ⟨#[]⟩, .string ⟨#[]⟩, .int .i64 1]) ∧ St W g c L w' := by
  refine (eseal_no g var key nonce beside text w hs).mono ?_
  rintro e w1 ⟨rfl, rfl⟩
  exact ⟨rfl, h⟩
theorem sholds (W w : World) (g c : Nat) (L : List Ent) (var : Int) (key text tag : ByteArray) (h : St W g c L w) (hfew : L.length ≤ 1000) (hs : SignsP var key) (r : Bool) (hr : r = decide (hit L tag = some ⟨var, key, ⟨#[]⟩, ⟨#[]⟩, text⟩)) :
    Calls Try.prog 19 #[.pointer (some ⟨g, 0, none⟩), .int .i64 var, .string key, .string text, .string tag] w fun e w' => e = .returned (.int .i64 (holdsV r)) ∧ St W g c L w' := by
  obtain ⟨v, hi, ho⟩ := h.idl
  refine (eholds_any g c v L var key text tag w hi hfew hs r hr).mono ?_
  rintro e w1 ⟨rfl, hb⟩
  exact ⟨rfl, h.next hb⟩
theorem sopen (W w : World) (g c : Nat) (L : List Ent) (var : Int) (key nonce beside text tag : ByteArray) (h : St W g c L w) (hfew : L.length ≤ 1000) (hL : ∀ x ∈ L, x.text.size ≤ 1073741824) (hs : SealsP var key nonce) (r : Option ByteArray) (hr : r = openOf L var key nonce beside text tag) :
    Calls Try.prog 20 #[.pointer (some ⟨g, 0, none⟩), .int .i64 var, .string key, .string nonce, .string beside, .string text, .string tag] w fun e w' => e = .returned (openV r) ∧ St W g c L w' := by
  obtain ⟨v, hi, ho⟩ := h.idl
  refine (eopen_any g c v L var key nonce beside text tag w hi hfew hL hs r hr).mono ?_
  rintro e w1 ⟨rfl, hb⟩
  exact ⟨rfl, h.next hb⟩
theorem slen (W w : World) (g c : Nat) (L : List Ent) (h : St W g c L w) :
    Calls Try.prog 12 #[.pointer (some ⟨g, 0, none⟩)] w fun e w' => e = .returned (.int .i64 (L.length : Nat)) ∧ w' = w := by
  obtain ⟨v, hi, ho⟩ := h.idl
  exact elen_any g c v L w hi
end

theorem freshTag_num (n : Nat) (v : Int) (hn : n < 256 ^ 8) (hv : sizeOf v ≠ 0) : numOf (freshTag n v) = n := by
  refine numOf_fresh n _ hn ?_
  unfold sizeOf at hv ⊢
  split
  · decide
  · split
    · decide
    · split
      · decide
      · split
        · decide
        · simp_all
/-- What was entered last is found, whatever comes behind it. -/
theorem hit_new (L M : List Ent) (e : Ent) (hn : L.length + 1 < 256 ^ 8) (hv : sizeOf e.variant ≠ 0) : hit (L ++ e :: M) (freshTag (L.length + 1) e.variant) = some e := by
  unfold hit
  rw [freshTag_num _ _ hn hv]
  simp
theorem size_signs {v : Int} {key : ByteArray} (h : SignsP v key) : sizeOf v ≠ 0 := by
  obtain ⟨⟨h1, h2⟩, -⟩ := h
  have : v = 5 ∨ v = 6 ∨ v = 7 := by omega
  rcases this with rfl | rfl | rfl <;> decide
theorem size_seals {v : Int} {key nonce : ByteArray} (h : SealsP v key nonce) : sizeOf v ≠ 0 := by
  obtain ⟨⟨rfl, -⟩ | ⟨rfl, -⟩, -⟩ := h <;> decide
end Eng
end Go.Proofs.Ytedoggejbhbebaa
