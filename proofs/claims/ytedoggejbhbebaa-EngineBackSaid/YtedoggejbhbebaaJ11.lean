/-
  Joined: Kh, An. Conditions: as each part says.
-/
import Derived.Test.YtedoggejbhbebaaJ10
import Derived.Test.YtedoggejbhbebaaJ5
import Derived.OpenShut
import Derived.ChangeMaps5

/-
  An ideal engine made since a world, and its calls; what a fresh tag finds. Conditions: fewer than a thousand entries; texts of at most 2^30 bytes.
-/
namespace Go.Proofs.Ytedoggejbhbebaa
namespace Eng
open Go.ChangeShapes Go.WideShapes Go.ChangeAt Go.RowKit Go.Great
open Gf Aes Gcm
set_option linter.unusedVariables false
set_option maxRecDepth 100000

/-- Block g is an ideal engine with the entries L, made since W. -/
structure St (W : World) (g c : Nat) (L : List Ent) (X : World) : Prop where
  idl : ∃ v, Idl X g c v L ∧ ∀ k, Own2 c v k → W.heap.size ≤ k
  below : Below W.heap.size W X

section
variable {W X Y : World} {g c : Nat} {L M : List Ent}
theorem St.next (h : St W g c L X) (hb : Below X.heap.size X Y) : St W g c L Y := by
  obtain ⟨v, hi, ho⟩ := h.idl
  exact ⟨⟨v, hi.below hb, ho⟩, below_link h.below hb⟩
theorem St.after (hb : Below W.heap.size W X) {v : Value} (ho : ∀ k, Own2 c v k → W.heap.size ≤ k) (ha : AfterI X g c v M Y) : St W g c M Y := by
  obtain ⟨v', hi', hv', hc'⟩ := ha
  refine ⟨⟨v', hi', ?_⟩, hb.trans (hc'.below hb.size ho)⟩
  rintro k (rfl | hk)
  · exact ho _ (.inl rfl)
  · rcases hv' k hk with h1 | h1
    · exact ho _ (.inr h1)
    · have := hb.size; omega

theorem sideal (W w : World) (hb : Below W.heap.size W w) : Calls Try.prog 14 #[] w fun e w' => ∃ g c, e = .returned (.pointer (some ⟨g, 0, none⟩)) ∧ St W g c [] w' := by
  refine (ideal_any w).mono ?_
  rintro e w1 ⟨g, c, rfl, hi, h1, h2, h3, h4, hb1⟩
  refine ⟨g, c, rfl, ⟨_, hi, ?_⟩, below_link hb hb1⟩
  rintro k (rfl | hk)
  · have := hb.size; omega
  · simp [Value.ownBlock] at hk

theorem ssign (W w : World) (g c : Nat) (L : List Ent) (var : Int) (key text : ByteArray) (h : St W g c L w) (hfew : L.length ≤ 1000) (hs : SignsP var key) :
    Calls Try.prog 15 #[.pointer (some ⟨g, 0, none⟩), .int .i64 var, .string key, .string text] w fun e w' => e = .returned (.tuple #[.string (freshTag (L.length + 1) var), .int .i64 0]) ∧ St W g c (L ++ [⟨var, key, ⟨#[]⟩, ⟨#[]⟩, text⟩]) w' := by
  obtain ⟨v, hi, ho⟩ := h.idl
  refine (esign_any g c v L var key text w hi hfew hs).mono ?_
  rintro e w1 ⟨rfl, ha⟩
  exact ⟨rfl, St.after h.below ho ha⟩
theorem sseal (W w : World) (g c : Nat) (L : List Ent) (var : Int) (key nonce beside text : ByteArray) (h : St W g c L w) (hfew : L.length ≤ 1000) (ht : text.size ≤ 1073741824) (hs : SealsP var key nonce) :
    Calls Try.prog 16 #[.pointer (some ⟨g, 0, none⟩), .int .i64 var, .string key, .string nonce, .string beside, .string text] w fun e w' => e = .returned (.tuple #[.string (toE (freshL (L.length + 1) text.size)), .string (freshTag (L.length + 1) var), .int .i64 0]) ∧ St W g c (L ++ [⟨var, key, nonce, beside, text⟩]) w' := by
  obtain ⟨v, hi, ho⟩ := h.idl
  refine (eseal_any g c v L var key nonce beside text w hi hfew ht hs).mono ?_
  rintro e w1 ⟨rfl, ha⟩
  exact ⟨rfl, St.after h.below ho ha⟩
theorem ssign_no (W w : World) (g c : Nat) (L : List Ent) (var : Int) (key text : ByteArray) (h : St W g c L w) (hs : ¬ SignsP var key) :
    Calls Try.prog 15 #[.pointer (some ⟨g, 0, none⟩), .int .i64 var, .string key, .string text] w fun e w' => e = .returned (.tuple #[.string ⟨#[]⟩, .int .i64 1]) ∧ St W g c L w' := by
  refine (esign_no g var key text w hs).mono ?_
  rintro e w1 ⟨rfl, rfl⟩
  exact ⟨rfl, h⟩
theorem sseal_no (W w : World) (g c : Nat) (L : List Ent) (var : Int) (key nonce beside text : ByteArray) (h : St W g c L w) (hs : ¬ SealsP var key nonce) :
    Calls Try.prog 16 #[.pointer (some ⟨g, 0, none⟩), .int .i64 var, .string key, .string nonce, .string beside, .string text] w fun e w' => e = .returned (.tuple #[.string ⟨#[]⟩, .string ⟨#[]⟩, .int .i64 1]) ∧ St W g c L w' := by
  refine (eseal_no g var key nonce beside text w hs).mono ?_
  rintro e w1 ⟨rfl, rfl⟩
  exact ⟨rfl, h⟩
theorem sholds (W w : World) (g c : Nat) (L : List Ent) (var : Int) (key text tag : ByteArray) (h : St W g c L w) (hfew : L.length ≤ 1000) (hs : SignsP var key) (r : Bool) (hr : r = decide (hit L tag = some ⟨var, key, ⟨#[]⟩, ⟨#[]⟩, text⟩)) :
    Calls Try.prog 19 #[.pointer (some ⟨g, 0, none⟩), .int .i64 var, .string key, .string text, .string tag] w fun e w' => e = .returned (.int .i64 (holdsV r)) ∧ St W g c L w' := by
  obtain ⟨v, hi, ho⟩ := h.idl
  refine (eholds_any g c v L var key text tag w hi hfew hs r hr).mono ?_
  rintro e w1 ⟨rfl, hb⟩
  exact ⟨rfl, h.next hb⟩
theorem sopen (W w : World) (g c : Nat) (L : List Ent) (var : Int) (key nonce beside text tag : ByteArray) (h : St W g c L w) (hfew : L.length ≤ 1000) (hL : ∀ x ∈ L, x.text.size ≤ 1073741824) (hs : SealsP var key nonce) (r : Option ByteArray) (hr : r = openOf L var key nonce beside text tag) :
    Calls Try.prog 20 #[.pointer (some ⟨g, 0, none⟩), .int .i64 var, .string key, .string nonce, .string beside, .string text, .string tag] w fun e w' => e = .returned (openV r) ∧ St W g c L w' := by
  obtain ⟨v, hi, ho⟩ := h.idl
  refine (eopen_any g c v L var key nonce beside text tag w hi hfew hL hs r hr).mono ?_
  rintro e w1 ⟨rfl, hb⟩
  exact ⟨rfl, h.next hb⟩
theorem slen (W w : World) (g c : Nat) (L : List Ent) (h : St W g c L w) :
    Calls Try.prog 12 #[.pointer (some ⟨g, 0, none⟩)] w fun e w' => e = .returned (.int .i64 (L.length : Nat)) ∧ w' = w := by
  obtain ⟨v, hi, ho⟩ := h.idl
  exact elen_any g c v L w hi
end

theorem freshTag_num (n : Nat) (v : Int) (hn : n < 256 ^ 8) (hv : sizeOf v ≠ 0) : numOf (freshTag n v) = n := by
  refine numOf_fresh n _ hn ?_
  unfold sizeOf at hv ⊢
  split
  · decide
  · split
    · decide
    · split
      · decide
      · split
        · decide
        · simp_all
/-- What was entered last is found, whatever comes behind it. -/
theorem hit_new (L M : List Ent) (e : Ent) (hn : L.length + 1 < 256 ^ 8) (hv : sizeOf e.variant ≠ 0) : hit (L ++ e :: M) (freshTag (L.length + 1) e.variant) = some e := by
  unfold hit
  rw [freshTag_num _ _ hn hv]
  simp
theorem size_signs {v : Int} {key : ByteArray} (h : SignsP v key) : sizeOf v ≠ 0 := by
  obtain ⟨⟨h1, h2⟩, -⟩ := h
  have : v = 5 ∨ v = 6 ∨ v = 7 := by omega
  rcases this with rfl | rfl | rfl <;> decide
theorem size_seals {v : Int} {key nonce : ByteArray} (h : SealsP v key nonce) : sizeOf v ≠ 0 := by
  obtain ⟨⟨rfl, -⟩ | ⟨rfl, -⟩, -⟩ := h <;> decide
end Eng
end Go.Proofs.Ytedoggejbhbebaa

/-
  Arguments that are arrays of bytes: opened and shut. Conditions: none.
-/
namespace Go.Proofs.Ytedoggejbhbebaa
namespace Aes
open Go.ChangeShapes Go.WideShapes Go.ChangeAt Go.RowKit Go.ChangeMaps
set_option linter.unusedVariables false

theorem okWide_array {P : Program} {w : World} {r : Reach} {base n : Nat} {t e : TypeId} {v : Value} (ht : P.underlying t = some (.array n e)) (h : Value.okWide P w r base t v) : ∃ cs, v = .agg cs ∧ cs.size = P.cellsOf t := by
  simp only [Value.okWide, ht] at h
  obtain ⟨cs, h1, h2, _⟩ := h
  exact ⟨cs, h1, h2⟩

theorem one_at {α : Type} (l : List α) (i : Nat) (h : i < l.length) : (l.drop i).take 1 = [l[i]] := by
  rw [List.drop_eq_getElem_cons h]
  rfl

/-- The bytes as data. -/
def litB {H : Type} (l : List Nat) : DataW H := .agg (l.map fun (c : Nat) => .lit (.int .u8 (c : Int)))

theorem open_bytes {H : Type} {enc : TypeId × Value → H} {P : Program} {w : World} {r : Reach} {b0 base n : Nat} {spare : Nat → Bool} {held : Bool} {t e : TypeId} {v : Value} {d : DataW H} {p : List MemPlace}
    (ht : P.underlying t = some (.array n e)) (he : P.underlying e = some (.int .u8)) (hce : P.cellsOf e = 1) (hct : P.cellsOf t = n)
    (hv : Value.okWide P w r b0 t v) (h : DataW.Trod enc P w base spare held t v d p) :
    ∃ l : List Nat, v = .agg (valsK .u8 l) ∧ d = litB l ∧ p = [] ∧ l.length = n ∧ (∀ c ∈ l, c < 256) := by
  obtain ⟨cs, rfl, hsz⟩ := okWide_array ht hv
  rw [hct] at hsz
  obtain ⟨fuel, hf⟩ := h
  obtain ⟨xs, m, rfl, hx, -, hn, hel⟩ := DataW.trod_array ht hf
  rw [hce] at hel
  have key : ∀ i, i < n → ∃ c : Nat, c < 256 ∧ cs[i]? = some (.int .u8 (c : Int)) ∧ xs[i]? = some (.lit (.int .u8 (c : Int)), []) := by
    intro i hi
    have h1 := hel i hi
    have hl : i < cs.toList.length := by rw [Array.length_toList]; omega
    rw [Nat.mul_one] at h1
    have h2 : DataW.trod enc P w base spare held m e [cs.toList[i]] = xs[i]? := by rw [← one_at _ _ hl]; exact h1
    have hxi : i < xs.length := by omega
    rw [List.getElem?_eq_getElem hxi] at h2
    obtain ⟨a, ea, ed, wa⟩ := DataW.trod_int he h2
    have hx : 0 ≤ a ∧ a ≤ 255 := by simpa [Lit.wf, IntKind.min, IntKind.max, IntKind.signed, IntKind.bits] using wa
    obtain ⟨c, hc⟩ : ∃ c : Nat, a = (c : Int) := ⟨a.toNat, by omega⟩
    have e1 : cs.toList[i] = .int .u8 a := by simpa using ea
    refine ⟨c, by omega, ?_, ?_⟩
    · rw [Array.getElem?_eq_getElem (by omega), ← hc]
      congr 1
    · rw [List.getElem?_eq_getElem hxi, ed, hc]
  let F : Nat → Nat := fun i => if h : i < n then Classical.choose (key i h) else 0
  have hF : ∀ i, i < n → F i < 256 ∧ cs[i]? = some (.int .u8 (F i : Int)) ∧ xs[i]? = some (.lit (.int .u8 (F i : Int)), []) := by
    intro i hi
    have := Classical.choose_spec (key i hi)
    have e : F i = Classical.choose (key i hi) := dif_pos hi
    rw [e]; exact this
  have hlen : (allF F n).length = n := allF_length F n
  refine ⟨allF F n, ?_, ?_, ?_, hlen, ?_⟩
  · congr 1
    apply Array.ext_getElem?
    intro i
    by_cases hi : i < n
    · rw [(hF i hi).2.1, valsK_get .u8 _ _ _ (allF_get F n i hi)]
    · rw [Array.getElem?_eq_none (by omega), Array.getElem?_eq_none (by rw [valsK_size, hlen]; omega)]
  · simp only [Prod.mk.injEq] at hx
    rw [hx.1]
    unfold litB
    congr 1
    apply List.ext_getElem?
    intro i
    rw [List.getElem?_map, List.getElem?_map]
    by_cases hi : i < n
    · rw [(hF i hi).2.2, allF_get F n i hi]; rfl
    · rw [List.getElem?_eq_none (by omega), List.getElem?_eq_none (by rw [hlen]; omega)]; rfl
  · simp only [Prod.mk.injEq] at hx
    rw [hx.2]
    apply List.flatMap_eq_nil_iff.2
    intro x hxm
    obtain ⟨i, hi, e⟩ := List.mem_iff_getElem.1 hxm
    have h2 := (hF i (by omega)).2.2
    rw [List.getElem?_eq_getElem hi, e] at h2
    rw [Option.some.inj h2]
  · intro c hc
    obtain ⟨i, hi, rfl⟩ := List.mem_map.1 hc
    exact (hF i (List.mem_range.1 hi)).1

theorem mapM_all {α β : Type} (f : α → Option β) (g : α → β) : ∀ l : List α, (∀ x ∈ l, f x = some (g x)) → l.mapM f = some (l.map g)
  | [], _ => rfl
  | x :: l, h => by
    rw [List.mapM_cons, h x (List.mem_cons_self ..), mapM_all f g l fun y hy => h y (List.mem_cons_of_mem _ hy)]
    rfl

theorem shut_bytes {H : Type} {enc : TypeId × Value → H} {P : Program} {w : World} {base n : Nat} {spare : Nat → Bool} {held : Bool} {t e : TypeId} {l : List Nat}
    (ht : P.underlying t = some (.array n e)) (he : P.underlying e = some (.int .u8)) (hce : P.cellsOf e = 1) (hct : P.cellsOf t = n) (hl : l.length = n) (hb : ∀ c ∈ l, c < 256) :
    DataW.Trod enc P w base spare held t (.agg (valsK .u8 l)) (litB l) [] := by
  refine ⟨2, ?_⟩
  show DataW.trod enc P w base spare held 2 t (valsK .u8 l).toList = _
  unfold DataW.trod
  rw [ht]
  simp only
  rw [if_pos (by rw [Array.length_toList, valsK_size, hct, hl]), hce]
  rw [mapM_all _ (fun i => ((.lit (.int .u8 ((l.getD i 0 : Nat) : Int)) : DataW H), [])) (List.range n) (fun i hi => by
    have hin : i < n := List.mem_range.1 hi
    have hil : i < (valsK .u8 l).toList.length := by rw [Array.length_toList, valsK_size, hl]; exact hin
    rw [Nat.mul_one, one_at _ _ hil]
    have hg : l[i]? = some (l.getD i 0) := by rw [List.getD_eq_getElem?_getD, List.getElem?_eq_getElem (by omega)]; rfl
    have e1 : (valsK .u8 l).toList[i] = .int .u8 ((l.getD i 0 : Nat) : Int) := by
      have := valsK_get .u8 l i _ hg
      rw [← Array.getElem?_toList, List.getElem?_eq_getElem hil] at this
      exact Option.some.inj this
    have hlt : l.getD i 0 < 256 := hb _ (List.mem_of_getElem? hg)
    rw [e1]
    show _ = some ((DataW.lit (.int .u8 ((l.getD i 0 : Nat) : Int)) : DataW H), ([] : List MemPlace))
    generalize l.getD i 0 = c at hlt ⊢
    unfold DataW.trod
    rw [he]
    simp [Lit.wf, IntKind.min, IntKind.max, IntKind.signed, IntKind.bits]
    omega)]
  simp only [Option.map_some, Option.some.injEq, Prod.mk.injEq, List.map_map]
  refine ⟨?_, ?_⟩
  · unfold litB
    congr 1
    apply List.ext_getElem?
    intro i
    rw [List.getElem?_map, List.getElem?_map]
    by_cases hi : i < n
    · rw [List.getElem?_range hi, List.getElem?_eq_getElem (by omega)]
      simp [List.getD_eq_getElem?_getD, List.getElem?_eq_getElem (show i < l.length by omega)]
    · rw [List.getElem?_eq_none (by rw [List.length_range]; omega), List.getElem?_eq_none (by omega)]; rfl
  · simp

end Aes
end Go.Proofs.Ytedoggejbhbebaa
