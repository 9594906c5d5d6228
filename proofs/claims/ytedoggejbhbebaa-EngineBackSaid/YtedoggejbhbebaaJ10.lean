/-
  Joined: Kf, Kg. Conditions: as each part says.
-/
import Derived.Test.YtedoggejbhbebaaJ9

/-
  Contract of an ideal core's open. Conditions: the core lies in memory; fewer than a thousand entries; texts of at most 2^30 bytes.
-/
namespace Go.Proofs.Ytedoggejbhbebaa
namespace Eng
open Go.ChangeShapes Go.WideShapes Go.ChangeAt Go.RowKit Go.Great
open Gf Aes Gcm
set_option linter.unusedVariables false
set_option maxRecDepth 100000

/-- The text that is opened, if there is one. -/
def openOf (L : List Ent) (var : Int) (key nonce beside text tag : ByteArray) : Option ByteArray :=
  match hit L tag with
  | none => none
  | some x => if x = ⟨var, key, nonce, beside, x.text⟩ ∧ text = toE (freshL (numOf tag) x.text.size) then some x.text else none
/-- As two results. -/
def openV : Option ByteArray → Value
  | none => .tuple #[.string ⟨#[]⟩, .int .i64 7]
  | some t => .tuple #[.string t, .int .i64 0]

set_option maxHeartbeats 2000000 in
theorem open_any (c : Nat) (v : Value) (L : List Ent) (var : Int) (key nonce beside text tag : ByteArray) (w : World) (h : Cor w c v L) (hfew : L.length ≤ 1000) (hL : ∀ x ∈ L, x.text.size ≤ 1073741824) (r : Option ByteArray) (hr : r = openOf L var key nonce beside text tag) :
    Calls Try.prog 113 #[.pointer (some ⟨c, 0, none⟩), .int .i64 var, .string key, .string nonce, .string beside, .string text, .string tag] w fun e w' => e = .returned (openV r) ∧ Below w.heap.size w w' := by
  unfold openOf at hr
  rcases hit_cases L tag with ⟨h1, h2⟩ | ⟨n, m, x, h1, h2, h3, h4⟩
  · have H := Lib.hid (tagged_out c v L tag w h hfew h1)
    unfold noEnt at H
    rw [h2] at hr
    subst hr
    unfold openV
    clear h1 h2 h
    go_enter Try.func113, Try.ntmps113
    go_wp2_with fail
    refine H.out.mono ?_
    rintro e w1 ⟨rfl, hb⟩
    have HB := Lib.hid hb; clear hb
    go_wp2
    exact bodyPost_ret (results_tmp2 rfl _ _ _) rfl ⟨rfl, below_alloc (below_alloc HB.out _) _⟩
  · have hxl := hL x (List.mem_of_getElem? h3)
    by_cases ht : tag = freshTag m x.variant
    · have H := Lib.hid (tagged_in c v L tag w h hfew n m x h1 h2 h3 true (by simp [ht]))
      rw [if_pos ht] at h4
      rw [h4] at hr
      simp only [h2] at hr
      have E := fun X => neq_run x ⟨var, key, nonce, beside, x.text⟩ X
      by_cases hk : x = ⟨var, key, nonce, beside, x.text⟩
      · rw [decide_eq_true hk] at E
        have HF := Lib.hid (fun w => fresh_any m x.text.size w (by rw [← h2]; exact numOf_lt tag) hxl)
        obtain ⟨T, hT⟩ : ∃ T, T = toE (freshL m x.text.size) := ⟨_, rfl⟩
        rw [← hT] at HF hr
        have hcell : ∀ w1 w3 : World, Below ((w1.alloc (.cells #[.int .i64 x.variant, .string x.key, .string x.nonce, .string x.beside, .string x.text] 157)).alloc (.cells #[.int .i64 var, .string key, .string nonce, .string beside, .string x.text] 157)).heap.size ((w1.alloc (.cells #[.int .i64 x.variant, .string x.key, .string x.nonce, .string x.beside, .string x.text] 157)).alloc (.cells #[.int .i64 var, .string key, .string nonce, .string beside, .string x.text] 157)) w3 → w3.cell? ⟨w1.heap.size, 4, none⟩ = some (.string x.text) := by
          intro w1 w3 hb
          have h0 : E5 w1.heap.size x ((w1.alloc (.cells #[.int .i64 x.variant, .string x.key, .string x.nonce, .string x.beside, .string x.text] 157)).alloc (.cells #[.int .i64 var, .string key, .string nonce, .string beside, .string x.text] 157)) := keepAlloc (heap_alloc_new w1 _) _
          exact (E5.cells (keepBlock h0 hb)).2.2.2.2
        have HC := Lib.hid hcell; clear hcell
        by_cases ht2 : text = T
        · rw [if_pos ⟨hk, ht2⟩] at hr
          have g3 : (text.toList == T.toList) = true := by rw [text_beq]; simp [ht2]
          have g4 : text.toList = T.toList := by rw [ht2]
          subst hr
          unfold openV
          clear h1 h2 h3 h4 h hL ht2 hT hk ht
          go_enter Try.func113, Try.ntmps113
          go_wp2_with fail
          refine H.out.mono ?_
          rintro e w1 ⟨rfl, hb⟩
          have HB := Lib.hid hb; clear hb
          go_wp2_with fail
          refine (HF.out _).mono ?_
          rintro e w3 ⟨rfl, hb3⟩
          have c4 := HC.out w1 w3 hb3
          have HB3 := Lib.hid (below_link (below_alloc (below_alloc HB.out _) _) hb3); clear hb3
          go_wp2
          exact bodyPost_ret (results_tmp2 rfl _ _ _) rfl ⟨rfl, HB3.out⟩
        · rw [if_neg (fun e => ht2 e.2)] at hr
          have g3 : (text.toList == T.toList) = false := by rw [text_beq]; simp [ht2]
          have g4 : ¬ text.toList = T.toList := by rw [text_iff]; exact ht2
          subst hr
          unfold openV
          clear h1 h2 h3 h4 h hL ht2 hT hk ht
          go_enter Try.func113, Try.ntmps113
          go_wp2_with fail
          refine H.out.mono ?_
          rintro e w1 ⟨rfl, hb⟩
          have HB := Lib.hid hb; clear hb
          go_wp2_with fail
          refine (HF.out _).mono ?_
          rintro e w3 ⟨rfl, hb3⟩
          have c4 := HC.out w1 w3 hb3
          have HB3 := Lib.hid (below_link (below_alloc (below_alloc HB.out _) _) hb3); clear hb3
          go_wp2
          exact bodyPost_ret (results_tmp2 rfl _ _ _) rfl ⟨rfl, HB3.out⟩
      · rw [decide_eq_false hk] at E
        rw [if_neg (fun e => hk e.1)] at hr
        subst hr
        unfold openV
        clear h1 h2 h3 h4 h hL hk ht
        go_enter Try.func113, Try.ntmps113
        go_wp2_with fail
        refine H.out.mono ?_
        rintro e w1 ⟨rfl, hb⟩
        have HB := Lib.hid hb; clear hb
        go_wp2
        exact bodyPost_ret (results_tmp2 rfl _ _ _) rfl ⟨rfl, below_alloc (below_alloc HB.out _) _⟩
    · have H := Lib.hid (tagged_in c v L tag w h hfew n m x h1 h2 h3 false (by simp [ht]))
      rw [if_neg ht] at h4
      rw [h4] at hr
      subst hr
      unfold openV
      clear h1 h2 h3 h4 h hL ht
      go_enter Try.func113, Try.ntmps113
      go_wp2_with fail
      refine H.out.mono ?_
      rintro e w1 ⟨rfl, hb⟩
      have HB := Lib.hid hb; clear hb
      go_wp2
      exact bodyPost_ret (results_tmp2 rfl _ _ _) rfl ⟨rfl, below_alloc (below_alloc HB.out _) _⟩
end Eng
end Go.Proofs.Ytedoggejbhbebaa

/-
  An ideal engine in memory; contracts of Ideal, Real, and of an ideal engine's inner, Len, Sign, Holds, Seal and Open. Conditions: the engine lies in memory; fewer than a thousand entries; texts of at most 2^30 bytes.
-/
namespace Go.Proofs.Ytedoggejbhbebaa
namespace Eng
open Go.ChangeShapes Go.WideShapes Go.ChangeAt Go.RowKit Go.Great
open Gf Aes Gcm
set_option linter.unusedVariables false
set_option maxRecDepth 100000

/-- Block g is an ideal engine whose core is block c. -/
structure Idl (w : World) (g c : Nat) (v : Value) (L : List Ent) : Prop where
  eng : w.heap[g]? = some (.cells #[.iface 53 (.pointer (some ⟨c, 0, none⟩))] 51 (0, 0))
  core : Cor w c v L
  gc : g ≠ c
  gv : v.ownBlock ≠ some g

theorem ideal_any (w : World) : Calls Try.prog 14 #[] w fun e w' => ∃ g c, e = .returned (.pointer (some ⟨g, 0, none⟩)) ∧ Idl w' g c (.slice none 0 0) [] ∧ w.heap.size ≤ g ∧ w.heap.size ≤ c ∧ g < w'.heap.size ∧ c < w'.heap.size ∧ Below w.heap.size w w' := by
  have hi : Idl ((w.alloc (.cells #[.slice none 0 0] 56)).alloc (.cells #[.iface 53 (.pointer (some ⟨w.heap.size, 0, none⟩))] 51)) (w.heap.size + 1) w.heap.size (.slice none 0 0) [] := by
    refine ⟨?_, ⟨keepAlloc (heap_alloc_new w _) _, ⟨rfl, .inl ⟨rfl, rfl⟩⟩, by simp [Value.ownBlock]⟩, by omega, by simp [Value.ownBlock]⟩
    have := heap_alloc_new (w.alloc (.cells #[.slice none 0 0] 56)) (.cells #[.iface 53 (.pointer (some ⟨w.heap.size, 0, none⟩))] 51)
    rwa [alloc_size] at this
  have HI := Lib.hid hi; clear hi
  go_enter Try.func14, Try.ntmps14
  go_wp2
  go_ret
  exact ⟨w.heap.size + 1, w.heap.size, rfl, HI.out, by omega, by omega, by rw [alloc_size, alloc_size]; omega, by rw [alloc_size, alloc_size]; omega, below_alloc (below_alloc (Below.refl _ _) _) _⟩

theorem inner_any (g : Nat) (u : Value) (t : TypeId) (w : World) (h : w.heap[g]? = some (.cells #[.iface t u] 51 (0, 0))) : Calls Try.prog 25 #[.pointer (some ⟨g, 0, none⟩)] w fun e w' => e = .returned (.iface t u) ∧ w' = w := by
  have c0 : w.cell? ⟨g, 0, none⟩ = some (.iface t u) := by rw [cell_of_row _ _ _ _ _ _ h]; rfl
  clear h
  go_enter Try.func25, Try.ntmps25
  go_wp2
  go_ret
  exact ⟨rfl, rfl⟩

/-- What a call leaves: the engine, with these entries; only its core's blocks have changed. -/
def AfterI (w : World) (g c : Nat) (v : Value) (L : List Ent) (w' : World) : Prop :=
  ∃ v', Idl w' g c v' L ∧ (∀ k, v'.ownBlock = some k → v.ownBlock = some k ∨ w.heap.size ≤ k) ∧ Chg (Own2 c v) w w'
theorem Idl.lt {w : World} {g c : Nat} {v : Value} {L : List Ent} (h : Idl w g c v L) : g < w.heap.size := lt_of_block h.eng
theorem Idl.after {w w' : World} {g c : Nat} {v : Value} {L M : List Ent} (h : Idl w g c v L) (ha : After w c v M w') : AfterI w g c v M w' := by
  obtain ⟨v', t', o', c'⟩ := ha
  refine ⟨v', ⟨?_, t', h.gc, fun e => ?_⟩, o', c'⟩
  · rw [c'.block g h.lt (fun e => e.elim h.gc h.gv)]
    exact h.eng
  · rcases o' g e with h1 | h1
    · exact h.gv h1
    · have := h.lt; omega
theorem Idl.below {w w' : World} {g c : Nat} {v : Value} {L : List Ent} (h : Idl w g c v L) (hb : Below w.heap.size w w') : Idl w' g c v L :=
  ⟨keepBlock h.eng hb, h.core.below hb, h.gc, h.gv⟩

set_option maxHeartbeats 1000000 in
theorem esign_any (g c : Nat) (v : Value) (L : List Ent) (var : Int) (key text : ByteArray) (w : World) (h : Idl w g c v L) (hfew : L.length ≤ 1000) (hs : SignsP var key) :
    Calls Try.prog 15 #[.pointer (some ⟨g, 0, none⟩), .int .i64 var, .string key, .string text] w fun e w' => e = .returned (.tuple #[.string (freshTag (L.length + 1) var), .int .i64 0]) ∧ AfterI w g c v (L ++ [⟨var, key, ⟨#[]⟩, ⟨#[]⟩, text⟩]) w' := by
  have HM := Lib.hid (pmay_sign var key)
  rw [decide_eq_true hs] at HM
  have HI := Lib.hid (inner_any g _ _ w h.eng)
  have HS := Lib.hid (sign_any c v L var key text w h.core hfew)
  have HH := Lib.hid h
  have hm : ∀ X, (method 263 53 (.pointer (some ⟨c, 0, none⟩)) "dromond/engine.sign").run Try.prog X = .ok (115, .pointer (some ⟨c, 0, none⟩)) X := fun _ => by kernel_rfl
  clear h hfew hs
  go_enter Try.func15, Try.ntmps15
  go_wp2_with fail
  refine (HM.out _).mono ?_
  rintro e w1 ⟨rfl, hw⟩
  rw [hw]
  clear hw
  go_wp2_with fail
  refine HI.out.mono ?_
  rintro e w1 ⟨rfl, hw⟩
  rw [hw]
  clear hw
  go_wp2_with fail
  refine HS.out.mono ?_
  rintro e w3 ⟨rfl, ha⟩
  have HA := Lib.hid (HH.out.after ha); clear ha
  go_wp2
  exact bodyPost_ret (results_tmp2 rfl _ _ _) rfl ⟨rfl, HA.out⟩

theorem esign_no (g : Nat) (var : Int) (key text : ByteArray) (w : World) (hs : ¬ SignsP var key) :
    Calls Try.prog 15 #[.pointer (some ⟨g, 0, none⟩), .int .i64 var, .string key, .string text] w fun e w' => e = .returned (.tuple #[.string ⟨#[]⟩, .int .i64 1]) ∧ w' = w := by
  have HM := Lib.hid (pmay_sign var key)
  rw [decide_eq_false hs] at HM
  clear hs
  go_enter Try.func15, Try.ntmps15
  go_wp2_with fail
  refine (HM.out _).mono ?_
  rintro e w1 ⟨rfl, hw⟩
  rw [hw]
  clear hw
  go_wp2
  exact bodyPost_ret (results_tmp2 rfl _ _ _) rfl ⟨rfl, rfl⟩

set_option maxHeartbeats 1000000 in
theorem eseal_any (g c : Nat) (v : Value) (L : List Ent) (var : Int) (key nonce beside text : ByteArray) (w : World) (h : Idl w g c v L) (hfew : L.length ≤ 1000) (ht : text.size ≤ 1073741824) (hs : SealsP var key nonce) :
    Calls Try.prog 16 #[.pointer (some ⟨g, 0, none⟩), .int .i64 var, .string key, .string nonce, .string beside, .string text] w fun e w' => e = .returned (.tuple #[.string (toE (freshL (L.length + 1) text.size)), .string (freshTag (L.length + 1) var), .int .i64 0]) ∧ AfterI w g c v (L ++ [⟨var, key, nonce, beside, text⟩]) w' := by
  have HM := Lib.hid (pmay_seal var key nonce)
  rw [decide_eq_true hs] at HM
  have HI := Lib.hid (inner_any g _ _ w h.eng)
  have HS := Lib.hid (seal_any c v L var key nonce beside text w h.core hfew ht)
  have HH := Lib.hid h
  have hm : ∀ X, (method 263 53 (.pointer (some ⟨c, 0, none⟩)) "dromond/engine.seal").run Try.prog X = .ok (114, .pointer (some ⟨c, 0, none⟩)) X := fun _ => by kernel_rfl
  clear h hfew hs ht
  go_enter Try.func16, Try.ntmps16
  go_wp2_with fail
  refine (HM.out _).mono ?_
  rintro e w1 ⟨rfl, hw⟩
  rw [hw]
  clear hw
  go_wp2_with fail
  refine HI.out.mono ?_
  rintro e w1 ⟨rfl, hw⟩
  rw [hw]
  clear hw
  go_wp2_with fail
  refine HS.out.mono ?_
  rintro e w3 ⟨rfl, ha⟩
  have HA := Lib.hid (HH.out.after ha); clear ha
  go_wp2
  exact bodyPost_ret (results_tmp3 rfl _ _ _) rfl ⟨rfl, HA.out⟩

theorem eseal_no (g : Nat) (var : Int) (key nonce beside text : ByteArray) (w : World) (hs : ¬ SealsP var key nonce) :
    Calls Try.prog 16 #[.pointer (some ⟨g, 0, none⟩), .int .i64 var, .string key, .string nonce, .string beside, .string text] w fun e w' => e = .returned (.tuple #[.string ⟨#[]⟩, .string ⟨#[]⟩, .int .i64 1]) ∧ w' = w := by
  have HM := Lib.hid (pmay_seal var key nonce)
  rw [decide_eq_false hs] at HM
  clear hs
  go_enter Try.func16, Try.ntmps16
  go_wp2_with fail
  refine (HM.out _).mono ?_
  rintro e w1 ⟨rfl, hw⟩
  rw [hw]
  clear hw
  go_wp2
  exact bodyPost_ret (results_tmp3 rfl _ _ _) rfl ⟨rfl, rfl⟩

/-- What Holds answers. -/
def holdsV (r : Bool) : Int := if r then 0 else 7

set_option maxHeartbeats 1000000 in
theorem eholds_any (g c : Nat) (v : Value) (L : List Ent) (var : Int) (key text tag : ByteArray) (w : World) (h : Idl w g c v L) (hfew : L.length ≤ 1000) (hs : SignsP var key) (r : Bool) (hr : r = decide (hit L tag = some ⟨var, key, ⟨#[]⟩, ⟨#[]⟩, text⟩)) :
    Calls Try.prog 19 #[.pointer (some ⟨g, 0, none⟩), .int .i64 var, .string key, .string text, .string tag] w fun e w' => e = .returned (.int .i64 (holdsV r)) ∧ Below w.heap.size w w' := by
  have HM := Lib.hid (pmay_sign var key)
  rw [decide_eq_true hs] at HM
  have HI := Lib.hid (inner_any g _ _ w h.eng)
  have HS := Lib.hid (holds_any c v L var key text tag w h.core hfew r hr)
  have hm : ∀ X, (method 263 53 (.pointer (some ⟨c, 0, none⟩)) "dromond/engine.holds").run Try.prog X = .ok (112, .pointer (some ⟨c, 0, none⟩)) X := fun _ => by kernel_rfl
  clear h hfew hs hr
  cases r
  · unfold holdsV
    go_enter Try.func19, Try.ntmps19
    go_wp2_with fail
    refine (HM.out _).mono ?_
    rintro e w1 ⟨rfl, hw⟩
    rw [hw]
    clear hw
    go_wp2_with fail
    refine HI.out.mono ?_
    rintro e w1 ⟨rfl, hw⟩
    rw [hw]
    clear hw
    go_wp2_with fail
    refine HS.out.mono ?_
    rintro e w3 ⟨rfl, hb⟩
    have HB := Lib.hid hb; clear hb
    go_wp2
    go_ret
    exact ⟨rfl, HB.out⟩
  · unfold holdsV
    go_enter Try.func19, Try.ntmps19
    go_wp2_with fail
    refine (HM.out _).mono ?_
    rintro e w1 ⟨rfl, hw⟩
    rw [hw]
    clear hw
    go_wp2_with fail
    refine HI.out.mono ?_
    rintro e w1 ⟨rfl, hw⟩
    rw [hw]
    clear hw
    go_wp2_with fail
    refine HS.out.mono ?_
    rintro e w3 ⟨rfl, hb⟩
    have HB := Lib.hid hb; clear hb
    go_wp2
    go_ret
    exact ⟨rfl, HB.out⟩

theorem openV_two (r : Option ByteArray) : ∃ t n, openV r = .tuple #[.string t, .int .i64 n] := by
  cases r <;> exact ⟨_, _, rfl⟩

set_option maxHeartbeats 1000000 in
theorem eopen_any (g c : Nat) (v : Value) (L : List Ent) (var : Int) (key nonce beside text tag : ByteArray) (w : World) (h : Idl w g c v L) (hfew : L.length ≤ 1000) (hL : ∀ x ∈ L, x.text.size ≤ 1073741824) (hs : SealsP var key nonce) (r : Option ByteArray) (hr : r = openOf L var key nonce beside text tag) :
    Calls Try.prog 20 #[.pointer (some ⟨g, 0, none⟩), .int .i64 var, .string key, .string nonce, .string beside, .string text, .string tag] w fun e w' => e = .returned (openV r) ∧ Below w.heap.size w w' := by
  have HM := Lib.hid (pmay_seal var key nonce)
  rw [decide_eq_true hs] at HM
  have HI := Lib.hid (inner_any g _ _ w h.eng)
  have HS := Lib.hid (open_any c v L var key nonce beside text tag w h.core hfew hL r hr)
  have hm : ∀ X, (method 263 53 (.pointer (some ⟨c, 0, none⟩)) "dromond/engine.open").run Try.prog X = .ok (113, .pointer (some ⟨c, 0, none⟩)) X := fun _ => by kernel_rfl
  clear h hfew hs hr hL
  obtain ⟨t, n, ht⟩ := openV_two r
  rw [ht] at HS ⊢
  clear ht
  go_enter Try.func20, Try.ntmps20
  go_wp2_with fail
  refine (HM.out _).mono ?_
  rintro e w1 ⟨rfl, hw⟩
  rw [hw]
  clear hw
  go_wp2_with fail
  refine HI.out.mono ?_
  rintro e w1 ⟨rfl, hw⟩
  rw [hw]
  clear hw
  go_wp2_with fail
  refine HS.out.mono ?_
  rintro e w3 ⟨rfl, hb⟩
  have HB := Lib.hid hb; clear hb
  go_wp2
  exact bodyPost_ret (results_tmp2 rfl _ _ _) rfl ⟨rfl, HB.out⟩

theorem elen_any (g c : Nat) (v : Value) (L : List Ent) (w : World) (h : Idl w g c v L) :
    Calls Try.prog 12 #[.pointer (some ⟨g, 0, none⟩)] w fun e w' => e = .returned (.int .i64 (L.length : Nat)) ∧ w' = w := by
  have HI := Lib.hid (inner_any g _ _ w h.eng)
  have HS := Lib.hid (entries_any c v L w h.core)
  have hm : ∀ X, (method 263 53 (.pointer (some ⟨c, 0, none⟩)) "dromond/engine.entries").run Try.prog X = .ok (111, .pointer (some ⟨c, 0, none⟩)) X := fun _ => by kernel_rfl
  clear h
  go_enter Try.func12, Try.ntmps12
  go_wp2_with fail
  refine HI.out.mono ?_
  rintro e w1 ⟨rfl, hw⟩
  rw [hw]
  clear hw
  go_wp2_with fail
  refine HS.out.mono ?_
  rintro e w3 ⟨rfl, hw⟩
  rw [hw]
  clear hw
  go_wp2
  go_ret
  exact ⟨rfl, rfl⟩

/-- A real engine. -/
theorem real_any (w : World) : Calls Try.prog 11 #[] w fun e w' => ∃ g, e = .returned (.pointer (some ⟨g, 0, none⟩)) ∧ w'.heap[g]? = some (.cells #[.iface 47 (.agg #[])] 51 (0, 0)) ∧ w.heap.size ≤ g ∧ g < w'.heap.size ∧ Below w.heap.size w w' := by
  have h := heap_alloc_new w (.cells #[.iface 47 (.agg #[])] 51)
  have H := Lib.hid h; clear h
  go_enter Try.func11, Try.ntmps11
  go_wp2
  go_ret
  exact ⟨w.heap.size, rfl, H.out, by omega, by rw [alloc_size]; omega, below_alloc (Below.refl _ _) _⟩

theorem rlen_any (g : Nat) (w : World) (h : w.heap[g]? = some (.cells #[.iface 47 (.agg #[])] 51 (0, 0))) :
    Calls Try.prog 12 #[.pointer (some ⟨g, 0, none⟩)] w fun e w' => e = .returned (.int .i64 0) ∧ Below w.heap.size w w' := by
  have HI := Lib.hid (inner_any g _ _ w h)
  have HS : ∀ X, Calls Try.prog 44 #[.agg #[]] X fun e w' => e = .returned (.int .i64 0) ∧ Below X.heap.size X w' := by
    intro X
    clear HI h
    go_enter Try.func44, Try.ntmps44
    go_wp2
    go_ret
    exact ⟨rfl, below_alloc (Below.refl _ _) _⟩
  have HS := Lib.hid HS
  have hm : ∀ X, (method 263 47 (.agg #[]) "dromond/engine.entries").run Try.prog X = .ok (44, .agg #[]) X := fun _ => by kernel_rfl
  clear h
  go_enter Try.func12, Try.ntmps12
  go_wp2_with fail
  refine HI.out.mono ?_
  rintro e w1 ⟨rfl, hw⟩
  rw [hw]
  clear hw
  go_wp2_with fail
  refine (HS.out _).mono ?_
  rintro e w3 ⟨rfl, hb⟩
  have HB := Lib.hid hb; clear hb
  go_wp2
  go_ret
  exact ⟨rfl, HB.out⟩

/-- The statements' awake. -/
theorem awake_any (w : World) : Calls Try.prog 8 #[] w fun e w' => e = .returned (.bool true) ∧ Below w.heap.size w w' := by
  go_enter Try.func8, Try.ntmps8
  go_wp2_with fail
  refine (ideal_any _).mono ?_
  rintro e w1 ⟨g, c, rfl, hi, h1, h2, h3, h4, hb⟩
  have HI := Lib.hid hi
  have HB := Lib.hid hb
  clear hi h1 h2 h3 h4 hb
  go_wp2_with fail
  refine (real_any _).mono ?_
  rintro e w2 ⟨g2, rfl, hr, h1, h2, hb⟩
  have HB2 := Lib.hid (below_link HB.out hb)
  have HI2 := Lib.hid (HI.out.below hb)
  clear hr h1 h2 hb
  go_wp2_with fail
  refine (psize 6 _).mono ?_
  rintro e w3 ⟨rfl, hw⟩
  rw [hw]
  clear hw
  go_wp2_with fail
  refine (elen_any _ _ _ _ _ HI2.out).mono ?_
  rintro e w4 ⟨rfl, hw⟩
  rw [hw]
  clear hw
  go_wp2
  go_ret
  exact ⟨rfl, HB2.out⟩
end Eng
end Go.Proofs.Ytedoggejbhbebaa
