/-
  Joined: Kr, Ks, Op. Conditions: as each part says.
-/
import Derived.Test.YtedoggejbhbebaaJ11
import Derived.Test.YtedoggejbhbebaaJ24
import Derived.Test.YtedoggejbhbebaaJ41
import Derived.Test.YtedoggejbhbebaaJ12
import Derived.Test.YtedoggejbhbebaaJ1

/-
  Contracts of a real engine's calls. Conditions: the engine lies in memory; the table of round constants holds eighty words; texts of at most 2^20 bytes.
-/
namespace Go.Proofs.Ytedoggejbhbebaa
namespace Eng
open Go.ChangeShapes Go.WideShapes Go.ChangeAt Go.RowKit Go.Great
set_option linter.unusedVariables false
set_option maxRecDepth 100000
variable {KQ : Dg.KTab}

/-- The code of a real engine. -/
def rtag (KQ : Dg.KTab) (v : Int) (key text : ByteArray) : ByteArray := Dg.hmacOf KQ (bitsOf v) (if v = 5 then 64 else 128) key text

theorem rsum (v : Int) (key text : ByteArray) (ps : Value) (w : World) (hK : Dg.Kon KQ w) (hs : SignsP v key) (ht : text.size ≤ 1048576) (hJ : Dg.Joins ps text w) :
    Calls Try.prog 52 #[.int .i64 (bitsOf v), .string key, ps] w fun e w' => e = .returned (.string (rtag KQ v key text)) ∧ Below w.heap.size w w' := by
  obtain ⟨⟨h1, h2⟩, h3, h4⟩ := hs
  have : v = 5 ∨ v = 6 ∨ v = 7 := by omega
  rcases this with rfl | rfl | rfl
  · exact Dg.hsum_256 key text ps w hK (by omega) (by omega) hJ
  · exact Dg.hsum_384 key text ps w hK (by omega) (by omega) hJ
  · exact Dg.hsum_512 key text ps w hK (by omega) (by omega) hJ
theorem rtag_size (v : Int) (key text : ByteArray) (hs : SignsP v key) : (rtag KQ v key text).size ≤ 64 := by
  obtain ⟨⟨h1, h2⟩, h3, h4⟩ := hs
  have : v = 5 ∨ v = 6 ∨ v = 7 := by omega
  rcases this with rfl | rfl | rfl
  · have h : (rtag KQ 5 key text).size = 32 := Dg.hmac_size_256 key text
    omega
  · have h : (rtag KQ 6 key text).size = 48 := Dg.hmac_size_384 key text
    omega
  · exact Nat.le_of_eq (Dg.hmac_size_512 (KQ := KQ) key text)

set_option maxHeartbeats 1000000 in
theorem csign (v : Int) (key text : ByteArray) (w : World) (hK : Dg.Kon KQ w) (hs : SignsP v key) (ht : text.size ≤ 1048576) :
    Calls Try.prog 48 #[.agg #[], .int .i64 v, .string key, .string text] w fun e w' => e = .returned (.string (rtag KQ v key text)) ∧ Below w.heap.size w w' := by
  have HC := Lib.hid (pcode v)
  have HJ : Calls Try.prog 52 #[.int .i64 (bitsOf v), .string key, .slice (some ⟨w.heap.size + 1, 0, none⟩) 1 1] ((w.alloc (.cells #[] 47)).alloc (.cells #[.string text] 9)) fun e w' => e = .returned (.string (rtag KQ v key text)) ∧ Below w.heap.size w w' := by
    have hsz : (w.alloc (.cells #[] 47)).heap.size = w.heap.size + 1 := Aes.alloc_size _ _
    refine (rsum v key text _ _ ((hK.alloc _).alloc _) hs ht (Dg.joins_one _ _ _ _ _ (by rw [Aes.alloc_size, hsz]; omega) (by rw [← hsz, cell_of_row _ _ _ _ _ _ (heap_alloc_new (w.alloc (.cells #[] 47)) _)]; rfl))).mono ?_
    rintro e w' ⟨rfl, hb⟩
    exact ⟨rfl, Aes.below_link (Aes.below_alloc (Aes.below_alloc (Below.refl _ _) _) _) hb⟩
  have HJ := Lib.hid HJ
  obtain ⟨T, hT⟩ : ∃ T, T = rtag KQ v key text := ⟨_, rfl⟩
  rw [← hT] at HJ ⊢
  clear hK hs ht hT
  go_enter Try.func48, Try.ntmps48
  go_wp2_with fail
  refine (HC.out _).mono ?_
  rintro e w1 ⟨rfl, hw⟩
  rw [hw]
  clear hw
  go_wp2_with fail
  refine HJ.out.mono ?_
  rintro e w2 ⟨rfl, hb⟩
  have HB := Lib.hid hb; clear hb
  go_wp2
  go_ret
  exact ⟨rfl, HB.out⟩

set_option maxHeartbeats 1000000 in
theorem cholds (v : Int) (key text tag : ByteArray) (w : World) (hK : Dg.Kon KQ w) (hs : SignsP v key) (ht : text.size ≤ 1048576) (hg : tag.size ≤ 1048576) :
    Calls Try.prog 45 #[.agg #[], .int .i64 v, .string key, .string text, .string tag] w fun e w' => e = .returned (.bool (decide (tag = rtag KQ v key text))) ∧ Below w.heap.size w w' := by
  have HS := Lib.hid (fun X (h : Dg.Kon KQ X) => csign v key text X h hs ht)
  have HE := Lib.hid (fun X => Gcm.same_any tag (rtag KQ v key text) X (by omega) (by have := rtag_size (KQ := KQ) v key text hs; omega))
  have HK := Lib.hid (hK.alloc (.cells #[] 47))
  obtain ⟨T, hT⟩ : ∃ T, T = rtag KQ v key text := ⟨_, rfl⟩
  rw [← hT] at HS HE ⊢
  obtain ⟨r, hr⟩ : ∃ r, r = decide (tag = T) := ⟨_, rfl⟩
  rw [← hr] at HE ⊢
  clear hK hs ht hT hg hr
  go_enter Try.func45, Try.ntmps45
  go_wp2_with fail
  refine (HS.out _ HK.out).mono ?_
  rintro e w1 ⟨rfl, hb⟩
  have HB := Lib.hid (Aes.below_link ((Below.refl w.heap.size w).alloc (Nat.le_refl _) _) hb); clear hb
  go_wp2_with fail
  refine (HE.out _).mono ?_
  rintro e w2 ⟨rfl, hb⟩
  have HB2 := Lib.hid (Aes.below_link HB.out hb); clear hb
  go_wp2
  go_ret
  exact ⟨rfl, HB2.out⟩

/-- The words of a sealing variant's key. -/
def wordsOf (v : Int) : Nat := if v = 1 then 4 else 8
theorem words_key {v : Int} {key nonce : ByteArray} (h : SealsP v key nonce) : (wordsOf v = 4 ∨ wordsOf v = 8) ∧ key.size = 4 * wordsOf v ∧ 8 ≤ nonce.size ∧ nonce.size ≤ 16 := by
  unfold wordsOf
  obtain ⟨⟨rfl, hk⟩ | ⟨rfl, hk⟩, h8, h16⟩ := h
  · exact ⟨.inl rfl, by rw [hk]; rfl, h8, h16⟩
  · exact ⟨.inr rfl, by rw [hk]; rfl, h8, h16⟩

set_option maxHeartbeats 1000000 in
theorem cseal (v : Int) (key nonce beside text : ByteArray) (w : World) (hs : SealsP v key nonce) (hb : beside.size ≤ 1048576) (ht : text.size ≤ 1048576) :
    Calls Try.prog 47 #[.agg #[], .int .i64 v, .string key, .string nonce, .string beside, .string text] w fun e w' => e = .returned (.tuple #[.string (Gcm.turnB (wordsOf v) key nonce text), .string (Gcm.tagB (wordsOf v) key nonce beside (Gcm.turnB (wordsOf v) key nonce text)), .int .i64 0]) ∧ Below w.heap.size w w' := by
  obtain ⟨h1, h2, h3, h4⟩ := words_key hs
  have HS := Lib.hid (fun X => Gcm.seal_ok (wordsOf v) key nonce beside text X h1 h2 h3 h4 (by omega) (by omega))
  obtain ⟨S, hS⟩ : ∃ T, T = Gcm.turnB (wordsOf v) key nonce text := ⟨_, rfl⟩
  rw [← hS] at HS ⊢
  obtain ⟨T, hT⟩ : ∃ T, T = Gcm.tagB (wordsOf v) key nonce beside S := ⟨_, rfl⟩
  rw [← hT] at HS ⊢
  clear hs hb ht h1 h2 h3 h4 hS hT
  go_enter Try.func47, Try.ntmps47
  go_wp2_with fail
  refine (HS.out _).mono ?_
  rintro e w1 ⟨rfl, hb⟩
  have HB := Lib.hid (Aes.below_link ((Below.refl w.heap.size w).alloc (Nat.le_refl _) _) hb); clear hb
  go_wp2
  exact bodyPost_ret (results_tmp3 rfl _ _ _) rfl ⟨rfl, HB.out⟩

set_option maxHeartbeats 1000000 in
theorem copen (v : Int) (key nonce beside text : ByteArray) (w : World) (hs : SealsP v key nonce) (hb : beside.size ≤ 1048576) (ht : text.size ≤ 1048576) :
    Calls Try.prog 46 #[.agg #[], .int .i64 v, .string key, .string nonce, .string beside, .string (Gcm.turnB (wordsOf v) key nonce text), .string (Gcm.tagB (wordsOf v) key nonce beside (Gcm.turnB (wordsOf v) key nonce text))] w fun e w' => e = .returned (.tuple #[.string text, .int .i64 0]) ∧ Below w.heap.size w w' := by
  obtain ⟨h1, h2, h3, h4⟩ := words_key hs
  have HS := fun X => Gcm.open_ok (wordsOf v) key nonce beside (Gcm.turnB (wordsOf v) key nonce text) (Gcm.tagB (wordsOf v) key nonce beside (Gcm.turnB (wordsOf v) key nonce text)) X h1 h2 h3 h4 (by omega) (by rw [Gcm.turnB_size]; omega) (by rw [Gcm.tagB_size]; decide)
  have hv : Gcm.openV (wordsOf v) key nonce beside (Gcm.turnB (wordsOf v) key nonce text) (Gcm.tagB (wordsOf v) key nonce beside (Gcm.turnB (wordsOf v) key nonce text)) = .tuple #[.string text, .int .i64 0] := by
    unfold Gcm.openV
    rw [if_pos rfl, Gcm.turnB_turnB]
  rw [hv] at HS
  have HS := Lib.hid HS
  obtain ⟨S, hS⟩ : ∃ T, T = Gcm.turnB (wordsOf v) key nonce text := ⟨_, rfl⟩
  rw [← hS] at HS ⊢
  obtain ⟨T, hT⟩ : ∃ T, T = Gcm.tagB (wordsOf v) key nonce beside S := ⟨_, rfl⟩
  rw [← hT] at HS ⊢
  clear hs hb ht h1 h2 h3 h4 hS hT hv
  go_enter Try.func46, Try.ntmps46
  go_wp2_with fail
  refine (HS.out _).mono ?_
  rintro e w1 ⟨rfl, hb⟩
  have HB := Lib.hid (Aes.below_link ((Below.refl w.heap.size w).alloc (Nat.le_refl _) _) hb); clear hb
  go_wp2
  exact bodyPost_ret (results_tmp2 rfl _ _ _) rfl ⟨rfl, HB.out⟩
end Eng
end Go.Proofs.Ytedoggejbhbebaa

/-
  A real engine and its calls. Conditions: the table of round constants holds eighty words; texts of at most 2^20 bytes.
-/
namespace Go.Proofs.Ytedoggejbhbebaa
namespace Eng
open Go.ChangeShapes Go.WideShapes Go.ChangeAt Go.RowKit Go.Great
set_option linter.unusedVariables false
set_option maxRecDepth 100000
variable {KQ : Dg.KTab}

/-- Block g is a real engine; the table of constants holds KQ's words; nothing of W has changed. -/
structure Re (KQ : Dg.KTab) (W : World) (g : Nat) (X : World) : Prop where
  eng : X.heap[g]? = some (.cells #[.iface 47 (.agg #[])] 51 (0, 0))
  kon : Dg.Kon KQ X
  below : Below W.heap.size W X
theorem Re.next {W X Y : World} {g : Nat} (h : Re KQ W g X) (hb : Below X.heap.size X Y) : Re KQ W g Y :=
  ⟨Aes.keepBlock h.eng hb, h.kon.next hb, Aes.below_link h.below hb⟩

set_option maxHeartbeats 1000000 in
theorem resign (W X : World) (g : Nat) (v : Int) (key text : ByteArray) (h : Re KQ W g X) (hs : SignsP v key) (ht : text.size ≤ 1048576) :
    Calls Try.prog 15 #[.pointer (some ⟨g, 0, none⟩), .int .i64 v, .string key, .string text] X fun e w' => e = .returned (.tuple #[.string (rtag KQ v key text), .int .i64 0]) ∧ Re KQ W g w' := by
  have HM := Lib.hid (pmay_sign v key)
  rw [decide_eq_true hs] at HM
  have HI := Lib.hid (inner_any g _ _ X h.eng)
  have HS := Lib.hid (csign v key text X h.kon hs ht)
  have HH := Lib.hid h
  have hm : ∀ X, (method 263 47 (.agg #[]) "dromond/engine.sign").run Try.prog X = .ok (48, .agg #[]) X := fun _ => by kernel_rfl
  obtain ⟨T, hT⟩ : ∃ T, T = rtag KQ v key text := ⟨_, rfl⟩
  rw [← hT] at HS ⊢
  clear h hs ht hT
  go_enter Try.func15, Try.ntmps15
  go_wp2_with fail
  refine (HM.out _).mono ?_
  rintro e w1 ⟨rfl, hw⟩
  rw [hw]
  clear hw
  go_wp2_with fail
  refine HI.out.mono ?_
  rintro e w1 ⟨rfl, hw⟩
  rw [hw]
  clear hw
  go_wp2_with fail
  refine HS.out.mono ?_
  rintro e w3 ⟨rfl, hb⟩
  have HA := Lib.hid (HH.out.next hb); clear hb
  go_wp2
  exact bodyPost_ret (results_tmp2 rfl _ _ _) rfl ⟨rfl, HA.out⟩

set_option maxHeartbeats 1000000 in
theorem reseal (W X : World) (g : Nat) (v : Int) (key nonce beside text : ByteArray) (h : Re KQ W g X) (hs : SealsP v key nonce) (hbs : beside.size ≤ 1048576) (ht : text.size ≤ 1048576) :
    Calls Try.prog 16 #[.pointer (some ⟨g, 0, none⟩), .int .i64 v, .string key, .string nonce, .string beside, .string text] X fun e w' => e = .returned (.tuple #[.string (Gcm.turnB (wordsOf v) key nonce text), .string (Gcm.tagB (wordsOf v) key nonce beside (Gcm.turnB (wordsOf v) key nonce text)), .int .i64 0]) ∧ Re KQ W g w' := by
  have HM := Lib.hid (pmay_seal v key nonce)
  rw [decide_eq_true hs] at HM
  have HI := Lib.hid (inner_any g _ _ X h.eng)
  have HS := Lib.hid (cseal v key nonce beside text X hs hbs ht)
  have HH := Lib.hid h
  have hm : ∀ X, (method 263 47 (.agg #[]) "dromond/engine.seal").run Try.prog X = .ok (47, .agg #[]) X := fun _ => by kernel_rfl
  obtain ⟨S, hS⟩ : ∃ T, T = Gcm.turnB (wordsOf v) key nonce text := ⟨_, rfl⟩
  rw [← hS] at HS ⊢
  obtain ⟨T, hT⟩ : ∃ T, T = Gcm.tagB (wordsOf v) key nonce beside S := ⟨_, rfl⟩
  rw [← hT] at HS ⊢
  clear h hs ht hS hT hbs
  go_enter Try.func16, Try.ntmps16
  go_wp2_with fail
  refine (HM.out _).mono ?_
  rintro e w1 ⟨rfl, hw⟩
  rw [hw]
  clear hw
  go_wp2_with fail
  refine HI.out.mono ?_
  rintro e w1 ⟨rfl, hw⟩
  rw [hw]
  clear hw
  go_wp2_with fail
  refine HS.out.mono ?_
  rintro e w3 ⟨rfl, hb⟩
  have HA := Lib.hid (HH.out.next hb); clear hb
  go_wp2
  exact bodyPost_ret (results_tmp3 rfl _ _ _) rfl ⟨rfl, HA.out⟩

set_option maxHeartbeats 1000000 in
theorem reholds (W X : World) (g : Nat) (v : Int) (key text : ByteArray) (h : Re KQ W g X) (hs : SignsP v key) (ht : text.size ≤ 1048576) :
    Calls Try.prog 19 #[.pointer (some ⟨g, 0, none⟩), .int .i64 v, .string key, .string text, .string (rtag KQ v key text)] X fun e w' => e = .returned (.int .i64 0) ∧ Re KQ W g w' := by
  have HM := Lib.hid (pmay_sign v key)
  rw [decide_eq_true hs] at HM
  have HI := Lib.hid (inner_any g _ _ X h.eng)
  have HS := Lib.hid (cholds v key text (rtag KQ v key text) X h.kon hs ht (by have := rtag_size (KQ := KQ) v key text hs; omega))
  rw [decide_eq_true rfl] at HS
  have HH := Lib.hid h
  have hm : ∀ X, (method 263 47 (.agg #[]) "dromond/engine.holds").run Try.prog X = .ok (45, .agg #[]) X := fun _ => by kernel_rfl
  obtain ⟨T, hT⟩ : ∃ T, T = rtag KQ v key text := ⟨_, rfl⟩
  rw [← hT] at HS ⊢
  clear h hs ht hT
  go_enter Try.func19, Try.ntmps19
  go_wp2_with fail
  refine (HM.out _).mono ?_
  rintro e w1 ⟨rfl, hw⟩
  rw [hw]
  clear hw
  go_wp2_with fail
  refine HI.out.mono ?_
  rintro e w1 ⟨rfl, hw⟩
  rw [hw]
  clear hw
  go_wp2_with fail
  refine HS.out.mono ?_
  rintro e w3 ⟨rfl, hb⟩
  have HA := Lib.hid (HH.out.next hb); clear hb
  go_wp2
  go_ret
  exact ⟨rfl, HA.out⟩

set_option maxHeartbeats 1000000 in
theorem reopen (W X : World) (g : Nat) (v : Int) (key nonce beside text : ByteArray) (h : Re KQ W g X) (hs : SealsP v key nonce) (hbs : beside.size ≤ 1048576) (ht : text.size ≤ 1048576) :
    Calls Try.prog 20 #[.pointer (some ⟨g, 0, none⟩), .int .i64 v, .string key, .string nonce, .string beside, .string (Gcm.turnB (wordsOf v) key nonce text), .string (Gcm.tagB (wordsOf v) key nonce beside (Gcm.turnB (wordsOf v) key nonce text))] X fun e w' => e = .returned (.tuple #[.string text, .int .i64 0]) ∧ Re KQ W g w' := by
  have HM := Lib.hid (pmay_seal v key nonce)
  rw [decide_eq_true hs] at HM
  have HI := Lib.hid (inner_any g _ _ X h.eng)
  have HS := Lib.hid (copen v key nonce beside text X hs hbs ht)
  have HH := Lib.hid h
  have hm : ∀ X, (method 263 47 (.agg #[]) "dromond/engine.open").run Try.prog X = .ok (46, .agg #[]) X := fun _ => by kernel_rfl
  obtain ⟨S, hS⟩ : ∃ T, T = Gcm.turnB (wordsOf v) key nonce text := ⟨_, rfl⟩
  rw [← hS] at HS ⊢
  obtain ⟨T, hT⟩ : ∃ T, T = Gcm.tagB (wordsOf v) key nonce beside S := ⟨_, rfl⟩
  rw [← hT] at HS ⊢
  clear h hs ht hS hT hbs
  go_enter Try.func20, Try.ntmps20
  go_wp2_with fail
  refine (HM.out _).mono ?_
  rintro e w1 ⟨rfl, hw⟩
  rw [hw]
  clear hw
  go_wp2_with fail
  refine HI.out.mono ?_
  rintro e w1 ⟨rfl, hw⟩
  rw [hw]
  clear hw
  go_wp2_with fail
  refine HS.out.mono ?_
  rintro e w3 ⟨rfl, hb⟩
  have HA := Lib.hid (HH.out.next hb); clear hb
  go_wp2
  exact bodyPost_ret (results_tmp2 rfl _ _ _) rfl ⟨rfl, HA.out⟩
end Eng
end Go.Proofs.Ytedoggejbhbebaa

/-
  The type of a call in this program: its shape, and an argument of it opened. Conditions: none.
-/
namespace Go.Proofs.Ytedoggejbhbebaa
namespace Eng
open Go.ChangeShapes Go.WideShapes Go.ChangeAt Go.RowKit Go.ChangeMaps Go.Joins Go.Deep
set_option linter.unusedVariables false
set_option maxRecDepth 100000
theorem shape_op : ∃ f0 f1 f2 f3 f4 f5 f6 f7, Shape Try.prog 29 f0 f1 f2 f3 f4 f5 f6 f7 :=
  ⟨_, _, _, _, _, _, _, _, ⟨Try.underlying29, by kernel_rfl, by kernel_rfl, Try.underlying5, Try.underlying3, Try.underlying9, Try.underlying9, Try.underlying9, Try.underlying9, Try.underlying9, Try.underlying5⟩⟩
theorem open_op {H : Type} {enc : TypeId × Value → H} {w : World} {base b0 : Nat} {spare : Nat → Bool} {held : Bool} {r : Reach} {v : Value} {d : DataW H} {p : List MemPlace} (hv : Value.okWide Try.prog w r b0 29 v) (h : DataW.Trod enc Try.prog w base spare held 29 v d p) :
    ∃ c : Call, v = .agg #[.int .u8 c.kind, .int .i64 c.variant, .string c.key, .string c.nonce, .string c.beside, .string c.text, .string c.tag, .int .u8 c.back] ∧ c.Ok := by
  obtain ⟨f0, f1, f2, f3, f4, f5, f6, f7, S⟩ := shape_op
  obtain ⟨c, rfl, _, _, hc⟩ := open_call S hv h
  exact ⟨c, rfl, hc⟩
end Eng
end Go.Proofs.Ytedoggejbhbebaa
