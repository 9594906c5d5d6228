/-
  Contract of an ideal core's open. Conditions: the core lies in memory; fewer than a thousand entries; texts of at most 2^30 bytes.
-/
import Derived.Test.YtedoggejbhbebaaKe
namespace Go.Proofs.Ytedoggejbhbebaa
namespace Eng
open Go.ChangeShapes Go.WideShapes Go.ChangeAt Go.RowKit Go.Great
open Gf Aes Gcm
set_option linter.unusedVariables false
set_option maxRecDepth 100000

/-- The text that is opened, if there is one. -/
def openOf (L : List Ent) (var : Int) (key nonce beside text tag : ByteArray) : Option ByteArray :=
  match hit L tag with
  | none => none
  | some x => if x = ⟨var, key, nonce, beside, x.text⟩ ∧ text = toE (freshL (numOf tag) x.text.size) then some x.text else none
/-- As two results. -/
def openV : Option ByteArray → Value
  | none => .tuple #[.string ⟨#[]⟩, .int .i64 7]
  | some t => .tuple #[.string t, .int .i64 0]

set_option maxHeartbeats 2000000 in
theorem open_any (c : Nat) (v : Value) (L : List Ent) (var : Int) (key nonce beside text tag : ByteArray) (w : World) (h : Cor w c v L) (hfew : L.length ≤ 1000) (hL : ∀ x ∈ L, x.text.size ≤ 1073741824) (r : Option ByteArray) (hr : r = openOf L var key nonce beside text tag) :
    Calls Try.prog 113 #[.pointer (some ⟨c, 0, none⟩), .int .i64 var, .string key, .string nonce, .string beside, .string text, .string tag] w fun e w' => e = .returned (openV r) ∧ Below w.heap.size w w' := by
  unfold openOf at hr
  rcases hit_cases L tag with ⟨h1, h2⟩ | ⟨n, m, x, h1, h2, h3, h4⟩
  · have H := Lib.hid (tagged_out c v L tag w h hfew h1)
    unfold noEnt at H
    rw [h2] at hr
    subst hr
    unfold openV
    clear h1 h2 h
    go_enter Try.func113, Try.ntmps113
    go_wp2_with fail
    refine H.out.mono ?_
    rintro e w1 ⟨rfl, hb⟩
    have HB := Lib.hid hb; clear hb
    go_wp2
    exact bodyPost_ret (results_tmp2 rfl _ _ _) rfl ⟨rfl, below_alloc (below_alloc HB.out _) _⟩
  · have hxl := hL x (List.mem_of_getElem? h3)
    by_cases ht : tag = freshTag m x.variant
    · have H := Lib.hid (tagged_in c v L tag w h hfew n m x h1 h2 h3 true (by simp [ht]))
      rw [if_pos ht] at h4
      rw [h4] at hr
      simp only [h2] at hr
      have E := fun X => neq_run x ⟨var, key, nonce, beside, x.text⟩ X
      by_cases hk : x = ⟨var, key, nonce, beside, x.text⟩
      · rw [decide_eq_true hk] at E
        have HF := Lib.hid (fun w => fresh_any m x.text.size w (by rw [← h2]; exact numOf_lt tag) hxl)
        obtain ⟨T, hT⟩ : ∃ T, T = toE (freshL m x.text.size) := ⟨_, rfl⟩
        rw [← hT] at HF hr
        have hcell : ∀ w1 w3 : World, Below ((w1.alloc (.cells #[.int .i64 x.variant, .string x.key, .string x.nonce, .string x.beside, .string x.text] 157)).alloc (.cells #[.int .i64 var, .string key, .string nonce, .string beside, .string x.text] 157)).heap.size ((w1.alloc (.cells #[.int .i64 x.variant, .string x.key, .string x.nonce, .string x.beside, .string x.text] 157)).alloc (.cells #[.int .i64 var, .string key, .string nonce, .string beside, .string x.text] 157)) w3 → w3.cell? ⟨w1.heap.size, 4, none⟩ = some (.string x.text) := by
          intro w1 w3 hb
          have h0 : E5 w1.heap.size x ((w1.alloc (.cells #[.int .i64 x.variant, .string x.key, .string x.nonce, .string x.beside, .string x.text] 157)).alloc (.cells #[.int .i64 var, .string key, .string nonce, .string beside, .string x.text] 157)) := keepAlloc (heap_alloc_new w1 _) _
          exact (E5.cells (keepBlock h0 hb)).2.2.2.2
        have HC := Lib.hid hcell; clear hcell
        by_cases ht2 : text = T
        · rw [if_pos ⟨hk, ht2⟩] at hr
          have g3 : (text.toList == T.toList) = true := by rw [text_beq]; simp [ht2]
          have g4 : text.toList = T.toList := by rw [ht2]
          subst hr
          unfold openV
          clear h1 h2 h3 h4 h hL ht2 hT hk ht
          go_enter Try.func113, Try.ntmps113
          go_wp2_with fail
          refine H.out.mono ?_
          rintro e w1 ⟨rfl, hb⟩
          have HB := Lib.hid hb; clear hb
          go_wp2_with fail
          refine (HF.out _).mono ?_
          rintro e w3 ⟨rfl, hb3⟩
          have c4 := HC.out w1 w3 hb3
          have HB3 := Lib.hid (below_link (below_alloc (below_alloc HB.out _) _) hb3); clear hb3
          go_wp2
          exact bodyPost_ret (results_tmp2 rfl _ _ _) rfl ⟨rfl, HB3.out⟩
        · rw [if_neg (fun e => ht2 e.2)] at hr
          have g3 : (text.toList == T.toList) = false := by rw [text_beq]; simp [ht2]
          have g4 : ¬ text.toList = T.toList := by rw [text_iff]; exact ht2
          subst hr
          unfold openV
          clear h1 h2 h3 h4 h hL ht2 hT hk ht
          go_enter Try.func113, Try.ntmps113
          go_wp2_with fail
          refine H.out.mono ?_
          rintro e w1 ⟨rfl, hb⟩
          have HB := Lib.hid hb; clear hb
          go_wp2_with fail
          refine (HF.out _).mono ?_
          rintro e w3 ⟨rfl, hb3⟩
          have c4 := HC.out w1 w3 hb3
          have HB3 := Lib.hid (below_link (below_alloc (below_alloc HB.out _) _) hb3); clear hb3
          go_wp2
          exact bodyPost_ret (results_tmp2 rfl _ _ _) rfl ⟨rfl, HB3.out⟩
      · rw [decide_eq_false hk] at E
        rw [if_neg (fun e => hk e.1)] at hr
        subst hr
        unfold openV
        clear h1 h2 h3 h4 h hL hk ht
        go_enter Try.func113, Try.ntmps113
        go_wp2_with fail
        refine H.out.mono ?_
        rintro e w1 ⟨rfl, hb⟩
        have HB := Lib.hid hb; clear hb
        go_wp2
        exact bodyPost_ret (results_tmp2 rfl _ _ _) rfl ⟨rfl, below_alloc (below_alloc HB.out _) _⟩
    · have H := Lib.hid (tagged_in c v L tag w h hfew n m x h1 h2 h3 false (by simp [ht]))
      rw [if_neg ht] at h4
      rw [h4] at hr
      subst hr
      unfold openV
      clear h1 h2 h3 h4 h hL ht
      go_enter Try.func113, Try.ntmps113
      go_wp2_with fail
      refine H.out.mono ?_
      rintro e w1 ⟨rfl, hb⟩
      have HB := Lib.hid hb; clear hb
      go_wp2
      exact bodyPost_ret (results_tmp2 rfl _ _ _) rfl ⟨rfl, below_alloc (below_alloc HB.out _) _⟩
end Eng
end Go.Proofs.Ytedoggejbhbebaa
