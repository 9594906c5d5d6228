/-
  The walk of EngineBlind: it returns true for all slices of texts. Conditions: none.
-/
import Derived.Test.YtedoggejbhbebaaKh
import Derived.Test.YtedoggejbhbebaaEo
namespace Go.Proofs.Ytedoggejbhbebaa
namespace Eng
open Go.ChangeShapes Go.WideShapes Go.ChangeAt Go.RowKit Go.Great
open Gf Aes Gcm
set_option linter.unusedVariables false
set_option maxRecDepth 100000

/-- Two ideal engines with n and m entries, each in blocks of its own, made since W. -/
structure Tw (W : World) (g c h d n m : Nat) (X : World) : Prop where
  two : ∃ v u L M, Idl X g c v L ∧ Idl X h d u M ∧ L.length = n ∧ M.length = m ∧ (∀ b, Own2 c v b → W.heap.size ≤ b ∧ ¬ Own2 d u b ∧ b ≠ h) ∧ ∀ b, Own2 d u b → W.heap.size ≤ b ∧ b ≠ g
  below : Below W.heap.size W X
section
variable {W X Y : World} {g c h d n m : Nat}
theorem Tw.swap (t : Tw W g c h d n m X) : Tw W h d g c m n X := by
  obtain ⟨v, u, L, M, i1, i2, l1, l2, o1, o2⟩ := t.two
  exact ⟨⟨u, v, M, L, i2, i1, l2, l1, fun b hb => ⟨(o2 b hb).1, fun hc => (o1 b hc).2.1 hb, (o2 b hb).2⟩, fun b hb => ⟨(o1 b hb).1, (o1 b hb).2.2⟩⟩, t.below⟩
theorem Tw.next (t : Tw W g c h d n m X) (hb : Below X.heap.size X Y) : Tw W g c h d n m Y := by
  obtain ⟨v, u, L, M, i1, i2, l1, l2, o1, o2⟩ := t.two
  exact ⟨⟨v, u, L, M, i1.below hb, i2.below hb, l1, l2, o1, o2⟩, below_link t.below hb⟩
theorem Tw.after {v : Value} {L L' : List Ent} {u : Value} {M : List Ent} (hb : Below W.heap.size W X) (i1 : Idl X g c v L) (i2 : Idl X h d u M) (o1 : ∀ b, Own2 c v b → W.heap.size ≤ b ∧ ¬ Own2 d u b ∧ b ≠ h) (o2 : ∀ b, Own2 d u b → W.heap.size ≤ b ∧ b ≠ g)
    (ha : AfterI X g c v L' Y) (hl : L'.length = n) (hm : M.length = m) : Tw W g c h d n m Y := by
  obtain ⟨v', hi', hv', hc'⟩ := ha
  refine ⟨⟨v', u, L', M, hi', ⟨?_, ?_, i2.gc, i2.gv⟩, hl, hm, ?_, o2⟩, hb.trans (hc'.below hb.size fun b hb => (o1 b hb).1)⟩
  · rw [hc'.block h i2.lt (fun e => (o1 h e).2.2 rfl)]; exact i2.eng
  · exact i2.core.chg hc' fun b hb he => (o1 b he).2.1 hb
  · intro b hk
    rcases hk with rfl | hk
    · exact o1 _ (.inl rfl)
    · rcases hv' b hk with h1 | h1
      · exact o1 b (.inr h1)
      · refine ⟨by have := hb.size; omega, fun e => ?_, ?_⟩
        · have := i2.core.own_lt b e; omega
        · have := i2.lt; omega
theorem Tw.sign (t : Tw W g c h d n m X) (hn : n ≤ 1000) (var : Int) (key text : ByteArray) (hs : SignsP var key) :
    Calls Try.prog 15 #[.pointer (some ⟨g, 0, none⟩), .int .i64 var, .string key, .string text] X fun e w' => e = .returned (.tuple #[.string (freshTag (n + 1) var), .int .i64 0]) ∧ Tw W g c h d (n + 1) m w' := by
  obtain ⟨v, u, L, M, i1, i2, rfl, l2, o1, o2⟩ := t.two
  refine (esign_any g c v L var key text X i1 hn hs).mono ?_
  rintro e w' ⟨rfl, ha⟩
  exact ⟨rfl, Tw.after t.below i1 i2 o1 o2 ha (by simp) l2⟩
theorem Tw.seal (t : Tw W g c h d n m X) (hn : n ≤ 1000) (var : Int) (key nonce beside text : ByteArray) (ht : text.size ≤ 1073741824) (hs : SealsP var key nonce) :
    Calls Try.prog 16 #[.pointer (some ⟨g, 0, none⟩), .int .i64 var, .string key, .string nonce, .string beside, .string text] X fun e w' => e = .returned (.tuple #[.string (toE (freshL (n + 1) text.size)), .string (freshTag (n + 1) var), .int .i64 0]) ∧ Tw W g c h d (n + 1) m w' := by
  obtain ⟨v, u, L, M, i1, i2, rfl, l2, o1, o2⟩ := t.two
  refine (eseal_any g c v L var key nonce beside text X i1 hn ht hs).mono ?_
  rintro e w' ⟨rfl, ha⟩
  exact ⟨rfl, Tw.after t.below i1 i2 o1 o2 ha (by simp) l2⟩
theorem Tw.len (t : Tw W g c h d n m X) : Calls Try.prog 12 #[.pointer (some ⟨g, 0, none⟩)] X fun e w' => e = .returned (.int .i64 (n : Nat)) ∧ w' = X := by
  obtain ⟨v, u, L, M, i1, i2, rfl, l2, o1, o2⟩ := t.two
  exact elen_any g c v L X i1
end
/-- Two engines are made. -/
theorem two_made {W w1 w2 : World} {g c h d : Nat} (hb : Below W.heap.size W w1) (i1 : Idl w1 g c (.slice none 0 0) []) (hg : W.heap.size ≤ g) (hc : W.heap.size ≤ c) (i2 : Idl w2 h d (.slice none 0 0) []) (h3 : w1.heap.size ≤ h) (h4 : w1.heap.size ≤ d) (hb2 : Below w1.heap.size w1 w2) : Tw W g c h d 0 0 w2 := by
  have lg := i1.lt
  have lc := i1.core.lt
  refine ⟨⟨_, _, [], [], i1.below hb2, i2, rfl, rfl, ?_, ?_⟩, below_link hb hb2⟩
  · rintro b (rfl | hk)
    · refine ⟨hc, ?_, by omega⟩
      rintro (e | e)
      · omega
      · simp [Value.ownBlock] at e
    · simp [Value.ownBlock] at hk
  · rintro b (rfl | hk)
    · exact ⟨by have := hb.size; omega, by omega⟩
    · simp [Value.ownBlock] at hk

theorem Texts.cell {W X : World} {A : Option Addr} {len : Nat} {S : Nat → ByteArray} (h : Texts W A len S) (hb : Below W.heap.size W X) (i : Nat) (hi : i < len) : ∃ b off, A = some ⟨b, off, none⟩ ∧ X.cell? ⟨b, off + i, none⟩ = some (.string (S i)) := by
  obtain ⟨b, off, e, hl, hc⟩ := h.at_ i hi
  exact ⟨b, off, e, (hb.cell (p := ⟨b, off + i, none⟩) hl).trans hc⟩

set_option maxHeartbeats 4000000 in
theorem blind_walk (A B : Option Addr) (la ca lb cb : Nat) (S R : Nat → ByteArray) (w : World) (hA : Texts w A la S) (hB : Texts w B lb R) : Calls Try.prog 6 #[.slice A la ca, .slice B lb cb] w fun e w' => e = .returned (.bool true) ∧ Below w.heap.size w w' := by
  by_cases h20 : la ≤ 20
  · by_cases hab : lb = la
    · subst hab
      have g1 : decide ((20 : Int) < (lb : Int)) = false := by simp; omega
      have g2 : decide (20 < lb) = false := by simp; omega
      have HTA := Lib.hid hA
      have HTB := Lib.hid hB
      clear hA hB
      go_enter Try.func6, Try.ntmps6
      go_wp2_with fail
      refine (awake_any _).mono ?_
      rintro e w1 ⟨rfl, hb⟩
      have HB := Lib.hid hb; clear hb
      go_wp2_with fail
      refine (ideal_any _).mono ?_
      rintro e w2 ⟨g, c, rfl, hi, h1, h2, h3, h4, hb⟩
      have HI := Lib.hid hi
      have HB2 := Lib.hid (below_link HB.out hb)
      have HG := Lib.hid (And.intro (Nat.le_trans HB.out.size h1) (Nat.le_trans HB.out.size h2))
      clear hi h1 h2 h3 h4 hb
      go_wp2_with fail
      refine (ideal_any _).mono ?_
      rintro e w3 ⟨h, d, rfl, hi, h1, h2, h3, h4, hb⟩
      have HT := Lib.hid (two_made HB2.out HI.out HG.out.1 HG.out.2 hi h1 h2 hb)
      clear hi h1 h2 h3 h4 hb
      go_wp2
      go_loopw [8] (fun x wr => ∃ k : Nat, k ≤ lb ∧ x = .int .i64 (k : Nat) ∧ Tw w g c h d (2 * k) (2 * k) wr) (fun x _ => lb - (intOf x).toNat)
      case atStart => exact ⟨0, Nat.zero_le _, rfl, HT.out⟩
      case round =>
        obtain ⟨k, hk, rfl, hQ⟩ := hrel
        clear HT HI HB HB2
        by_cases hlt : k < lb
        · obtain ⟨b, off, rfl, -⟩ := HTA.out.at_ k hlt
          obtain ⟨b2, off2, rfl, -⟩ := HTB.out.at_ k hlt
          obtain ⟨s, hs⟩ : ∃ s, s = S k := ⟨_, rfl⟩
          obtain ⟨r, hr⟩ : ∃ r, r = R k := ⟨_, rfl⟩
          have cA : ∀ X, Below w.heap.size w X → X.cell? ⟨b, off + k, none⟩ = some (.string s) := fun X hX => by
            obtain ⟨b', off', e, hc⟩ := HTA.out.cell hX k hlt
            cases e
            rw [hs]; exact hc
          have cB : ∀ X, Below w.heap.size w X → X.cell? ⟨b2, off2 + k, none⟩ = some (.string r) := fun X hX => by
            obtain ⟨b', off', e, hc⟩ := HTB.out.cell hX k hlt
            cases e
            rw [hr]; exact hc
          have hb := hQ.below
          have HQ := Lib.hid hQ
          clear hQ hs hr
          by_cases h60 : s.size ≤ 60
          · have f1 : decide ((60 : Int) < (s.size : Int)) = false := by simp; omega
            have f2 : decide (60 < s.size) = false := by simp; omega
            by_cases hrs : r.size = s.size
            · obtain ⟨T1, hT1⟩ : ∃ T, T = freshTag (2 * k + 1) 7 := ⟨_, rfl⟩
              obtain ⟨T2, hT2⟩ : ∃ T, T = freshTag (2 * k + 1 + 1) 1 := ⟨_, rfl⟩
              obtain ⟨X1, hX1⟩ : ∃ T, T = toE (freshL (2 * k + 1 + 1) s.size) := ⟨_, rfl⟩
              have z1 : T1.size = 64 := by rw [hT1]; unfold freshTag; rw [toE_size, freshL_length]; rfl
              have z2 : T2.size = 16 := by rw [hT2]; unfold freshTag; rw [toE_size, freshL_length]; rfl
              have z3 : X1.size = s.size := by rw [hX1, toE_size, freshL_length]
              have C1 : ∀ X, Tw w g c h d (2 * k) (2 * k) X → Calls Try.prog 15 #[.pointer (some ⟨g, 0, none⟩), .int .i64 7, .string ⟨#[48, 49, 50, 51, 52, 53, 54, 55, 56, 57, 97, 98, 99, 100, 101, 102]⟩, .string s] X fun e w' => e = .returned (.tuple #[.string T1, .int .i64 0]) ∧ Tw w g c h d (2 * k + 1) (2 * k) w' := fun X t => by
                rw [hT1]; exact t.sign (by omega) 7 _ s ⟨by omega, by decide, by decide⟩
              have C2 : ∀ X, Tw w g c h d (2 * k + 1) (2 * k) X → Calls Try.prog 15 #[.pointer (some ⟨h, 0, none⟩), .int .i64 7, .string ⟨#[48, 49, 50, 51, 52, 53, 54, 55, 56, 57, 97, 98, 99, 100, 101, 102]⟩, .string r] X fun e w' => e = .returned (.tuple #[.string T1, .int .i64 0]) ∧ Tw w g c h d (2 * k + 1) (2 * k + 1) w' := fun X t => by
                rw [hT1]
                refine (t.swap.sign (by omega) 7 _ r ⟨by omega, by decide, by decide⟩).mono ?_
                rintro e w' ⟨h1, h2⟩
                exact ⟨h1, h2.swap⟩
              have C3 : ∀ X, Tw w g c h d (2 * k + 1) (2 * k + 1) X → Calls Try.prog 16 #[.pointer (some ⟨g, 0, none⟩), .int .i64 1, .string ⟨#[48, 49, 50, 51, 52, 53, 54, 55, 56, 57, 97, 98, 99, 100, 101, 102]⟩, .string ⟨#[110, 111, 110, 99, 101, 97, 97, 97]⟩, .string ⟨#[119]⟩, .string s] X fun e w' => e = .returned (.tuple #[.string X1, .string T2, .int .i64 0]) ∧ Tw w g c h d (2 * k + 1 + 1) (2 * k + 1) w' := fun X t => by
                rw [hX1, hT2]; exact t.seal (by omega) 1 _ _ _ s (by omega) ⟨.inl ⟨rfl, by decide⟩, by decide, by decide⟩
              have C4 : ∀ X, Tw w g c h d (2 * k + 1 + 1) (2 * k + 1) X → Calls Try.prog 16 #[.pointer (some ⟨h, 0, none⟩), .int .i64 1, .string ⟨#[48, 49, 50, 51, 52, 53, 54, 55, 56, 57, 97, 98, 99, 100, 101, 102]⟩, .string ⟨#[110, 111, 110, 99, 101, 97, 97, 97]⟩, .string ⟨#[119]⟩, .string r] X fun e w' => e = .returned (.tuple #[.string X1, .string T2, .int .i64 0]) ∧ Tw w g c h d (2 * k + 1 + 1) (2 * k + 1 + 1) w' := fun X t => by
                rw [hX1, hT2, ← hrs]
                refine (t.swap.seal (by omega) 1 _ _ _ r (by omega) ⟨.inl ⟨rfl, by decide⟩, by decide, by decide⟩).mono ?_
                rintro e w' ⟨h1, h2⟩
                exact ⟨h1, h2.swap⟩
              have C1 := Lib.hid C1
              have C2 := Lib.hid C2
              have C3 := Lib.hid C3
              have C4 := Lib.hid C4
              clear hT1 hT2 hX1 h60
              go_wp2
              go_quiet (fail)
              have HQ2 := Lib.hid (HQ.out.next (below_drewN2 (Below.refl _ _) nq))
              have hbq := HQ2.out.below
              clear HQ hb
              go_wp2_with fail
              refine (C1.out _ HQ2.out).mono ?_
              rintro e w4 ⟨rfl, ht⟩
              have T4 := Lib.hid ht
              have hb4 := ht.below
              clear ht hbq
              go_wp2_with fail
              refine (C2.out _ T4.out).mono ?_
              rintro e w5 ⟨rfl, ht⟩
              have T5 := Lib.hid ht
              have hb5 := ht.below
              clear ht hb4
              go_wp2_with fail
              refine (C3.out _ T5.out).mono ?_
              rintro e w6 ⟨rfl, ht⟩
              have T6 := Lib.hid ht
              have hb6 := ht.below
              clear ht hb5
              go_wp2_with fail
              refine (C4.out _ T6.out).mono ?_
              rintro e w7 ⟨rfl, ht⟩
              have T7 := Lib.hid ht
              have hb7 := ht.below
              clear ht hb6
              go_wp2
              go_roundw
              case rel => exact ⟨k + 1, by omega, by simp, T7.out⟩
              case measure => simp [intOf]; omega
            · have f3 : ((r.size : Int) != (s.size : Int)) = true := by simp; omega
              have f4 : ¬ r.size = s.size := hrs
              go_wp2
              go_quiet (fail)
              have HQ2 := Lib.hid (HQ.out.next (below_drewN2 (Below.refl _ _) nq))
              have hbq := HQ2.out.below
              clear HQ hb
              go_wp2
              go_ret
              exact ⟨rfl, HQ2.out.below⟩
          · have f1 : decide ((60 : Int) < (s.size : Int)) = true := by simp; omega
            have f2 : decide (60 < s.size) = true := by simp; omega
            clear h60
            go_wp2
            go_quiet (fail)
            have HQ2 := Lib.hid (HQ.out.next (below_drewN2 (Below.refl _ _) nq))
            have hbq := HQ2.out.below
            clear HQ hb
            go_wp2
            go_ret
            exact ⟨rfl, HQ2.out.below⟩
        · obtain rfl : k = lb := by omega
          obtain ⟨N, hN⟩ : ∃ N, N = 2 * k := ⟨_, rfl⟩
          rw [← hN] at hQ
          have q1 : 2 * (k : Int) = (N : Int) := by omega
          have L1 := Lib.hid hQ.len
          have L2 := Lib.hid hQ.swap.len
          have HB := Lib.hid hQ.below
          clear hN hQ
          go_wp2_with fail
          refine L1.out.mono ?_
          rintro e w4 ⟨rfl, hw⟩
          rw [hw]
          clear hw
          go_wp2_with fail
          refine L2.out.mono ?_
          rintro e w5 ⟨rfl, hw⟩
          rw [hw]
          clear hw
          go_wp2_with fail
          refine L1.out.mono ?_
          rintro e w6 ⟨rfl, hw⟩
          rw [hw]
          clear hw
          go_wp2
          go_ret
          exact ⟨rfl, HB.out⟩
    · have g1 : decide ((20 : Int) < (la : Int)) = false := by simp; omega
      have g2 : decide (20 < la) = false := by simp; omega
      have g3 : ((lb : Int) != (la : Int)) = true := by simp; omega
      clear h20 hA hB
      go_enter Try.func6, Try.ntmps6
      go_wp2_with fail
      refine (awake_any _).mono ?_
      rintro e w1 ⟨rfl, hb⟩
      have HB := Lib.hid hb; clear hb
      go_wp2_with fail
      refine (awake_any _).mono ?_
      rintro e w2 ⟨rfl, hb⟩
      have HB2 := Lib.hid (below_link HB.out hb); clear hb
      go_wp2
      go_ret
      exact ⟨rfl, HB2.out⟩
  · have g1 : decide ((20 : Int) < (la : Int)) = true := by simp; omega
    have g2 : decide (20 < la) = true := by simp; omega
    clear h20 hA hB
    go_enter Try.func6, Try.ntmps6
    go_wp2_with fail
    refine (awake_any _).mono ?_
    rintro e w1 ⟨rfl, hb⟩
    have HB := Lib.hid hb; clear hb
    go_wp2_with fail
    refine (awake_any _).mono ?_
    rintro e w2 ⟨rfl, hb⟩
    have HB2 := Lib.hid (below_link HB.out hb); clear hb
    go_wp2
    go_ret
    exact ⟨rfl, HB2.out⟩
theorem blind_all (A : Option Addr) (la ca : Nat) (S : Nat → ByteArray) (B : Option Addr) (lb cb : Nat) (R : Nat → ByteArray) (w : World) (hA : Texts w A la S) (hB : Texts w B lb R) : Calls Try.prog 6 #[.slice A la ca, .slice B lb cb] w fun e w' => e = .returned (.bool true) ∧ Below w.heap.size w w' :=
  blind_walk A B la ca lb cb S R w hA hB
end Eng
end Go.Proofs.Ytedoggejbhbebaa
