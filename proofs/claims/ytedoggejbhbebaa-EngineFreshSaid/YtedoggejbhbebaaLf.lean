/-
  The walk of EngineFresh: it returns true for every number and every text. Conditions: none.
-/
import Derived.Test.YtedoggejbhbebaaKh
namespace Go.Proofs.Ytedoggejbhbebaa
namespace Eng
open Go.ChangeShapes Go.WideShapes Go.ChangeAt Go.RowKit Go.Great
open Gf Aes Gcm
set_option linter.unusedVariables false
set_option maxRecDepth 100000

theorem infoStr : (Try.prog.info? 9).map (fun i => (i.zero, i.size, i.bytes)) = some (some (.string ⟨#[]⟩), 1, 16) := by kernel_rfl
def keyB : ByteArray := ⟨#[107, 101, 121]⟩
/-- What is signed, k times. -/
def ents (text : ByteArray) (k : Nat) : List Ent := List.replicate k ⟨5, keyB, ⟨#[]⟩, ⟨#[]⟩, text⟩
theorem ents_next (text : ByteArray) (k : Nat) : ents text k ++ [⟨5, keyB, ⟨#[]⟩, ⟨#[]⟩, text⟩] = ents text (k + 1) := by
  unfold ents; rw [List.replicate_succ']
theorem ents_length (text : ByteArray) (k : Nat) : (ents text k).length = k := by simp [ents]
/-- The first k tags. -/
def tagsC (k : Nat) : List Value := (List.range k).map fun i => Value.string (freshTag (i + 1) 5)
theorem tagsC_next (k : Nat) : tagsC k ++ [Value.string (freshTag (k + 1) 5)] = tagsC (k + 1) := by
  unfold tagsC; rw [List.range_succ, List.map_append]; rfl
theorem tagsC_get (k j : Nat) (h : j < k) : (tagsC k)[j]? = some (Value.string (freshTag (j + 1) 5)) := by
  unfold tagsC; rw [List.getElem?_map, List.getElem?_range h]; rfl
theorem tag_ne {i j : Nat} (hi : i < 1000) (hj : j < 1000) (h : i ≠ j) : freshTag (i + 1) 5 ≠ freshTag (j + 1) 5 := by
  intro e
  have h1 := freshTag_num (i + 1) 5 (by have : (1001 : Nat) < 256 ^ 8 := by decide
                                        omega) (by decide)
  have h2 := freshTag_num (j + 1) 5 (by have : (1001 : Nat) < 256 ^ 8 := by decide
                                        omega) (by decide)
  rw [e, h2] at h1
  omega
theorem tag_size (n : Nat) : (freshTag n 5).size = 32 := by
  unfold freshTag
  rw [toE_size, freshL_length]; rfl

/-- The engine and the slice of tags, each in blocks of its own. -/
structure Fr (W : World) (g c : Nat) (text : ByteArray) (n k : Nat) (tg : Value) (X : World) : Prop where
  idl : ∃ v, Idl X g c v (ents text n) ∧ (∀ b, Own2 c v b → W.heap.size ≤ b) ∧ ∀ b, tg.ownBlock = some b → ¬ Own2 c v b ∧ b ≠ g
  far : W.heap.size ≤ g
  row : X.ownsRow W.heap.size 9 1 tg k (tagsC k)
  below : Below W.heap.size W X

section
variable {W X Y : World} {g c n k : Nat} {text : ByteArray} {tg : Value}
theorem Fr.start (h : St W g c [] X) (hg : W.heap.size ≤ g) : Fr W g c text 0 0 (.slice none 0 0) X := by
  obtain ⟨v, hi, ho⟩ := h.idl
  exact ⟨⟨v, hi, ho, fun b hb => by simp [Value.ownBlock] at hb⟩, hg, World.ownsRow_nil _ _ _ _, h.below⟩
theorem Fr.sign (h : Fr W g c text n k tg X) (hn : n ≤ 1000) :
    Calls Try.prog 15 #[.pointer (some ⟨g, 0, none⟩), .int .i64 5, .string keyB, .string text] X fun e w' => e = .returned (.tuple #[.string (freshTag (n + 1) 5), .int .i64 0]) ∧ Fr W g c text (n + 1) k tg w' := by
  obtain ⟨v, hi, ho, ht⟩ := h.idl
  refine (esign_any g c v _ 5 keyB text X hi (by rw [ents_length]; exact hn) ⟨by omega, by decide, by decide⟩).mono ?_
  rintro e w' ⟨rfl, v', hi', hv', hc'⟩
  rw [ents_length]
  rw [ents_next] at hi'
  have hb := h.below
  refine ⟨rfl, ⟨v', hi', ?_, ?_⟩, h.far, ?_, hb.trans (hc'.below hb.size ho)⟩
  · rintro b (rfl | hk)
    · exact ho _ (.inl rfl)
    · rcases hv' b hk with h1 | h1
      · exact ho _ (.inr h1)
      · have := hb.size; omega
  · intro b hbk
    obtain ⟨h1, h2⟩ := ht b hbk
    refine ⟨?_, h2⟩
    rintro (rfl | hk)
    · exact h1 (.inl rfl)
    · rcases hv' b hk with h3 | h3
      · exact h1 (.inr h3)
      · have := (h.row.lt b hbk).2; omega
  · refine ⟨h.row.1, ?_⟩
    rcases h.row.2 with h0 | ⟨q, cap, cur, hv, hbq, hq, r⟩
    · exact .inl h0
    · refine .inr ⟨q, cap, cur, hv, hbq, ?_, r⟩
      rw [hc'.block q (lt_of_block hq) (ht q (by rw [hv]; rfl)).1]
      exact hq
theorem Fr.len (h : Fr W g c text n k tg X) : Calls Try.prog 12 #[.pointer (some ⟨g, 0, none⟩)] X fun e w' => e = .returned (.int .i64 (n : Nat)) ∧ w' = X := by
  obtain ⟨v, hi, -, -⟩ := h.idl
  have := elen_any g c v _ X hi
  rwa [ents_length] at this
theorem Fr.slice (h : Fr W g c text n k tg X) : ∃ A cap, tg = .slice A k cap ∧ ∀ j, j < k → ∃ q, A = some ⟨q, 0, none⟩ ∧ X.cell? ⟨q, j, none⟩ = some (.string (freshTag (j + 1) 5)) := by
  rcases h.row.2 with ⟨h0, h1⟩ | ⟨q, cap, cur, hv, hbq, hq, r⟩
  · subst h1
    exact ⟨_, _, h0, fun j hj => absurd hj (by omega)⟩
  · refine ⟨_, _, hv, fun j hj => ⟨q, rfl, ?_⟩⟩
    have hr := h.row
    rw [hv] at hr
    rw [hr.cellAt j (by omega)]
    exact tagsC_get k j hj
theorem Fr.cells {A : Option Addr} {cap : Nat} (h : Fr W g c text n k (.slice A k cap) X) : ∀ j, j < k → ∃ q, A = some ⟨q, 0, none⟩ ∧ X.cell? ⟨q, j, none⟩ = some (.string (freshTag (j + 1) 5)) := by
  obtain ⟨A', cap', e, hc⟩ := h.slice
  injection e with e1 e2 e3
  subst e1
  exact hc
/-- A tag is appended. -/
theorem Fr.push {Z : World} {o : Obj} {q cap : Nat} (h : Fr W g c text n k tg X) (hown : Z.ownsRow W.heap.size 9 1 (.slice (some ⟨q, 0, none⟩) (k + 1) cap) (k + 1) (tagsC k ++ [Value.string (freshTag (k + 1) 5)])) (hgrow : (X.alloc o).grownBy Z tg.ownBlock) (hat : tg.ownBlock = some q ∨ q = X.heap.size + 1) :
    Fr W g c text n (k + 1) (.slice (some ⟨q, 0, none⟩) (k + 1) cap) Z := by
  obtain ⟨v, hi, ho, ht⟩ := h.idl
  have hXs : (X.alloc o).heap.size = X.heap.size + 1 := alloc_size _ _
  have hkeep : ∀ b, b < X.heap.size → tg.ownBlock ≠ some b → Z.heap[b]? = X.heap[b]? := fun b hb hne => by
    rw [hgrow.block b (by omega) (fun e => hne e.symm)]
    exact Below.heap_alloc _ _ _ hb
  refine ⟨⟨v, ⟨?_, ?_, hi.gc, hi.gv⟩, ho, ?_⟩, h.far, ?_, ?_⟩
  · rw [hkeep g hi.lt (fun e => (ht g e).2 rfl)]; exact hi.eng
  · exact hi.core.keep fun b hb => hkeep b (hi.core.own_lt b hb) (fun e => (ht b e).1 hb)
  · intro b hb
    have : q = b := by simpa [Value.ownBlock] using hb
    subst this
    rcases hat with h1 | h1
    · exact ht _ h1
    · refine ⟨fun hk => ?_, ?_⟩
      · have := hi.core.own_lt _ hk; omega
      · have := hi.lt; omega
  · rw [← tagsC_next]; exact hown
  · exact h.below.trans (((Below.refl W.heap.size X).alloc h.below.size o).grown hgrow (by rw [hXs]; have := h.below.size; omega) (fun b hb => (h.row.lt b hb).1))
end

set_option maxHeartbeats 4000000 in
theorem fresh_walk (n : Nat) (text : ByteArray) (w : World) (hn : n < 256) : Calls Try.prog 7 #[.int .u8 (n : Nat), .string text] w fun e w' => e = .returned (.bool true) ∧ Below w.heap.size w w' := by
  by_cases h40 : text.size ≤ 40
  · have g1 : decide ((40 : Int) < (text.size : Int)) = false := by simp; omega
    have g2 : decide (40 < text.size) = false := by simp; omega
    obtain ⟨m, hm⟩ : ∃ m, m = n % 40 := ⟨_, rfl⟩
    have q1 : Int.tmod (n : Int) 40 = (m : Int) := by rw [Int.tmod_eq_emod_of_nonneg (by omega)]; omega
    have q2 : (n : Int) % 40 = (m : Int) := by omega
    have hm40 : m < 40 := by omega
    obtain ⟨i0, hi0, hz0, hz1, hz2⟩ := info_parts infoStr
    clear h40 hm
    go_enter Try.func7, Try.ntmps7
    go_wp2_with fail
    refine (awake_any _).mono ?_
    rintro e w1 ⟨rfl, hb⟩
    have HB := Lib.hid hb; clear hb
    go_wp2_with fail
    refine (ideal_any _).mono ?_
    rintro e w2 ⟨g, c, rfl, hi, h1, h2, h3, h4, hb⟩
    have hst : St w g c [] w2 := ⟨⟨_, hi, by
      rintro k (rfl | hk)
      · have := HB.out.size; omega
      · simp [Value.ownBlock] at hk⟩, below_link HB.out hb⟩
    have HF := Lib.hid (Fr.start (text := text) hst (by have := HB.out.size; omega))
    clear hi h1 h2 h3 h4 hb hst
    go_wp2
    go_loopw [6, 7] (fun tg x wr => ∃ k : Nat, k ≤ m ∧ x = .int .i64 (k : Nat) ∧ Fr w g c text k k tg wr) (fun _ x _ => m - (intOf x).toNat)
    case atStart => exact ⟨0, Nat.zero_le _, rfl, HF.out⟩
    case round =>
      obtain ⟨k, hk, rfl, hQ⟩ := hrel
      clear HF HB
      by_cases hlt : k < m
      · obtain ⟨T, hT⟩ : ∃ T, T = freshTag (k + 1) 5 := ⟨_, rfl⟩
        have hTs : T.size = 32 := by rw [hT]; exact tag_size _
        obtain ⟨A, cap, rfl, -⟩ := hQ.slice
        have HC := Lib.hid (hQ.sign (by omega))
        rw [← hT] at HC
        have HT := Lib.hid hT
        clear hT hQ
        go_wp2_with fail
        refine HC.out.mono ?_
        rintro e w3 ⟨rfl, hf⟩
        have HF3 := Lib.hid hf; clear hf HC
        go_wp2
        go_loopw [10] (fun x wr => ∃ j : Nat, j ≤ k ∧ x = .int .i64 (j : Nat) ∧ wr = w3) (fun x _ => k - (intOf x).toNat)
        case atStart => exact ⟨0, Nat.zero_le _, rfl, rfl⟩
        case round =>
          obtain ⟨j, hj, rfl, rfl⟩ := hrel
          by_cases hjk : j < k
          · obtain ⟨q, rfl, hcell⟩ := HF3.out.cells j hjk
            have hne := tag_ne (i := j) (j := k) (by omega) (by omega) (by omega)
            rw [← HT.out] at hne
            obtain ⟨U, hU⟩ : ∃ U, U = freshTag (j + 1) 5 := ⟨_, rfl⟩
            rw [← hU] at hcell hne
            have e1 : (U.toList == T.toList) = false := by rw [text_beq]; simp [hne]
            have e2 : ¬ U.toList = T.toList := by rw [text_iff]; exact hne
            clear hU hne
            go_wp2
            go_roundw
            case rel => exact ⟨j + 1, by omega, by simp, trivial⟩
            case measure => simp [intOf]; omega
          · obtain rfl : j = k := by omega
            go_wp2_with (at_builtin; refine wpList_append_lies _ rfl _ _ 43 rfl w.heap.size 9 i0 _ 1 16 Try.underlying43 hi0 hz0 hz1 hz2 rfl (by decide) (.slice A j cap) j (tagsC j) rfl ?o1 ⟨wr.heap.size, 0, none⟩ 1 1 [.string T] rfl rfl ?o2 ?o3 (by omega) ?o4 ?o5 ?o6 (wr.heap.size + 1) ?o7 ?_)
            case o1 => exact HF3.out.row.alloc _
            case o2 => exact World.news_of_block (heap_alloc_new wr _)
            case o3 => intro u hu; simp at hu; subst hu; rfl
            case o4 => unfold maxLen; omega
            case o5 => omega
            case o6 => rw [alloc_size]; have := HF3.out.below.size; omega
            case o7 => rw [alloc_size]
            intro q cap2 wz hown hgrow hat hgl
            have hpush := HF3.out.push (by rw [← HT.out]; exact hown) hgrow hat
            have HP := Lib.hid hpush
            clear hown hgrow hat hgl hpush
            go_wp2
            go_roundw
            case rel => exact ⟨j + 1, by omega, by simp, HP.out⟩
            case measure => simp [intOf]; omega
      · obtain rfl : k = m := by omega
        obtain ⟨A, cap, rfl, -⟩ := hQ.slice
        have HQ := Lib.hid hQ
        have HL := Lib.hid hQ.len
        clear hQ
        go_wp2_with fail
        refine HL.out.mono ?_
        rintro e w3 ⟨rfl, hw⟩
        rw [hw]
        clear hw
        go_wp2
        go_ret
        exact ⟨rfl, HQ.out.below⟩
  · have g1 : decide ((40 : Int) < (text.size : Int)) = true := by simp; omega
    have g2 : decide (40 < text.size) = true := by simp; omega
    clear h40
    go_enter Try.func7, Try.ntmps7
    go_wp2_with fail
    refine (awake_any _).mono ?_
    rintro e w1 ⟨rfl, hb⟩
    have HB := Lib.hid hb; clear hb
    go_wp2_with fail
    refine (awake_any _).mono ?_
    rintro e w2 ⟨rfl, hb⟩
    have HB2 := Lib.hid (below_link HB.out hb); clear hb
    go_wp2
    go_ret
    exact ⟨rfl, HB2.out⟩
end Eng
end Go.Proofs.Ytedoggejbhbebaa
