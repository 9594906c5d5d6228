/-
  What TablePlays keeps between its calls. Conditions: none.
-/
import Derived.Test.YtelgglnamojegaaDoAll
import Derived.Test.YtelgglnamojegaaAwake
import Derived.Deep.RegionWith
import Derived.Deep.DeepCutAuto
namespace Go.Proofs.Ytelgglnamojegaa
open Go.ChangeShapes Go.WideShapes Go.ChangeAt Go.RowKit
set_option linter.unusedVariables false

/-- The calls, as they lie in memory. -/
structure Calls3 (w : World) (A : Option Addr) (len : Nat) (K : Nat → Nat) (N : Nat → Int) (S : Nat → ByteArray) : Prop where
  at_ : ∀ i, i < len → ∃ b off, A = some ⟨b, off, none⟩ ∧ b < w.heap.size ∧ w.cell? ⟨b, off + i * 3, none⟩ = some (.int .u8 (K i)) ∧ w.cell? ⟨b, off + i * 3 + 1, none⟩ = some (.int .i64 (N i)) ∧ w.cell? ⟨b, off + i * 3 + 2, none⟩ = some (.string (S i)) ∧ K i < 256

/-- The table and the reference's table have the same entries. -/
structure Play (W wr : World) (b c : Nat) (v vk vv : Value) (most : Nat) (es fs : List (Int × ByteArray)) : Prop where
  tab : Tab 57 62 (Value.int .i64) Value.string wr b v most es
  ref : RTab wr c vk vv most fs
  below : Below W.heap.size W wr
  lb : ∀ k, Own2 b v k → W.heap.size ≤ k
  lc : ∀ k, Own3 c vk vv k → W.heap.size ≤ k
  apart : ∀ k, Own2 b v k → ¬ Own3 c vk vv k

theorem Play.call {W wr w1 : World} {b c : Nat} {v vk vv : Value} {most : Nat} {es fs gs : List (Int × ByteArray)} (h : Play W wr b c v vk vv most es fs) (ha : Ia.After wr b v most gs w1) : ∃ v1, Play W w1 b c v1 vk vv most gs fs := by
  obtain ⟨v1, t1, o1, c1⟩ := ha
  refine ⟨v1, t1, h.ref.chg c1 (fun k hk hk' => h.apart k hk' hk), h.below.trans (c1.below h.below.size h.lb), ?_, h.lc, ?_⟩
  · rintro k (rfl | hk)
    · exact h.lb _ (.inl rfl)
    · rcases o1 k hk with h' | h'
      · exact h.lb k (.inr h')
      · have := h.below.size; omega
  · rintro k (rfl | hk) hk'
    · exact h.apart _ (.inl rfl) hk'
    · rcases o1 k hk with h' | h'
      · exact h.apart k (.inr h') hk'
      · have := h.ref.own_lt k hk'; omega

theorem Play.act {W wr w1 : World} {b c : Nat} {v vk vv : Value} {most : Nat} {es fs gs : List (Int × ByteArray)} (h : Play W wr b c v vk vv most es fs) (ha : RAfter wr c vk vv most gs w1) : ∃ vk1 vv1, Play W w1 b c v vk1 vv1 most es gs := by
  obtain ⟨vk1, vv1, t1, o1, c1⟩ := ha
  refine ⟨vk1, vv1, h.tab.chg c1 (fun k hk e => h.apart k hk (.inl e)), t1, h.below.trans (c1.below h.below.size (fun k e => h.lc k (.inl e))), h.lb, ?_, ?_⟩
  · intro k hk
    rcases o1 k hk with h' | h'
    · exact h.lc k h'
    · have := h.below.size; omega
  · intro k hk hk'
    rcases o1 k hk' with h' | h'
    · exact h.apart k hk h'
    · have := h.tab.own_lt k hk; omega

theorem Play.drew {W wr : World} {b c : Nat} {v vk vv : Value} {most : Nat} {es fs : List (Int × ByteArray)} (h : Play W wr b c v vk vv most es fs) : Play W wr.drew b c v vk vv most es fs :=
  ⟨h.tab.keep fun _ _ => rfl, h.ref.keep fun _ _ => rfl, h.below.drew, h.lb, h.lc, h.apart⟩

theorem Play.start {W w1 w2 : World} {M : Nat} {o : Obj} (h1 : Below W.heap.size W w1) (h2 : Below w1.heap.size w1 w2) (ht : Tab 57 62 (Value.int .i64) Value.string w2 w1.heap.size (.slice none 0 0) M []) (ho : o = .cells #[.slice none 0 0, .slice none 0 0, .int .i64 M] 30) :
    Play W (w2.alloc o) w1.heap.size w2.heap.size (.slice none 0 0) (.slice none 0 0) (.slice none 0 0) M [] [] := by
  subst ho
  have z1 := h1.size
  have z2 := h2.size
  have hlt := ht.lt
  refine ⟨ht.below ((Below.refl _ _).alloc (Nat.le_refl _) _), ⟨heap_alloc_new w2 _, ⟨rfl, .inl ⟨rfl, rfl⟩⟩, ⟨rfl, .inl ⟨rfl, rfl⟩⟩, by simp [Value.ownBlock], by simp [Value.ownBlock], fun _ => ⟨rfl, rfl⟩⟩, (h1.trans (h2.mono z1)).alloc (by omega) _, ?_, ?_, ?_⟩
  · rintro k (rfl | hk)
    · exact z1
    · simp [Value.ownBlock] at hk
  · rintro k (rfl | hk | hk)
    · omega
    · simp [Value.ownBlock] at hk
    · simp [Value.ownBlock] at hk
  · rintro k (rfl | hk) (h' | h' | h')
    · omega
    · simp [Value.ownBlock] at h'
    · simp [Value.ownBlock] at h'
    · simp [Value.ownBlock] at hk
    · simp [Value.ownBlock] at hk
    · simp [Value.ownBlock] at hk

theorem Play.next {W wr w1 : World} {b c : Nat} {v vk vv : Value} {most : Nat} {es fs : List (Int × ByteArray)} (h : Play W wr b c v vk vv most es fs) (hb : Below wr.heap.size wr w1) : Play W w1 b c v vk vv most es fs :=
  ⟨h.tab.below hb, h.ref.below hb, h.below.trans (hb.mono h.below.size), h.lb, h.lc, h.apart⟩

theorem row_at {w3 wq : World} {base g n cap : Nat} {e : TypeId} {xs : List Value} (h : w3.ownsRow base e 1 (.slice (some ⟨g, 0, none⟩) n cap) n xs) (hb : Below w3.heap.size w3 wq) (q : Nat) (u : Value) (hu : xs[q]? = some u) : ∃ g', (some ⟨g, 0, none⟩ : Option Addr) = some ⟨g', 0, none⟩ ∧ g' < wq.heap.size ∧ wq.cell? ⟨g', q, none⟩ = some u := by
  obtain ⟨A, cap', hv, hc⟩ := own_form h
  cases hv
  obtain ⟨g', e', hl, hcell⟩ := hc q u hu
  exact ⟨g', e', Nat.lt_of_lt_of_le hl hb.size, (hb.cell (p := ⟨g', q, none⟩) hl).trans hcell⟩

/-- No key is there twice. -/
def Once (es : List (Int × ByteArray)) : Prop := (es.map (·.1)).Nodup

theorem once_nil : Once [] := List.nodup_nil

theorem Step.once {most : Nat} {es : List (Int × ByteArray)} {k : Int} {y : ByteArray} {m : Nat} {s : ByteArray} {x : Int} {tb : Bool} {fs : List (Int × ByteArray)} (h : Step most es k y m s x tb fs) (ho : Once es) : Once fs := by
  have hset : ∀ i, Hit es k i → Once (es.set i (k, y)) := by
    rintro i ⟨⟨z, hz⟩, _⟩
    unfold Once at ho ⊢
    rw [List.map_set]
    have : (es.map (·.1)).set i k = es.map (·.1) := by
      apply List.ext_getElem?
      intro j
      rw [List.getElem?_set]
      split
      · subst j
        split
        · simp [hz]
        · rename_i h'
          simp at h'
          rw [List.getElem?_eq_none (by simpa using h')]
      · rfl
    rw [this]
    exact ho
  have hnew : ∀ l : List (Int × ByteArray), Once l → Miss l k → Once (l ++ [(k, y)]) := by
    intro l hl hm
    unfold Once at hl ⊢
    rw [List.map_append, List.nodup_append]
    refine ⟨hl, by simp, ?_⟩
    intro a ha b hb
    simp at hb
    subst hb
    simp only [List.mem_map] at ha
    obtain ⟨e, he, rfl⟩ := ha
    obtain ⟨j, hj, hje⟩ := List.mem_iff_getElem.1 he
    exact hm j e (by rw [List.getElem?_eq_getElem hj, hje])
  cases h with
  | getHit i z hh hz => exact ho
  | getMiss hh => exact ho
  | dropHit i hh => unfold Once at ho ⊢; exact (List.Sublist.map _ (List.eraseIdx_sublist _ _)).nodup ho
  | dropMiss hh => exact ho
  | putHit i hh => exact hset i hh
  | putNew hh hr => exact hnew es ho hh
  | putFull hh hr => exact ho
  | pushHit i hh => exact hset i hh
  | pushNew hh hr => exact hnew es ho hh
  | pushZero h1 h2 => exact ho
  | pushFull e0 r h1 hh hr =>
    subst h1
    refine hnew r ?_ (fun j e he => hh (j + 1) e (by simpa using he))
    unfold Once at ho ⊢
    simp at ho
    exact ho.2

theorem Once.hit {es : List (Int × ByteArray)} (h : Once es) {i : Nat} {x : Int} {y : ByteArray} (he : es[i]? = some (x, y)) : Hit es x i := by
  refine ⟨⟨y, he⟩, fun j e hj hje hne => ?_⟩
  have hi : i < es.length := (List.getElem?_eq_some_iff.1 he).1
  have h1 : (es.map (·.1))[i]? = some x := by simp [he]
  have h2 : (es.map (·.1))[j]? = some x := by simp [hje, hne]
  have hi' : i < (es.map (·.1)).length := by simpa using hi
  have hj' : j < (es.map (·.1)).length := by simp; omega
  rw [List.getElem?_eq_getElem hi'] at h1
  rw [List.getElem?_eq_getElem hj'] at h2
  have := (List.getElem_inj h).1 ((Option.some.inj h2).trans (Option.some.inj h1).symm)
  omega

end Go.Proofs.Ytelgglnamojegaa
