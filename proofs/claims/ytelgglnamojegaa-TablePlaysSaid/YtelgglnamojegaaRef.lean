/-
  The reference's table in memory, and contracts of its at and drop. Conditions: the table is in order, and it has no more than a thousand entries.
-/
import Derived.Test.YtelgglnamojegaaTab
import Derived.Deep.AppendLies
namespace Go.Proofs.Ytelgglnamojegaa
open Go.ChangeShapes Go.WideShapes Go.ChangeAt Go.RowKit
set_option linter.unusedVariables false

/-- The keys' cells, the values' cells. -/
def kcells (es : List (Int × ByteArray)) : List Value := es.map fun e => .int .i64 e.1
def vcells (es : List (Int × ByteArray)) : List Value := es.map fun e => .string e.2

/-- Block c is a table of the reference, with the keys' slice vk and the values' slice vv. -/
structure RTab (w : World) (c : Nat) (vk vv : Value) (most : Nat) (es : List (Int × ByteArray)) : Prop where
  tab : w.heap[c]? = some (.cells #[vk, vv, .int .i64 most] 30 (0, 0))
  rk : w.ownsRow 0 3 1 vk es.length (kcells es)
  rv : w.ownsRow 0 9 1 vv es.length (vcells es)
  nk : vk.ownBlock ≠ some c
  nv : vv.ownBlock ≠ some c
  nil : es = [] → vk = .slice none 0 0 ∧ vv = .slice none 0 0

def Own3 (c : Nat) (vk vv : Value) (k : Nat) : Prop := k = c ∨ vk.ownBlock = some k ∨ vv.ownBlock = some k

theorem own_keep {w w' : World} {base : Nat} {e : TypeId} {size : Nat} {v : Value} {n : Nat} {xs : List Value} (h : w.ownsRow base e size v n xs) (hk : ∀ k, v.ownBlock = some k → w'.heap[k]? = w.heap[k]?) : w'.ownsRow base e size v n xs := by
  refine ⟨h.1, ?_⟩
  rcases h.2 with h0 | ⟨g, cap, cur, hv, hb, hg, r⟩
  · exact .inl h0
  · exact .inr ⟨g, cap, cur, hv, hb, (hk g (by rw [hv]; rfl)).trans hg, r⟩

theorem own_base {w : World} {base base' : Nat} {e : TypeId} {size : Nat} {v : Value} {n : Nat} {xs : List Value} (h : w.ownsRow base e size v n xs) (hb : base' ≤ base) : w.ownsRow base' e size v n xs := by
  refine ⟨h.1, ?_⟩
  rcases h.2 with h0 | ⟨g, cap, cur, hv, hb', r⟩
  · exact .inl h0
  · exact .inr ⟨g, cap, cur, hv, by omega, r⟩

/-- A slice with a row of one-cell elements: nil, or a row at a block's head. -/
theorem own_form {w : World} {base : Nat} {e : TypeId} {v : Value} {n : Nat} {xs : List Value} (h : w.ownsRow base e 1 v n xs) :
    ∃ A cap, v = .slice A n cap ∧ (∀ j u, xs[j]? = some u → ∃ g, A = some ⟨g, 0, none⟩ ∧ g < w.heap.size ∧ w.cell? ⟨g, j, none⟩ = some u) := by
  rcases h.2 with ⟨rfl, rfl⟩ | ⟨g, cap, cur, rfl, hb, hg, h1, h2, h3, h4⟩
  · refine ⟨none, 0, rfl, fun j u hu => ?_⟩
    have := h.1
    simp at this
    subst this
    simp at hu
  · refine ⟨some ⟨g, 0, none⟩, cap, rfl, fun j u hu => ⟨g, rfl, lt_of_block hg, ?_⟩⟩
    exact (cell_of_row w g _ _ _ _ hg).trans (row_cell h4 hu)

section
variable {w w' : World} {c : Nat} {vk vv : Value} {most : Nat} {es : List (Int × ByteArray)}
theorem RTab.lt (h : RTab w c vk vv most es) : c < w.heap.size := lt_of_block h.tab
theorem RTab.own_lt (h : RTab w c vk vv most es) : ∀ k, Own3 c vk vv k → k < w.heap.size := by
  rintro k (rfl | hk | hk)
  · exact h.lt
  · exact (h.rk.lt k hk).2
  · exact (h.rv.lt k hk).2
theorem RTab.cell0 (h : RTab w c vk vv most es) : w.cell? ⟨c, 0, none⟩ = some vk := cell_of_row w c 0 _ _ _ h.tab
theorem RTab.cell1 (h : RTab w c vk vv most es) : w.cell? ⟨c, 1, none⟩ = some vv := cell_of_row w c 1 _ _ _ h.tab
theorem RTab.cell2 (h : RTab w c vk vv most es) : w.cell? ⟨c, 2, none⟩ = some (.int .i64 most) := cell_of_row w c 2 _ _ _ h.tab
theorem RTab.keep (h : RTab w c vk vv most es) (hk : ∀ k, Own3 c vk vv k → w'.heap[k]? = w.heap[k]?) : RTab w' c vk vv most es :=
  ⟨(hk c (.inl rfl)).trans h.tab, own_keep h.rk fun k e => hk k (.inr (.inl e)), own_keep h.rv fun k e => hk k (.inr (.inr e)), h.nk, h.nv, h.nil⟩
theorem RTab.below (h : RTab w c vk vv most es) (hb : Below w.heap.size w w') : RTab w' c vk vv most es := h.keep fun k hk => hb.block k (h.own_lt k hk)
theorem RTab.chg {S : Nat → Prop} (h : RTab w c vk vv most es) (hc : Chg S w w') (hs : ∀ k, Own3 c vk vv k → ¬ S k) : RTab w' c vk vv most es := h.keep fun k hk => hc.block k (h.own_lt k hk) (hs k hk)
end

/-- What a call leaves of the reference's table. -/
def RAfter (w : World) (c : Nat) (vk vv : Value) (most : Nat) (es : List (Int × ByteArray)) (w' : World) : Prop :=
  ∃ vk' vv', RTab w' c vk' vv' most es ∧ (∀ k, Own3 c vk' vv' k → Own3 c vk vv k ∨ w.heap.size ≤ k) ∧ Chg (fun k => k = c) w w'

theorem RAfter.same {w w' : World} {c : Nat} {vk vv : Value} {most : Nat} {es : List (Int × ByteArray)} (h : RTab w c vk vv most es) (hb : Below w.heap.size w w') : RAfter w c vk vv most es w' :=
  ⟨vk, vv, h.below hb, fun k hk => .inl hk, Chg.of_below hb⟩

theorem RAfter.pre {w w1 w2 : World} {c : Nat} {vk vv : Value} {most : Nat} {es : List (Int × ByteArray)} (hb : Below w.heap.size w w1) (h : RAfter w1 c vk vv most es w2) : RAfter w c vk vv most es w2 := by
  obtain ⟨vk2, vv2, t2, o2, c2⟩ := h
  refine ⟨vk2, vv2, t2, fun i hi => ?_, (Chg.of_below (S := fun k => k = c) hb).trans c2 (fun _ _ e => e)⟩
  rcases o2 i hi with h' | h'
  · exact .inl h'
  · right; have := hb.size; omega

theorem RAfter.join {w w1 w2 : World} {c : Nat} {vk vv vk1 vv1 : Value} {most : Nat} {fs : List (Int × ByteArray)} (o1 : ∀ k, Own3 c vk1 vv1 k → Own3 c vk vv k ∨ w.heap.size ≤ k) (c1 : Chg (fun k => k = c) w w1) (h : RAfter w1 c vk1 vv1 most fs w2) : RAfter w c vk vv most fs w2 := by
  obtain ⟨vk2, vv2, t2, o2, c2⟩ := h
  refine ⟨vk2, vv2, t2, fun i hi => ?_, c1.trans c2 (fun _ _ e => e)⟩
  rcases o2 i hi with h' | h'
  · exact o1 i h'
  · right; have := c1.size; omega

/-- at, where the key is the i-th. -/
theorem at_hit (c : Nat) (vk vv : Value) (most : Nat) (es : List (Int × ByteArray)) (k : Int) (i : Nat) (w : World) (h : RTab w c vk vv most es) (hh : Hit es k i) (hn : es.length ≤ 1000) :
    Calls Try.prog 23 #[.pointer (some ⟨c, 0, none⟩), .int .i64 k] w fun e w' => e = .returned (.int .i64 i) ∧ w = w' := by
  have hi := hh.lt
  obtain ⟨A, cap, rfl, hcell⟩ := own_form h.rk
  have c0 := h.cell0
  have HC := Lib.hid hcell; clear hcell h
  have HH := Lib.hid hh; clear hh
  generalize hN : es.length = n at *
  have HN := Lib.hid hN; clear hN
  go_enter Try.func23, Try.ntmps23
  go_wp2
  go_loop [5] (fun s => ∃ j : Nat, j ≤ i ∧ s = .int .i64 j) (fun s => i - (intOf s).toNat)
  case atStart => exact ⟨0, Nat.zero_le _, rfl⟩
  case round =>
    obtain ⟨j, hj, rfl⟩ := hrel
    have hjn : j < n := by omega
    have hjz : (j : Int) < (n : Int) := by omega
    obtain ⟨⟨x, y⟩, he⟩ : ∃ e, es[j]? = some e := ⟨_, List.getElem?_eq_getElem (by rw [HN.out]; exact hjn)⟩
    obtain ⟨g, hA, hgl, hc⟩ := HC.out j (.int .i64 x) (by simp [kcells, he])
    subst hA
    have HE := Lib.hid he; clear he
    by_cases hji : j = i
    · subst hji
      obtain ⟨⟨y', hy'⟩, _⟩ := HH.out
      obtain ⟨rfl, rfl⟩ : x = k ∧ y = y' := by
        have := HE.out.symm.trans hy'
        simpa using this
      clear hy'
      have hxx : (x == x) = true := by simp
      go_wp2
      go_ret
      exact ⟨rfl, rfl⟩
    · have hne : (x == k) = false := by simpa using HH.out.2 j _ (by omega) HE.out
      go_wp2
      go_round
      case rel => exact ⟨j + 1, by omega, by go_num⟩
      case measure => simp [intOf]; omega

/-- at, where the key is not there. -/
theorem at_miss (c : Nat) (vk vv : Value) (most : Nat) (es : List (Int × ByteArray)) (k : Int) (w : World) (h : RTab w c vk vv most es) (hh : Miss es k) (hn : es.length ≤ 1000) :
    Calls Try.prog 23 #[.pointer (some ⟨c, 0, none⟩), .int .i64 k] w fun e w' => e = .returned (.int .i64 (-1)) ∧ w = w' := by
  obtain ⟨A, cap, rfl, hcell⟩ := own_form h.rk
  have c0 := h.cell0
  have HC := Lib.hid hcell; clear hcell h
  have HH := Lib.hid hh; clear hh
  generalize hN : es.length = n at *
  have HN := Lib.hid hN; clear hN
  go_enter Try.func23, Try.ntmps23
  go_wp2
  go_loop [5] (fun s => ∃ j : Nat, j ≤ n ∧ s = .int .i64 j) (fun s => n - (intOf s).toNat)
  case atStart => exact ⟨0, Nat.zero_le _, rfl⟩
  case round =>
    obtain ⟨j, hj, rfl⟩ := hrel
    by_cases hjn : j < n
    · have hjz : (j : Int) < (n : Int) := by omega
      obtain ⟨⟨x, y⟩, he⟩ : ∃ e, es[j]? = some e := ⟨_, List.getElem?_eq_getElem (by rw [HN.out]; exact hjn)⟩
      obtain ⟨g, hA, hgl, hc⟩ := HC.out j (.int .i64 x) (by simp [kcells, he])
      subst hA
      have HE := Lib.hid he; clear he
      have hne : (x == k) = false := by simpa using HH.out j _ HE.out
      go_wp2
      go_round
      case rel => exact ⟨j + 1, by omega, by go_num⟩
      case measure => simp [intOf]; omega
    · have hjz : ¬ (j : Int) < (n : Int) := by omega
      go_wp2
      go_ret
      exact ⟨rfl, rfl⟩

end Go.Proofs.Ytelgglnamojegaa
