/-
  Joined: Pk, Pn. Conditions: as each part says.
-/
import Derived.Test.YtedoggejbhbebaaJ38
import Derived.Test.YtedoggejbhbebaaJ33

/-
  Contract of gcm.newLock where the key and the nonce are permitted. Conditions: the key has 16 or 32 bytes, the nonce 8 to 16.
-/
/-
  Contract of gcm.newLock. Conditions: stated with each.
-/
namespace Go.Proofs.Ytedoggejbhbebaa
namespace Gcm
open Go.ChangeShapes Go.WideShapes Go.ChangeAt Go.RowKit Go.Great Go.ChangeMaps
open Gf Aes
set_option linter.unusedVariables false
set_option maxRecDepth 100000

theorem under_lock : ∃ fs, Try.prog.underlying 84 = some (.struct fs) := struct_of (by kernel_rfl)
theorem info_lock : (Try.prog.info? 84).map (·.size) = some 5 := by kernel_rfl

/-- The end of a function that gives a lock and a number. -/
theorem ret_lock {fn : Func} {p q : Tmp} {Q : Ending → World → Prop} {tmps : Array Value} {w : World} {g : Nat} {cs : Array Value} {v : Value} (h : fn.results = #[.cell p 84, .tmp q]) (hp : tmps.getD p undef = .pointer (some ⟨g, 0, none⟩)) (hv : tmps.getD q undef = v) (hg : w.heap[g]? = some (.cells cs 84 (0, 0))) (hc : cs.size = 5)
    (hq : Q (.returned (.tuple #[.agg cs, v])) w) : bodyPost Try.prog fn Q Exit.ret { tmps := tmps, defers := [] } w := by
  obtain ⟨fs, hu⟩ := under_lock
  have hr : (results fn tmps).run Try.prog w = .ok (.tuple #[.agg cs, v]) w := by
    have hp' : tmps[p]?.getD undef = .pointer (some ⟨g, 0, none⟩) := by simpa using hp
    have hv' : tmps[q]?.getD undef = v := by simpa using hv
    simp [results, h, hp', hv', asAddr, run_loadVar_row w g 84 84 cs (0, 0) _ hg hu rfl (by rw [hc]; exact info_lock)]
  exact bodyPost_ret hr rfl hq

/-- A lock's five cells, whatever the first holds. -/
def lockC (v : Value) (a b c d : Nat) : Array Value := #[v, .int .u64 (a : Nat), .int .u64 (b : Nat), .int .u64 (c : Nat), .int .u64 (d : Nat)]
abbrev L6 (g : Nat) (v : Value) (a b c d : Nat) (w : World) : Prop := w.heap[g]? = some (.cells (lockC v a b c d) 84 (0, 0))
theorem L6.asks {g a b c d : Nat} {v : Value} {w : World} (h : L6 g v a b c d w) : (w.cell? ⟨g, 0, none⟩ = some v ∧ w.cell? ⟨g, 1, none⟩ = some (.int .u64 (a : Nat)) ∧ w.cell? ⟨g, 2, none⟩ = some (.int .u64 (b : Nat)) ∧ w.cell? ⟨g, 3, none⟩ = some (.int .u64 (c : Nat)) ∧ w.cell? ⟨g, 4, none⟩ = some (.int .u64 (d : Nat))) ∧
    w.frozen? ⟨g, 0, none⟩ = false ∧ w.frozen? ⟨g, 1, none⟩ = false ∧ w.frozen? ⟨g, 2, none⟩ = false ∧ w.frozen? ⟨g, 3, none⟩ = false ∧ w.frozen? ⟨g, 4, none⟩ = false := by
  refine ⟨⟨?_, ?_, ?_, ?_, ?_⟩, frozen_of_row _ _ _ _ _ h, frozen_of_row _ _ _ _ _ h, frozen_of_row _ _ _ _ _ h, frozen_of_row _ _ _ _ _ h, frozen_of_row _ _ _ _ _ h⟩ <;> (rw [cell_of_row _ _ _ _ _ _ h]; rfl)
def put5 (X : World) (g : Nat) (v : Value) (a b c d : Nat) : World :=
  ((((X.setCell ⟨g, 0, none⟩ v).setCell ⟨g, 1, none⟩ (.int .u64 (a : Nat))).setCell ⟨g, 2, none⟩ (.int .u64 (b : Nat))).setCell ⟨g, 3, none⟩ (.int .u64 (c : Nat))).setCell ⟨g, 4, none⟩ (.int .u64 (d : Nat))
theorem L6.put {g a b c d : Nat} {v : Value} {w : World} (h : L6 g v a b c d w) (u : Value) (x y z t : Nat) : L6 g u x y z t (put5 w g u x y z t) := by
  unfold L6 put5
  rw [heap_setCell_same _ _ _ _ _ _ (heap_setCell_same _ _ _ _ _ _ (heap_setCell_same _ _ _ _ _ _ (heap_setCell_same _ _ _ _ _ _ (heap_setCell_same _ _ _ _ _ _ h))))]
  rfl
theorem below_put5 {w X : World} (hb : Below w.heap.size w X) {g : Nat} (hg : w.heap.size ≤ g) (u : Value) (x y z t : Nat) : Below w.heap.size w (put5 X g u x y z t) :=
  ((((hb.setCell (by simp only []; exact hg) _).setCell (by simp only []; exact hg) _).setCell (by simp only []; exact hg) _).setCell (by simp only []; exact hg) _).setCell (by simp only []; exact hg) _
/-- One half of the lock anew. -/
theorem L6.putH {g a b c d : Nat} {v : Value} {w : World} (h : L6 g v a b c d w) (x y : Nat) : L6 g v x y c d ((w.setCell ⟨g, 1, none⟩ (.int .u64 (x : Nat))).setCell ⟨g, 2, none⟩ (.int .u64 (y : Nat))) := by
  unfold L6
  rw [heap_setCell_same _ _ _ _ _ _ (heap_setCell_same _ _ _ _ _ _ h)]
  rfl
theorem L6.putF {g a b c d : Nat} {v : Value} {w : World} (h : L6 g v a b c d w) (x y : Nat) : L6 g v a b x y ((w.setCell ⟨g, 3, none⟩ (.int .u64 (x : Nat))).setCell ⟨g, 4, none⟩ (.int .u64 (y : Nat))) := by
  unfold L6
  rw [heap_setCell_same _ _ _ _ _ _ (heap_setCell_same _ _ _ _ _ _ h)]
  rfl
theorem below_two {w X : World} (hb : Below w.heap.size w X) {g : Nat} (hg : w.heap.size ≤ g) (i j : Nat) (u v : Value) : Below w.heap.size w ((X.setCell ⟨g, i, none⟩ u).setCell ⟨g, j, none⟩ v) :=
  (hb.setCell (by simp only []; exact hg) _).setCell (by simp only []; exact hg) _
theorem two_far {X : World} {k g : Nat} {o : Obj} (h : X.heap[k]? = some o) (hg : k ≠ g) (i j : Nat) (u v : Value) : ((X.setCell ⟨g, i, none⟩ u).setCell ⟨g, j, none⟩ v).heap[k]? = some o := by
  rw [heap_setCell_other _ _ _ _ (by simp only []; exact hg), heap_setCell_other _ _ _ _ (by simp only []; exact hg)]
  exact h

set_option maxHeartbeats 4000000 in
theorem newLock_none (key nonce : ByteArray) (w : World) (h : (key.size ≠ 16 ∧ key.size ≠ 32) ∨ nonce.size < 8 ∨ 16 < nonce.size) :
    Calls Try.prog 53 #[.string key, .string nonce] w fun e w' => e = .returned (.tuple #[.agg #[.pointer none, .int .u64 0, .int .u64 0, .int .u64 0, .int .u64 0], .int .i64 1]) ∧ Below w.heap.size w w' := by
  by_cases hk : key.size ≠ 16 ∧ key.size ≠ 32
  · go_enter Try.func53, Try.ntmps53
    go_wp2_with fail
    refine (new_none key _ hk.1 hk.2).mono ?_
    rintro e w1 ⟨rfl, hb1⟩
    have hrow : L6 w.heap.size (.pointer none) 0 0 0 0 w1 := keepBlock (heap_alloc_new w (.cells #[.pointer none, .int .u64 0, .int .u64 0, .int .u64 0, .int .u64 0] 84)) hb1
    obtain ⟨⟨c0, c1, c2, c3, c4⟩, f0, f1, f2, f3, f4⟩ := hrow.asks
    have HB := Lib.hid (And.intro hrow (below_link (below_alloc (Below.refl _ _) _) hb1))
    clear hb1 hk h hrow
    go_wp2
    exact ret_lock rfl rfl rfl (HB.out.1.put _ 0 0 0 0) rfl ⟨rfl, below_put5 HB.out.2 (Nat.le_refl _) _ _ _ _ _⟩
  · have hn : nonce.size < 8 ∨ 16 < nonce.size := by omega
    have hk2 : key.size = 16 ∨ key.size = 32 := by omega
    obtain ⟨n, hn4, hkn⟩ : ∃ n, (n = 4 ∨ n = 8) ∧ key.size = 4 * n := by
      rcases hk2 with h | h
      · exact ⟨4, .inl rfl, h⟩
      · exact ⟨8, .inr rfl, h⟩
    clear hk hk2 h
    go_enter Try.func53, Try.ntmps53
    go_wp2_with fail
    refine (new_ok key n _ hn4 hkn).mono ?_
    rintro e w1 ⟨rfl, -, hb1⟩
    have hrow : L6 w.heap.size (.pointer none) 0 0 0 0 w1 := keepBlock (heap_alloc_new w (.cells #[.pointer none, .int .u64 0, .int .u64 0, .int .u64 0, .int .u64 0] 84)) hb1
    obtain ⟨⟨c0, c1, c2, c3, c4⟩, f0, f1, f2, f3, f4⟩ := hrow.asks
    have HB := Lib.hid (And.intro hrow (below_link (below_alloc (Below.refl _ _) _) hb1))
    clear hb1 hn4 hkn hrow
    rcases hn with hn | hn
    · have g1 : (nonce.size : Int) < 8 := by omega
      go_wp2
      exact ret_lock rfl rfl rfl (HB.out.1.put _ 0 0 0 0) rfl ⟨rfl, below_put5 HB.out.2 (Nat.le_refl _) _ _ _ _ _⟩
    · have g1 : ¬ (nonce.size : Int) < 8 := by omega
      have g2 : (16 : Int) < (nonce.size : Int) := by omega
      go_wp2
      exact ret_lock rfl rfl rfl (HB.out.1.put _ 0 0 0 0) rfl ⟨rfl, below_put5 HB.out.2 (Nat.le_refl _) _ _ _ _ _⟩

end Gcm
end Go.Proofs.Ytedoggejbhbebaa

namespace Go.Proofs.Ytedoggejbhbebaa
namespace Gcm
open Go.ChangeShapes Go.WideShapes Go.ChangeAt Go.RowKit Go.Great Go.ChangeMaps
open Gf Aes
set_option linter.unusedVariables false
set_option maxRecDepth 100000

/-- The result's block, the lock in the making, the cipher. -/
structure Nl (w : World) (p n : Nat) (key : ByteArray) (gL a b c d : Nat) (X : World) : Prop where
  hR : L6 w.heap.size (.pointer none) 0 0 0 0 X
  hL : L6 gL (.pointer (some ⟨p, 0, none⟩)) a b c d X
  hK : Key p n key X
  far : w.heap.size < gL
  apart : p ≠ gL
  below : Below w.heap.size w X
theorem Nl.next {w X Y : World} {p n : Nat} {key : ByteArray} {gL a b c d : Nat} (h : Nl w p n key gL a b c d X) (hb : Below X.heap.size X Y) : Nl w p n key gL a b c d Y :=
  ⟨keepBlock h.hR hb, keepBlock h.hL hb, h.hK.next hb, h.far, h.apart, below_link h.below hb⟩
theorem key_two {p n : Nat} {key : ByteArray} {X : World} (h : Key p n key X) {g : Nat} (hg : p ≠ g) (i j : Nat) (u v : Value) : Key p n key ((X.setCell ⟨g, i, none⟩ u).setCell ⟨g, j, none⟩ v) := by
  have hc : ∀ k, ((X.setCell ⟨g, i, none⟩ u).setCell ⟨g, j, none⟩ v).cell? ⟨p, k, none⟩ = X.cell? ⟨p, k, none⟩ := fun k => by
    rw [World.cell?_setCell_far _ _ _ _ (by simp only []; exact fun e => hg e.symm), World.cell?_setCell_far _ _ _ _ (by simp only []; exact fun e => hg e.symm)]
  exact ⟨by simpa using h.lt, by rw [hc]; exact h.rounds, fun k hk => by rw [hc]; exact h.words k hk, fun k hk => by rw [hc]; exact h.there k hk, fun k hk => by rw [hc]; exact h.back k hk⟩
theorem Nl.putH {w X : World} {p n : Nat} {key : ByteArray} {gL a b c d : Nat} (h : Nl w p n key gL a b c d X) (x y : Nat) : Nl w p n key gL x y c d ((X.setCell ⟨gL, 1, none⟩ (.int .u64 (x : Nat))).setCell ⟨gL, 2, none⟩ (.int .u64 (y : Nat))) :=
  ⟨two_far h.hR (by have := h.far; omega) _ _ _ _, h.hL.putH x y, key_two h.hK h.apart _ _ _ _, h.far, h.apart, below_two h.below (by have := h.far; omega) _ _ _ _⟩
theorem Nl.putF {w X : World} {p n : Nat} {key : ByteArray} {gL a b c d : Nat} (h : Nl w p n key gL a b c d X) (x y : Nat) : Nl w p n key gL a b x y ((X.setCell ⟨gL, 3, none⟩ (.int .u64 (x : Nat))).setCell ⟨gL, 4, none⟩ (.int .u64 (y : Nat))) :=
  ⟨two_far h.hR (by have := h.far; omega) _ _ _ _, h.hL.putF x y, key_two h.hK h.apart _ _ _ _, h.far, h.apart, below_two h.below (by have := h.far; omega) _ _ _ _⟩
theorem key_put5 {p n : Nat} {key : ByteArray} {X : World} (h : Key p n key X) {g : Nat} (hg : p ≠ g) (u : Value) (a b c d : Nat) : Key p n key (put5 X g u a b c d) := by
  have hc : ∀ k, (put5 X g u a b c d).cell? ⟨p, k, none⟩ = X.cell? ⟨p, k, none⟩ := fun k => by
    unfold put5
    rw [World.cell?_setCell_far _ _ _ _ (by simp only []; exact fun e => hg e.symm), World.cell?_setCell_far _ _ _ _ (by simp only []; exact fun e => hg e.symm), World.cell?_setCell_far _ _ _ _ (by simp only []; exact fun e => hg e.symm), World.cell?_setCell_far _ _ _ _ (by simp only []; exact fun e => hg e.symm), World.cell?_setCell_far _ _ _ _ (by simp only []; exact fun e => hg e.symm)]
  exact ⟨by simpa [put5] using h.lt, by rw [hc]; exact h.rounds, fun k hk => by rw [hc]; exact h.words k hk, fun k hk => by rw [hc]; exact h.there k hk, fun k hk => by rw [hc]; exact h.back k hk⟩

/-- The first counter block's number. -/
def firstN (n : Nat) (key nonce : ByteArray) : Nat := big (firstL (encL n key zeros16) (nums nonce))
theorem firstN_lt (n : Nat) (key nonce : ByteArray) : firstN n key nonce < 2 ^ 128 := (firstL_small (nums_lt nonce)).big (firstL_length _ _)
/-- The number to hash with. -/
def hashKey (n : Nat) (key : ByteArray) : Nat := big (encL n key zeros16)
theorem hashKey_eq (n : Nat) (key : ByteArray) : encN n key 0 = hashKey n key := rfl
theorem firstN_plain (n : Nat) (key nonce : ByteArray) (h : nonce.size = 12) : big (padL (nums (nonce ++ ⟨#[0, 0, 0, 1]⟩))) = firstN n key nonce := by
  have e : nums (nonce ++ ⟨#[0, 0, 0, 1]⟩) = nums nonce ++ [0, 0, 0, 1] := by
    show ((nonce ++ ⟨#[0, 0, 0, 1]⟩ : ByteArray).data.toList).map UInt8.toNat = _
    rw [ByteArray.data_append, Array.toList_append, List.map_append]
    rfl
  unfold firstN firstL
  rw [nums_length, if_pos h, e, padL_full (by rw [List.length_append, nums_length, h]; rfl)]
theorem firstN_other (n : Nat) (key nonce : ByteArray) (h : nonce.size ≠ 12) : hashN (hashKey n key) (nums ⟨#[]⟩) (nums nonce) = firstN n key nonce := by
  unfold firstN firstL hashL
  rw [nums_length, if_neg h, big_bytes]
  · rfl
  · exact hashN_lt ((encL_small n key _).big (encL_length n key _)) (fun c hc => by simp at hc) (nums_lt nonce)

set_option maxHeartbeats 8000000 in
theorem newLock_ok (n : Nat) (key nonce : ByteArray) (w : World) (hn : n = 4 ∨ n = 8) (hk : key.size = 4 * n) (h8 : 8 ≤ nonce.size) (h16 : nonce.size ≤ 16) :
    Calls Try.prog 53 #[.string key, .string nonce] w fun e w' => ∃ p a b c d : Nat, a < 2 ^ 64 ∧ b < 2 ^ 64 ∧ c < 2 ^ 64 ∧ d < 2 ^ 64 ∧ whole a b = hashKey n key ∧ whole c d = firstN n key nonce ∧ Key p n key w' ∧
      e = .returned (.tuple #[.agg #[.pointer (some ⟨p, 0, none⟩), .int .u64 (a : Nat), .int .u64 (b : Nat), .int .u64 (c : Nat), .int .u64 (d : Nat)], .int .i64 0]) ∧ Below w.heap.size w w' := by
  have HNON := Lib.hid (And.intro h8 h16)
  have HN4 := Lib.hid hn
  have g1 : ¬ (nonce.size : Int) < 8 := by omega
  have g2 : ¬ (16 : Int) < (nonce.size : Int) := by omega
  go_enter Try.func53, Try.ntmps53
  go_wp2_with fail
  refine (new_ok key n _ hn hk).mono ?_
  rintro e w1 ⟨rfl, hk1, hb1⟩
  have hrow : L6 w.heap.size (.pointer none) 0 0 0 0 w1 := keepBlock (heap_alloc_new w (.cells #[.pointer none, .int .u64 0, .int .u64 0, .int .u64 0, .int .u64 0] 84)) hb1
  rw [alloc_size] at hk1
  have hsz : w.heap.size + 1 < w1.heap.size := hk1.lt
  obtain ⟨gL, hgL⟩ : ∃ gL, gL = w1.heap.size := ⟨_, rfl⟩
  have hnl : Nl w (w.heap.size + 1) n key gL 0 0 0 0 (w1.alloc (.cells #[.pointer (some ⟨w.heap.size + 1, 0, none⟩), .int .u64 0, .int .u64 0, .int .u64 0, .int .u64 0] 84)) :=
    ⟨keepAlloc hrow _, by rw [hgL]; exact heap_alloc_new w1 _, hk1.next (below_alloc (Below.refl _ _) _), by omega, by omega, below_alloc (below_link (below_alloc (Below.refl _ _) _) hb1) _⟩
  have HS := Lib.hid hnl
  have hgL' := hgL.symm
  clear hn hk h8 h16 hk1 hb1 hrow hsz hnl hgL
  go_wp2_with fail
  refine ((show Calls Try.prog 61 #[.agg #[.pointer (some ⟨w.heap.size + 1, 0, none⟩), .int .u64 0, .int .u64 0, .int .u64 0, .int .u64 0], .agg #[.int .u64 0, .int .u64 0]] _ _ from encrypted_any (w.heap.size + 1) n key 0 0 0 0 0 0 _ HN4.out HS.out.hK (by decide) (by decide))).mono ?_
  rintro e w2 ⟨a, b, la, lb, eab, rfl, hb2⟩
  have HQ2 := Lib.hid (HS.out.next hb2)
  have HA := Lib.hid (And.intro la (And.intro lb (show whole a b = hashKey n key from eab)))
  obtain ⟨⟨c0, c1, c2, c3, c4⟩, f0, f1, f2, f3, f4⟩ := HQ2.out.hL.asks
  have HQ3 := Lib.hid (HQ2.out.putH a b)
  clear hb2 la lb eab
  by_cases h12 : nonce.size = 12
  · have g3 : (nonce.size : Int) = 12 := by omega
    have g4 : ((nonce.size : Int) == 12) = true := by simp; omega
    have hfirst := firstN_plain n key nonce h12
    have HF := Lib.hid hfirst
    clear hfirst h12
    go_wp2_with fail
    refine (blockOf_any _ _).mono ?_
    rintro e w4 ⟨c, d, lc, ld, ecd, rfl, hb4⟩
    have HQ4 := Lib.hid (HQ3.out.next hb4)
    have HC := Lib.hid (And.intro lc (And.intro ld (show whole c d = firstN n key nonce from ecd.trans HF.out)))
    clear c0 c1 c2 c3 c4 f0 f1 f2 f3 f4 hb4 lc ld ecd
    obtain ⟨⟨c0, c1, c2, c3, c4⟩, f0, f1, f2, f3, f4⟩ := HQ4.out.hL.asks
    have HQ5 := Lib.hid (HQ4.out.putF c d)
    obtain ⟨⟨r0, r1, r2, r3, r4⟩, z0, z1, z2, z3, z4⟩ := HQ4.out.hR.asks
    have n1 : ¬ gL = w.heap.size := by have := HQ4.out.far; omega
    have n2 : ¬ w.heap.size = gL := by have := HQ4.out.far; omega
    clear HQ2 HQ3 HS
    go_wp2
    exact ret_lock rfl rfl rfl (HQ5.out.hR.put (.pointer (some ⟨w.heap.size + 1, 0, none⟩)) a b c d) rfl ⟨w.heap.size + 1, a, b, c, d, HA.out.1, HA.out.2.1, HC.out.1, HC.out.2.1, HA.out.2.2, HC.out.2.2, key_put5 HQ5.out.hK (by omega) _ _ _ _ _, rfl, below_put5 HQ5.out.below (Nat.le_refl _) _ _ _ _ _⟩
  · have g3 : ¬ (nonce.size : Int) = 12 := by omega
    have g4 : ((nonce.size : Int) == 12) = false := by simp; omega
    have hfirst := firstN_other n key nonce h12
    have HF := Lib.hid hfirst
    obtain ⟨⟨x0, x1, x2, x3, x4⟩, _⟩ := HQ3.out.hL.asks
    clear hfirst h12
    go_wp2_with fail
    refine (hash_any a b _ nonce _ HA.out.1 HA.out.2.1 (by decide) (by have := HNON.out.2; omega)).mono ?_
    rintro e w4 ⟨c, d, lc, ld, ecd, rfl, hb4⟩
    have HQ4 := Lib.hid (HQ3.out.next hb4)
    have HC := Lib.hid (And.intro lc (And.intro ld (show whole c d = firstN n key nonce by rw [← HF.out, ← HA.out.2.2]; exact ecd)))
    clear c0 c1 c2 c3 c4 f0 f1 f2 f3 f4 x0 x1 x2 x3 x4 hb4 lc ld ecd
    obtain ⟨⟨c0, c1, c2, c3, c4⟩, f0, f1, f2, f3, f4⟩ := HQ4.out.hL.asks
    have HQ5 := Lib.hid (HQ4.out.putF c d)
    obtain ⟨⟨r0, r1, r2, r3, r4⟩, z0, z1, z2, z3, z4⟩ := HQ4.out.hR.asks
    have n1 : ¬ gL = w.heap.size := by have := HQ4.out.far; omega
    have n2 : ¬ w.heap.size = gL := by have := HQ4.out.far; omega
    clear HQ2 HQ3 HS
    go_wp2
    exact ret_lock rfl rfl rfl (HQ5.out.hR.put (.pointer (some ⟨w.heap.size + 1, 0, none⟩)) a b c d) rfl ⟨w.heap.size + 1, a, b, c, d, HA.out.1, HA.out.2.1, HC.out.1, HC.out.2.1, HA.out.2.2, HC.out.2.2, key_put5 HQ5.out.hK (by omega) _ _ _ _ _, rfl, below_put5 HQ5.out.below (Nat.le_refl _) _ _ _ _ _⟩

end Gcm
end Go.Proofs.Ytedoggejbhbebaa

/-
  Contract of gcm.next. Conditions: the halves have 64 bits.
-/
namespace Go.Proofs.Ytedoggejbhbebaa
namespace Gcm
open Go.ChangeShapes Go.WideShapes Go.ChangeAt Go.RowKit Go.Great Go.ChangeMaps
open Gf Aes
set_option linter.unusedVariables false
set_option maxRecDepth 100000

/-- A counter block's number, with n more. -/
def countN (f n : Nat) : Nat := f / 2 ^ 32 * 2 ^ 32 + (f + n) % 2 ^ 32
theorem countN_zero (f : Nat) : countN f 0 = f := by unfold countN; omega
theorem countN_next (f n : Nat) : countN (countN f n) 1 = countN f (n + 1) := by unfold countN; omega
theorem countN_lt {f : Nat} (h : f < 2 ^ 128) (n : Nat) : countN f n < 2 ^ 128 := by unfold countN; omega
/-- As the reference says it. -/
theorem bytes_countN {f : List Nat} (hf : f.length = 16) (hs : Small f) (n : Nat) : bytes 16 (countN (big f) n) = counterL f n := by
  have h12 : (f.take 12).length = 12 := by rw [List.length_take, hf]; rfl
  have h4 : (f.drop 12).length = 4 := by rw [List.length_drop, hf]
  have e : big f = big (f.take 12) * 2 ^ 32 + big (f.drop 12) := by
    conv => lhs; rw [← List.take_append_drop 12 f]
    rw [big_append, h4]
  have l4 : big (f.drop 12) < 2 ^ 32 := by
    have := big_lt _ (hs.drop 12)
    rw [h4] at this
    exact this
  have e2 : countN (big f) n = big (counterL f n) := by
    rw [counterL, big_append, bytes_length, big_bytes_mod, e]
    unfold countN
    rw [show (256 : Nat) ^ 4 = 2 ^ 32 by decide]
    omega
  rw [e2]
  have := bytes_big (counterL f n) (counterL_small hs n)
  rw [counterL_length hf] at this
  exact this

theorem count_whole (a b : Nat) (hb : b < 2 ^ 64) : countN (whole a b) 1 = whole a (b / 2 ^ 32 * 2 ^ 32 + (b + 1) % 2 ^ 32) := by unfold countN whole; omega
theorem or_low (q c : Nat) (hc : c < 2 ^ 32) : q * 2 ^ 32 ||| c = q * 2 ^ 32 + c := by
  have := Nat.two_pow_add_eq_or_of_lt (i := 32) (b := c) hc q
  rw [Nat.mul_comm q]
  exact this.symm

set_option maxHeartbeats 2000000 in
theorem next_any (a b : Nat) (w : World) (ha : a < 2 ^ 64) (hb : b < 2 ^ 64) :
    Calls Try.prog 66 #[.agg #[.int .u64 (a : Nat), .int .u64 (b : Nat)]] w fun e w' => ∃ h l : Nat, h < 2 ^ 64 ∧ l < 2 ^ 64 ∧ whole h l = countN (whole a b) 1 ∧ e = .returned (.agg #[.int .u64 (h : Nat), .int .u64 (l : Nat)]) ∧ Below w.heap.size w w' := by
  obtain ⟨l, hl⟩ : ∃ l, l = b / 2 ^ 32 * 2 ^ 32 + (b + 1) % 2 ^ 32 := ⟨_, rfl⟩
  have e1 := bits_or_u64_nat (b / 2 ^ 32 * 2 ^ 32) ((b + 1) % 2 ^ 32) (by omega) (by omega)
  rw [or_low _ _ (Nat.mod_lt _ (by decide)), ← hl] at e1
  have e2 : (b : Int) / 4294967296 * 4294967296 = ((b / 2 ^ 32 * 2 ^ 32 : Nat) : Int) := by omega
  have e3 : ((b : Int) + 1) % 4294967296 = (((b + 1) % 2 ^ 32 : Nat) : Int) := by omega
  have H := Lib.hid (And.intro e2 (And.intro e3 e1))
  have HL := Lib.hid (show a < 2 ^ 64 ∧ l < 2 ^ 64 ∧ whole a l = countN (whole a b) 1 from ⟨ha, by omega, by rw [count_whole a b hb, hl]⟩)
  clear e1 e2 e3 hl ha
  go_enter Try.func66, Try.ntmps66
  go_wp2
  rw [H.out.1, H.out.2.1, H.out.2.2]
  exact ret_blk rfl rfl (second_new w _ _) ⟨a, l, HL.out.1, HL.out.2.1, HL.out.2.2, rfl, below_alloc (below_alloc (Below.refl _ _) _) _⟩

end Gcm
end Go.Proofs.Ytedoggejbhbebaa
