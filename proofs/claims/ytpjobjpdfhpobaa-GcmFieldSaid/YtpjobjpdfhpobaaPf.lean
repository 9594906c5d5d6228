/-
  Contract of gcm.hash; of gcm.Times and gcm.Hash. Conditions: the texts are shorter than 2^30 bytes.
-/
import Derived.Test.YtpjobjpdfhpobaaPe
import Derived.Deep.RegionHeld3
namespace Go.Proofs.Ytpjobjpdfhpobaa
namespace Gcm
open Go.ChangeShapes Go.WideShapes Go.ChangeAt Go.RowKit Go.Great Go.ChangeMaps
open Gf Aes
set_option linter.unusedVariables false
set_option maxRecDepth 100000

/-- The factor, the result's block, the sizes. -/
structure Hs (w : World) (h1 h0 a b : Nat) (X : World) : Prop where
  hH : B2 w.heap.size h1 h0 X
  hR : B2 (w.heap.size + 1) 0 0 X
  hL : B2 (w.heap.size + 1 + 1) a b X
  below : Below w.heap.size w X
theorem Hs.next {w X Y : World} {h1 h0 a b : Nat} (h : Hs w h1 h0 a b X) (hb : Below X.heap.size X Y) : Hs w h1 h0 a b Y :=
  ⟨keepBlock h.hH hb, keepBlock h.hR hb, keepBlock h.hL hb, below_link h.below hb⟩
theorem Hs.drew {w X : World} {h1 h0 a b : Nat} (h : Hs w h1 h0 a b X) : Hs w h1 h0 a b X.drew := ⟨h.hH, h.hR, h.hL, h.below.drew⟩
theorem Hs.cells {w X : World} {h1 h0 a b : Nat} (h : Hs w h1 h0 a b X) : X.cell? ⟨w.heap.size, 0, none⟩ = some (.int .u64 (h1 : Nat)) ∧ X.cell? ⟨w.heap.size, 1, none⟩ = some (.int .u64 (h0 : Nat)) ∧ X.cell? ⟨w.heap.size + 1 + 1, 0, none⟩ = some (.int .u64 (a : Nat)) ∧ X.cell? ⟨w.heap.size + 1 + 1, 1, none⟩ = some (.int .u64 (b : Nat)) :=
  ⟨h.hH.hi, h.hH.lo, h.hL.hi, h.hL.lo⟩
/-- Behind the store of the result. -/
theorem Hs.stored {w X : World} {h1 h0 a b : Nat} (h : Hs w h1 h0 a b X) (x y : Nat) : (put2 X (w.heap.size + 1) x y).cell? ⟨w.heap.size, 0, none⟩ = some (.int .u64 (h1 : Nat)) ∧ (put2 X (w.heap.size + 1) x y).cell? ⟨w.heap.size, 1, none⟩ = some (.int .u64 (h0 : Nat)) ∧ (put2 X (w.heap.size + 1) x y).cell? ⟨w.heap.size + 1 + 1, 0, none⟩ = some (.int .u64 (a : Nat)) ∧ (put2 X (w.heap.size + 1) x y).cell? ⟨w.heap.size + 1 + 1, 1, none⟩ = some (.int .u64 (b : Nat)) :=
  ⟨(h.hH.far (by omega) x y).hi, (h.hH.far (by omega) x y).lo, (h.hL.far (by omega) x y).hi, (h.hL.far (by omega) x y).lo⟩

set_option maxHeartbeats 8000000 in
theorem hash_any (h1 h0 : Nat) (b c : ByteArray) (w : World) (lh1 : h1 < 2 ^ 64) (lh0 : h0 < 2 ^ 64) (hb : b.size ≤ 1073741824) (hc : c.size ≤ 1073741824) :
    Calls Try.prog 27 #[.agg #[.int .u64 (h1 : Nat), .int .u64 (h0 : Nat)], .string b, .string c] w fun e w' => ∃ h l : Nat, h < 2 ^ 64 ∧ l < 2 ^ 64 ∧ whole h l = hashN (whole h1 h0) (nums b) (nums c) ∧ e = .returned (.agg #[.int .u64 (h : Nat), .int .u64 (l : Nat)]) ∧ Below w.heap.size w w' := by
  obtain ⟨m, hm⟩ : ∃ m, m = 8 * b.size := ⟨_, rfl⟩
  obtain ⟨n, hn⟩ : ∃ n, n = 8 * c.size := ⟨_, rfl⟩
  have q1 : IntKind.u64.wrap (8 * (b.size : Int)) = (m : Int) := by rw [IntKind.wrap_u64]; omega
  have q2 : IntKind.u64.wrap (8 * (c.size : Int)) = (n : Int) := by rw [IntKind.wrap_u64]; omega
  have q3 : IntKind.u64.wrap (b.size : Int) = (b.size : Int) := by rw [IntKind.wrap_u64]; omega
  have q4 : IntKind.u64.wrap (c.size : Int) = (c.size : Int) := by rw [IntKind.wrap_u64]; omega
  have hpart := hashN_parts (h := whole h1 h0) (w := nums b) (t := nums c) (by rw [nums_length]; omega) (by rw [nums_length]; omega)
  rw [nums_length, nums_length, ← hm, ← hn] at hpart
  have HP := Lib.hid (And.intro hpart (And.intro lh1 (And.intro lh0 (And.intro (show m < 2 ^ 64 by omega) (show n < 2 ^ 64 by omega)))))
  have C1 : Hid (∀ X, Calls Try.prog 39 #[.agg #[.int .u64 0, .int .u64 0], .agg #[.int .u64 (h1 : Nat), .int .u64 (h0 : Nat)], .string b] X fun e w' => ∃ h l : Nat, h < 2 ^ 64 ∧ l < 2 ^ 64 ∧ whole h l = hashFrom (whole h1 h0) (filledL (nums b)) 0 (blocksOf b.size) ∧ e = .returned (.agg #[.int .u64 (h : Nat), .int .u64 (l : Nat)]) ∧ Below X.heap.size X w') := Lib.hid (fun X => hashed_any 0 0 h1 h0 b X (by decide) (by decide) lh1 lh0 hb)
  have C2 := Lib.hid (fun v1 v0 (h : v1 < 2 ^ 64) (h' : v0 < 2 ^ 64) X => hashed_any v1 v0 h1 h0 c X h h' lh1 lh0 hc)
  have hs : Hs w h1 h0 m n (((w.alloc (.cells #[.int .u64 (h1 : Nat), .int .u64 (h0 : Nat)] 49)).alloc (.cells #[.int .u64 0, .int .u64 0] 49)).alloc (.cells #[.int .u64 (m : Nat), .int .u64 (n : Nat)] 49)) :=
    ⟨keepAlloc (keepAlloc (heap_alloc_new w _) _) _, keepAlloc (second_new w _ _) _, third_new w _ _ _, below_alloc (below_alloc (below_alloc (Below.refl _ _) _) _) _⟩
  have HS := Lib.hid hs
  clear hpart hs hm hn lh1 lh0 hb hc
  go_enter Try.func27, Try.ntmps27
  go_wp2
  generalize ((w.alloc (Obj.cells #[Value.int IntKind.u64 (h1 : Nat), Value.int IntKind.u64 (h0 : Nat)] 49)).alloc (Obj.cells #[Value.int IntKind.u64 0, Value.int IntKind.u64 0] 49)).alloc (Obj.cells #[Value.int IntKind.u64 (m : Nat), Value.int IntKind.u64 (n : Nat)] 49) = wq at *
  clear q1 q2 q3 q4
  go_region_held3 (fun X => X.cell? ⟨w.heap.size, 0, none⟩ = some (.int .u64 (h1 : Nat)) ∧ X.cell? ⟨w.heap.size, 1, none⟩ = some (.int .u64 (h0 : Nat)) ∧ X.cell? ⟨w.heap.size + 1 + 1, 0, none⟩ = some (.int .u64 (m : Nat)) ∧ X.cell? ⟨w.heap.size + 1 + 1, 1, none⟩ = some (.int .u64 (n : Nat))) (first | (with_reducible exact HS.out.drew.cells) | (with_reducible exact HQ3.out.cells) | (with_reducible exact HQ4.out.cells) | (with_reducible exact HQ5.out.cells) | (with_reducible exact HQ6.out.cells) | (exact HQ6.out.stored z1 z0)) (first
    | (go_at_call 25; with_reducible refine (times_any p1 p0 h1 h0 _ HPP.out.1 HPP.out.2.1 HP.out.2.1 HP.out.2.2.1).mono ?_; rintro e w6 ⟨z1, z0, lz1, lz0, ez, rfl, hb6⟩; have HQ6 := Lib.hid (HQ5.out.next hb6); have HZ := Lib.hid (And.intro lz1 (And.intro lz0 ez)); obtain ⟨s1, s2, s3, s4⟩ := HQ6.out.hR.asks; clear hb6 lz1 lz0 ez)
    | (go_at_call 37; with_reducible refine (plus_blk y1 y0 m n _ HY.out.1 HY.out.2.1 HP.out.2.2.2.1 HP.out.2.2.2.2).mono ?_; rintro e w5 ⟨p1, p0, lp1, lp0, ep, rfl, hb5⟩; have HQ5 := Lib.hid (HQ4.out.next hb5); have HPP := Lib.hid (And.intro lp1 (And.intro lp0 ep)); clear hb5 lp1 lp0 ep)
    | (go_at_call 39; with_reducible refine (C2.out x1 x0 HX.out.1 HX.out.2.1 _).mono ?_; rintro e w4 ⟨y1, y0, ly1, ly0, ey, rfl, hb4⟩; have HQ4 := Lib.hid (HQ3.out.next hb4); have HY := Lib.hid (And.intro ly1 (And.intro ly0 ey)); clear hb4 ly1 ly0 ey)
    | (go_at_call 39; with_reducible refine (C1.out _).mono ?_; rintro e w3 ⟨x1, x0, lx1, lx0, ex, rfl, hb3⟩; have HQ3 := Lib.hid (HS.out.drew.next hb3); have HX := Lib.hid (And.intro lx1 (And.intro lx0 ex)); clear hb3 lx1 lx0 ex))
  have hfin : whole z1 z0 = hashN (whole h1 h0) (nums b) (nums c) := by rw [HZ.out.2.2, HPP.out.2.2, HY.out.2.2, HX.out.2.2, HP.out.1]
  have HF := Lib.hid hfin
  clear hfin s1 s2 s3 s4
  go_wp2
  exact ret_blk rfl rfl (HQ6.out.hR.put z1 z0) ⟨z1, z0, HZ.out.1, HZ.out.2.1, HF.out, rfl, below_put2 HQ6.out.below (by omega) _ _⟩

/-- A text's number. -/
def numT (b : ByteArray) : Nat := big (nums b)

set_option maxHeartbeats 4000000 in
theorem Times_any (x y : ByteArray) (w : World) (hx : x.size = 16) (hy : y.size = 16) :
    Calls Try.prog 13 #[.string x, .string y] w fun e w' => e = .returned (.string (blockB (times128 (numT x) (numT y)))) ∧ Below w.heap.size w w' := by
  have q1 : (x.size : Int) = 16 := by omega
  have q2 : (y.size : Int) = 16 := by omega
  have q3 : ((x.size : Int) != 16) = false := by simp; omega
  have q4 : ((y.size : Int) != 16) = false := by simp; omega
  have e1 : big (padL (nums x)) = numT x := by rw [padL_full (by rw [nums_length]; exact hx)]; rfl
  have e2 : big (padL (nums y)) = numT y := by rw [padL_full (by rw [nums_length]; exact hy)]; rfl
  have HE := Lib.hid (And.intro e1 e2)
  clear e1 e2 hx hy
  go_enter Try.func13, Try.ntmps13
  go_wp2_with fail
  refine (blockOf_any x _).mono ?_
  rintro e w1 ⟨a1, a0, la1, la0, ea, rfl, hb1⟩
  have HA := Lib.hid (And.intro la1 (And.intro la0 (And.intro ea hb1)))
  clear la1 la0 ea hb1
  go_wp2_with fail
  refine (blockOf_any y _).mono ?_
  rintro e w2 ⟨b1, b0, lb1, lb0, eb, rfl, hb2⟩
  have HB := Lib.hid (And.intro lb1 (And.intro lb0 (And.intro eb hb2)))
  clear lb1 lb0 eb hb2
  go_wp2_with fail
  refine (times_any a1 a0 b1 b0 _ HA.out.1 HA.out.2.1 HB.out.1 HB.out.2.1).mono ?_
  rintro e w3 ⟨c1, c0, lc1, lc0, ec, rfl, hb3⟩
  have HC := Lib.hid (And.intro lc1 (And.intro lc0 (And.intro ec hb3)))
  clear lc1 lc0 ec hb3
  go_wp2_with fail
  refine (text_blk c1 c0 _ HC.out.1 HC.out.2.1).mono ?_
  rintro e w4 ⟨rfl, hb4⟩
  have HD := Lib.hid hb4
  clear hb4
  go_wp2
  go_ret
  exact ⟨by rw [HC.out.2.2.1, HA.out.2.2.1, HB.out.2.2.1, HE.out.1, HE.out.2]; rfl, below_link (below_link (below_link HA.out.2.2.2 HB.out.2.2.2) HC.out.2.2.2) HD.out⟩

set_option maxHeartbeats 4000000 in
theorem Times_none (x y : ByteArray) (w : World) (h : x.size ≠ 16 ∨ y.size ≠ 16) :
    Calls Try.prog 13 #[.string x, .string y] w fun e w' => e = .returned (.string ⟨#[]⟩) ∧ w' = w := by
  by_cases hx : x.size = 16
  · have hy : y.size ≠ 16 := by omega
    have q1 : (x.size : Int) = 16 := by omega
    have q2 : ¬ (y.size : Int) = 16 := by omega
    have q4 : ((y.size : Int) != 16) = true := by simp; omega
    go_enter Try.func13, Try.ntmps13
    go_wp2
    go_ret
    exact ⟨rfl, rfl⟩
  · have q1 : ¬ (x.size : Int) = 16 := by omega
    have q4 : ((x.size : Int) != 16) = true := by simp; omega
    go_enter Try.func13, Try.ntmps13
    go_wp2
    go_ret
    exact ⟨rfl, rfl⟩

set_option maxHeartbeats 4000000 in
theorem Hash_any (x b c : ByteArray) (w : World) (hx : x.size = 16) (hb : b.size ≤ 1073741824) (hc : c.size ≤ 1073741824) :
    Calls Try.prog 16 #[.string x, .string b, .string c] w fun e w' => e = .returned (.string (blockB (hashN (numT x) (nums b) (nums c)))) ∧ Below w.heap.size w w' := by
  have q1 : (x.size : Int) = 16 := by omega
  have q3 : ((x.size : Int) != 16) = false := by simp; omega
  have e1 : big (padL (nums x)) = numT x := by rw [padL_full (by rw [nums_length]; exact hx)]; rfl
  have HE := Lib.hid (And.intro e1 (And.intro hb hc))
  clear e1 hx hb hc
  go_enter Try.func16, Try.ntmps16
  go_wp2_with fail
  refine (blockOf_any x _).mono ?_
  rintro e w1 ⟨a1, a0, la1, la0, ea, rfl, hb1⟩
  have HA := Lib.hid (And.intro la1 (And.intro la0 (And.intro ea hb1)))
  clear la1 la0 ea hb1
  go_wp2_with fail
  refine (hash_any a1 a0 b c _ HA.out.1 HA.out.2.1 HE.out.2.1 HE.out.2.2).mono ?_
  rintro e w3 ⟨c1, c0, lc1, lc0, ec, rfl, hb3⟩
  have HC := Lib.hid (And.intro lc1 (And.intro lc0 (And.intro ec hb3)))
  clear lc1 lc0 ec hb3
  go_wp2_with fail
  refine (text_blk c1 c0 _ HC.out.1 HC.out.2.1).mono ?_
  rintro e w4 ⟨rfl, hb4⟩
  have HD := Lib.hid hb4
  clear hb4
  go_wp2
  go_ret
  exact ⟨by rw [HC.out.2.2.1, HA.out.2.2.1, HE.out.1]; rfl, below_link (below_link HA.out.2.2.2 HC.out.2.2.2) HD.out⟩

set_option maxHeartbeats 4000000 in
theorem Hash_none (x b c : ByteArray) (w : World) (h : x.size ≠ 16) :
    Calls Try.prog 16 #[.string x, .string b, .string c] w fun e w' => e = .returned (.string ⟨#[]⟩) ∧ w' = w := by
  have q1 : ¬ (x.size : Int) = 16 := by omega
  have q4 : ((x.size : Int) != 16) = true := by simp; omega
  go_enter Try.func16, Try.ntmps16
  go_wp2
  go_ret
  exact ⟨rfl, rfl⟩

end Gcm
end Go.Proofs.Ytpjobjpdfhpobaa
