/-
  Joined: Pe, Pf. Conditions: as each part says.
-/
import Derived.Test.YtedoggejbhbebaaJ33
import Derived.Deep.RegionHeld3

/-
  Contracts of gcm.hashed and gcm.hash. Conditions: the halves have 64 bits; the texts are shorter than 2^30 bytes.
-/
namespace Go.Proofs.Ytedoggejbhbebaa
namespace Gcm
open Go.ChangeShapes Go.WideShapes Go.ChangeAt Go.RowKit Go.Great Go.ChangeMaps
open Gf Aes
set_option linter.unusedVariables false
set_option maxRecDepth 100000

theorem nums_extract (b : ByteArray) (o : Nat) : nums (b.extract o b.size) = (nums b).drop o := by
  unfold nums
  rw [← List.map_drop]
  congr 1
  simp
  rw [List.take_of_length_le]
  rw [List.length_drop]
  exact Nat.le_refl _

theorem plus_blk (a b c d : Nat) (w : World) (ha : a < 2 ^ 64) (hb : b < 2 ^ 64) (hc : c < 2 ^ 64) (hd : d < 2 ^ 64) :
    Calls Try.prog 64 #[.agg #[.int .u64 (a : Nat), .int .u64 (b : Nat)], .agg #[.int .u64 (c : Nat), .int .u64 (d : Nat)]] w fun e w' => ∃ h l : Nat, h < 2 ^ 64 ∧ l < 2 ^ 64 ∧ whole h l = whole a b ^^^ whole c d ∧ e = .returned (.agg #[.int .u64 (h : Nat), .int .u64 (l : Nat)]) ∧ Below w.heap.size w w' :=
  (plus_any a b c d w ha hb hc hd).mono fun e w' ⟨he, hw⟩ => ⟨_, _, Nat.xor_lt_two_pow ha hc, Nat.xor_lt_two_pow hb hd, (whole_xor hb hd).symm, he, hw⟩

/-- The value, the factor, the result's block. -/
structure Hd (w : World) (v1 v0 h1 h0 : Nat) (X : World) : Prop where
  hV : B2 w.heap.size v1 v0 X
  hH : B2 (w.heap.size + 1) h1 h0 X
  hR : B2 (w.heap.size + 1 + 1) 0 0 X
  below : Below w.heap.size w X
theorem Hd.next {w X Y : World} {v1 v0 h1 h0 : Nat} (h : Hd w v1 v0 h1 h0 X) (hb : Below X.heap.size X Y) : Hd w v1 v0 h1 h0 Y :=
  ⟨keepBlock h.hV hb, keepBlock h.hH hb, keepBlock h.hR hb, below_link h.below hb⟩
theorem Hd.drew {w X : World} {v1 v0 h1 h0 : Nat} (h : Hd w v1 v0 h1 h0 X) : Hd w v1 v0 h1 h0 X.drew := ⟨h.hV, h.hH, h.hR, h.below.drew⟩
theorem Hd.put {w X : World} {v1 v0 h1 h0 : Nat} (h : Hd w v1 v0 h1 h0 X) (a b : Nat) : Hd w a b h1 h0 (put2 X w.heap.size a b) :=
  ⟨h.hV.put _ _, h.hH.far (by omega) _ _, h.hR.far (by omega) _ _, below_put2 h.below (Nat.le_refl _) _ _⟩

set_option maxHeartbeats 8000000 in
theorem hashed_any (v1 v0 h1 h0 : Nat) (b : ByteArray) (w : World) (lv1 : v1 < 2 ^ 64) (lv0 : v0 < 2 ^ 64) (lh1 : h1 < 2 ^ 64) (lh0 : h0 < 2 ^ 64) (hsz : b.size ≤ 1073741824) :
    Calls Try.prog 77 #[.agg #[.int .u64 (v1 : Nat), .int .u64 (v0 : Nat)], .agg #[.int .u64 (h1 : Nat), .int .u64 (h0 : Nat)], .string b] w fun e w' => ∃ h l : Nat, h < 2 ^ 64 ∧ l < 2 ^ 64 ∧ whole h l = hashFrom (whole h1 h0) (filledL (nums b)) (whole v1 v0) (blocksOf b.size) ∧ e = .returned (.agg #[.int .u64 (h : Nat), .int .u64 (l : Nat)]) ∧ Below w.heap.size w w' := by
  obtain ⟨n, hn⟩ : ∃ n, n = blocksOf b.size := ⟨_, rfl⟩
  obtain ⟨F, hF⟩ : ∃ F, F = hashFrom (whole h1 h0) (filledL (nums b)) (whole v1 v0) := ⟨_, rfl⟩
  have hF0 : F 0 = whole v1 v0 := by rw [hF]; rfl
  have hFS : ∀ k, k < n → F (k + 1) = times128 (F k ^^^ big (padL ((nums b).drop (16 * k)))) (whole h1 h0) := fun k hk => by
    rw [hF, padL_drop (nums b) k (by rw [nums_length, ← hn]; exact hk)]; rfl
  rw [← hn, ← hF]
  have hnb : 16 * n < b.size + 16 ∧ b.size ≤ 16 * n := by rw [hn]; unfold blocksOf; omega
  have HF := Lib.hid (And.intro hF0 (And.intro hFS (And.intro lh1 (And.intro lh0 (And.intro lv1 lv0)))))
  have ht : Hd w v1 v0 h1 h0 (((w.alloc (.cells #[.int .u64 (v1 : Nat), .int .u64 (v0 : Nat)] 82)).alloc (.cells #[.int .u64 (h1 : Nat), .int .u64 (h0 : Nat)] 82)).alloc (.cells #[.int .u64 0, .int .u64 0] 82)) :=
    ⟨keepAlloc (keepAlloc (heap_alloc_new w _) _) _, keepAlloc (second_new w _ _) _, third_new w _ _ _, below_alloc (below_alloc (below_alloc (Below.refl _ _) _) _) _⟩
  have HT := Lib.hid ht
  clear hF0 hFS hF hn lh1 lh0 ht lv1 lv0
  go_enter Try.func77, Try.ntmps77
  go_wp2
  go_loopw [7] (fun i wr => ∃ k x1 x0 : Nat, k ≤ n ∧ i = .int .i64 ((16 * k : Nat) : Int) ∧ Hd w x1 x0 h1 h0 wr ∧ x1 < 2 ^ 64 ∧ x0 < 2 ^ 64 ∧ whole x1 x0 = F k) (fun i _ => b.size + 16 - (intOf i).toNat)
  case atStart => exact ⟨0, v1, v0, Nat.zero_le _, rfl, HT.out, HF.out.2.2.2.2.1, HF.out.2.2.2.2.2, HF.out.1.symm⟩
  case round =>
    obtain ⟨k, x1, x0, hk, rfl, hS, lx1, lx0, ex⟩ := hrel
    by_cases hlt : k < n
    · obtain ⟨o, ho⟩ : ∃ o, o = 16 * k := ⟨_, rfl⟩
      rw [← ho]
      have g1 : (o : Int) < (b.size : Int) := by omega
      have g2 : o ≤ b.size := by omega
      obtain ⟨f1, f2, _, _⟩ := hS.hV.asks
      obtain ⟨f3, f4, _, _⟩ := hS.hH.asks
      have C1 := Lib.hid (fun X => blockOf_any (b.extract o b.size) X)
      have HE := Lib.hid (nums_extract b o)
      have HQ := Lib.hid hS
      have HX := Lib.hid (And.intro lx1 (And.intro lx0 ex))
      obtain ⟨o2, ho2⟩ : ∃ o2, o2 = 16 * (k + 1) := ⟨_, rfl⟩
      have q1 : (o : Int) + 16 = (o2 : Int) := by omega
      have HO := Lib.hid (And.intro ho (And.intro ho2 hlt))
      clear hS lx1 lx0 ex ho ho2
      go_wp2
      go_region_with (first | (go_at_call 62; with_reducible refine (C1.out _).mono ?_; rintro e w3 ⟨d1, d0, ld1, ld0, ed, rfl, hb3⟩; have HQ3 := Lib.hid (HQ.out.drew.next hb3); have HD := Lib.hid (And.intro ld1 (And.intro ld0 ed)); have k3 := HQ3.out.hH.hi; have k4 := HQ3.out.hH.lo; have k1 := HQ3.out.hV.hi; have k2 := HQ3.out.hV.lo; clear hb3 ld1 ld0 ed) | (go_at_call 64; with_reducible refine (plus_blk x1 x0 d1 d0 _ HX.out.1 HX.out.2.1 HD.out.1 HD.out.2.1).mono ?_; rintro e w4 ⟨p1, p0, lp1, lp0, ep, rfl, hb4⟩; have HQ4 := Lib.hid (HQ3.out.next hb4); have HP := Lib.hid (And.intro lp1 (And.intro lp0 ep)); have m3 := HQ4.out.hH.hi; have m4 := HQ4.out.hH.lo; clear hb4 lp1 lp0 ep) | (go_at_call 78; with_reducible refine (times_any p1 p0 h1 h0 _ HP.out.1 HP.out.2.1 HF.out.2.2.1 HF.out.2.2.2.1).mono ?_; rintro e w5 ⟨z1, z0, lz1, lz0, ez, rfl, hb5⟩; have HQ5 := Lib.hid (HQ4.out.next hb5); have HZ := Lib.hid (And.intro lz1 (And.intro lz0 ez)); obtain ⟨s1, s2, s3, s4⟩ := HQ5.out.hV.asks; clear hb5 lz1 lz0 ez))
      all_goals (have hfin : whole z1 z0 = F (k + 1) := (by rw [HZ.out.2.2, HP.out.2.2, HD.out.2.2, HE.out, HX.out.2.2, HF.out.2.1 k HO.out.2.2, HO.out.1]); have HFN := Lib.hid hfin; clear hfin k1 k2 k3 k4 m3 m4 s1 s2 s3 s4 f1 f2 f3 f4; go_wp2; go_roundw)
      all_goals first
        | exact ⟨k + 1, z1, z0, HO.out.2.2, by rw [HO.out.2.1], HQ5.out.put z1 z0, HZ.out.1, HZ.out.2.1, HFN.out⟩
        | (have := HO.out.1; have := HO.out.2.1; simp [intOf]; omega)
    · obtain rfl : k = n := by omega
      obtain ⟨o, ho⟩ : ∃ o, o = 16 * k := ⟨_, rfl⟩
      rw [← ho]
      have g1 : ¬ (o : Int) < (b.size : Int) := by omega
      obtain ⟨f1, f2, _, _⟩ := hS.hV.asks
      obtain ⟨s1, s2, s3, s4⟩ := hS.hR.asks
      have HQ := Lib.hid hS
      have HX := Lib.hid (And.intro lx1 (And.intro lx0 ex))
      clear hS lx1 lx0 ex ho hnb
      go_wp2
      exact ret_blk rfl rfl (HQ.out.hR.put x1 x0) ⟨x1, HX.out.1, x0, HX.out.2.1, HX.out.2.2, rfl, below_put2 HQ.out.below (by omega) _ _⟩

end Gcm
end Go.Proofs.Ytedoggejbhbebaa

/-
  Contract of gcm.hash. Conditions: the texts are shorter than 2^30 bytes.
-/
namespace Go.Proofs.Ytedoggejbhbebaa
namespace Gcm
open Go.ChangeShapes Go.WideShapes Go.ChangeAt Go.RowKit Go.Great Go.ChangeMaps
open Gf Aes
set_option linter.unusedVariables false
set_option maxRecDepth 100000

/-- The factor, the result's block, the sizes. -/
structure Hs (w : World) (h1 h0 a b : Nat) (X : World) : Prop where
  hH : B2 w.heap.size h1 h0 X
  hR : B2 (w.heap.size + 1) 0 0 X
  hL : B2 (w.heap.size + 1 + 1) a b X
  below : Below w.heap.size w X
theorem Hs.next {w X Y : World} {h1 h0 a b : Nat} (h : Hs w h1 h0 a b X) (hb : Below X.heap.size X Y) : Hs w h1 h0 a b Y :=
  ⟨keepBlock h.hH hb, keepBlock h.hR hb, keepBlock h.hL hb, below_link h.below hb⟩
theorem Hs.drew {w X : World} {h1 h0 a b : Nat} (h : Hs w h1 h0 a b X) : Hs w h1 h0 a b X.drew := ⟨h.hH, h.hR, h.hL, h.below.drew⟩
theorem Hs.cells {w X : World} {h1 h0 a b : Nat} (h : Hs w h1 h0 a b X) : X.cell? ⟨w.heap.size, 0, none⟩ = some (.int .u64 (h1 : Nat)) ∧ X.cell? ⟨w.heap.size, 1, none⟩ = some (.int .u64 (h0 : Nat)) ∧ X.cell? ⟨w.heap.size + 1 + 1, 0, none⟩ = some (.int .u64 (a : Nat)) ∧ X.cell? ⟨w.heap.size + 1 + 1, 1, none⟩ = some (.int .u64 (b : Nat)) :=
  ⟨h.hH.hi, h.hH.lo, h.hL.hi, h.hL.lo⟩
/-- Behind the store of the result. -/
theorem Hs.stored {w X : World} {h1 h0 a b : Nat} (h : Hs w h1 h0 a b X) (x y : Nat) : (put2 X (w.heap.size + 1) x y).cell? ⟨w.heap.size, 0, none⟩ = some (.int .u64 (h1 : Nat)) ∧ (put2 X (w.heap.size + 1) x y).cell? ⟨w.heap.size, 1, none⟩ = some (.int .u64 (h0 : Nat)) ∧ (put2 X (w.heap.size + 1) x y).cell? ⟨w.heap.size + 1 + 1, 0, none⟩ = some (.int .u64 (a : Nat)) ∧ (put2 X (w.heap.size + 1) x y).cell? ⟨w.heap.size + 1 + 1, 1, none⟩ = some (.int .u64 (b : Nat)) :=
  ⟨(h.hH.far (by omega) x y).hi, (h.hH.far (by omega) x y).lo, (h.hL.far (by omega) x y).hi, (h.hL.far (by omega) x y).lo⟩

set_option maxHeartbeats 8000000 in
theorem hash_any (h1 h0 : Nat) (b c : ByteArray) (w : World) (lh1 : h1 < 2 ^ 64) (lh0 : h0 < 2 ^ 64) (hb : b.size ≤ 1073741824) (hc : c.size ≤ 1073741824) :
    Calls Try.prog 63 #[.agg #[.int .u64 (h1 : Nat), .int .u64 (h0 : Nat)], .string b, .string c] w fun e w' => ∃ h l : Nat, h < 2 ^ 64 ∧ l < 2 ^ 64 ∧ whole h l = hashN (whole h1 h0) (nums b) (nums c) ∧ e = .returned (.agg #[.int .u64 (h : Nat), .int .u64 (l : Nat)]) ∧ Below w.heap.size w w' := by
  obtain ⟨m, hm⟩ : ∃ m, m = 8 * b.size := ⟨_, rfl⟩
  obtain ⟨n, hn⟩ : ∃ n, n = 8 * c.size := ⟨_, rfl⟩
  have q1 : IntKind.u64.wrap (8 * (b.size : Int)) = (m : Int) := by rw [IntKind.wrap_u64]; omega
  have q2 : IntKind.u64.wrap (8 * (c.size : Int)) = (n : Int) := by rw [IntKind.wrap_u64]; omega
  have q3 : IntKind.u64.wrap (b.size : Int) = (b.size : Int) := by rw [IntKind.wrap_u64]; omega
  have q4 : IntKind.u64.wrap (c.size : Int) = (c.size : Int) := by rw [IntKind.wrap_u64]; omega
  have hpart := hashN_parts (h := whole h1 h0) (w := nums b) (t := nums c) (by rw [nums_length]; omega) (by rw [nums_length]; omega)
  rw [nums_length, nums_length, ← hm, ← hn] at hpart
  have HP := Lib.hid (And.intro hpart (And.intro lh1 (And.intro lh0 (And.intro (show m < 2 ^ 64 by omega) (show n < 2 ^ 64 by omega)))))
  have C1 : Hid (∀ X, Calls Try.prog 77 #[.agg #[.int .u64 0, .int .u64 0], .agg #[.int .u64 (h1 : Nat), .int .u64 (h0 : Nat)], .string b] X fun e w' => ∃ h l : Nat, h < 2 ^ 64 ∧ l < 2 ^ 64 ∧ whole h l = hashFrom (whole h1 h0) (filledL (nums b)) 0 (blocksOf b.size) ∧ e = .returned (.agg #[.int .u64 (h : Nat), .int .u64 (l : Nat)]) ∧ Below X.heap.size X w') := Lib.hid (fun X => hashed_any 0 0 h1 h0 b X (by decide) (by decide) lh1 lh0 hb)
  have C2 := Lib.hid (fun v1 v0 (h : v1 < 2 ^ 64) (h' : v0 < 2 ^ 64) X => hashed_any v1 v0 h1 h0 c X h h' lh1 lh0 hc)
  have hs : Hs w h1 h0 m n (((w.alloc (.cells #[.int .u64 (h1 : Nat), .int .u64 (h0 : Nat)] 82)).alloc (.cells #[.int .u64 0, .int .u64 0] 82)).alloc (.cells #[.int .u64 (m : Nat), .int .u64 (n : Nat)] 82)) :=
    ⟨keepAlloc (keepAlloc (heap_alloc_new w _) _) _, keepAlloc (second_new w _ _) _, third_new w _ _ _, below_alloc (below_alloc (below_alloc (Below.refl _ _) _) _) _⟩
  have HS := Lib.hid hs
  clear hpart hs hm hn lh1 lh0 hb hc
  go_enter Try.func63, Try.ntmps63
  go_wp2
  generalize ((w.alloc (Obj.cells #[Value.int IntKind.u64 (h1 : Nat), Value.int IntKind.u64 (h0 : Nat)] 82)).alloc (Obj.cells #[Value.int IntKind.u64 0, Value.int IntKind.u64 0] 82)).alloc (Obj.cells #[Value.int IntKind.u64 (m : Nat), Value.int IntKind.u64 (n : Nat)] 82) = wq at *
  clear q1 q2 q3 q4
  go_region_held3 (fun X => X.cell? ⟨w.heap.size, 0, none⟩ = some (.int .u64 (h1 : Nat)) ∧ X.cell? ⟨w.heap.size, 1, none⟩ = some (.int .u64 (h0 : Nat)) ∧ X.cell? ⟨w.heap.size + 1 + 1, 0, none⟩ = some (.int .u64 (m : Nat)) ∧ X.cell? ⟨w.heap.size + 1 + 1, 1, none⟩ = some (.int .u64 (n : Nat))) (first | (with_reducible exact HS.out.drew.cells) | (with_reducible exact HQ3.out.cells) | (with_reducible exact HQ4.out.cells) | (with_reducible exact HQ5.out.cells) | (with_reducible exact HQ6.out.cells) | (exact HQ6.out.stored z1 z0)) (first
    | (go_at_call 78; with_reducible refine (times_any p1 p0 h1 h0 _ HPP.out.1 HPP.out.2.1 HP.out.2.1 HP.out.2.2.1).mono ?_; rintro e w6 ⟨z1, z0, lz1, lz0, ez, rfl, hb6⟩; have HQ6 := Lib.hid (HQ5.out.next hb6); have HZ := Lib.hid (And.intro lz1 (And.intro lz0 ez)); obtain ⟨s1, s2, s3, s4⟩ := HQ6.out.hR.asks; clear hb6 lz1 lz0 ez)
    | (go_at_call 64; with_reducible refine (plus_blk y1 y0 m n _ HY.out.1 HY.out.2.1 HP.out.2.2.2.1 HP.out.2.2.2.2).mono ?_; rintro e w5 ⟨p1, p0, lp1, lp0, ep, rfl, hb5⟩; have HQ5 := Lib.hid (HQ4.out.next hb5); have HPP := Lib.hid (And.intro lp1 (And.intro lp0 ep)); clear hb5 lp1 lp0 ep)
    | (go_at_call 77; with_reducible refine (C2.out x1 x0 HX.out.1 HX.out.2.1 _).mono ?_; rintro e w4 ⟨y1, y0, ly1, ly0, ey, rfl, hb4⟩; have HQ4 := Lib.hid (HQ3.out.next hb4); have HY := Lib.hid (And.intro ly1 (And.intro ly0 ey)); clear hb4 ly1 ly0 ey)
    | (go_at_call 77; with_reducible refine (C1.out _).mono ?_; rintro e w3 ⟨x1, x0, lx1, lx0, ex, rfl, hb3⟩; have HQ3 := Lib.hid (HS.out.drew.next hb3); have HX := Lib.hid (And.intro lx1 (And.intro lx0 ex)); clear hb3 lx1 lx0 ex))
  have hfin : whole z1 z0 = hashN (whole h1 h0) (nums b) (nums c) := by rw [HZ.out.2.2, HPP.out.2.2, HY.out.2.2, HX.out.2.2, HP.out.1]
  have HF := Lib.hid hfin
  clear hfin s1 s2 s3 s4
  go_wp2
  exact ret_blk rfl rfl (HQ6.out.hR.put z1 z0) ⟨z1, z0, HZ.out.1, HZ.out.2.1, HF.out, rfl, below_put2 HQ6.out.below (by omega) _ _⟩

/-- A text's number. -/
def numT (b : ByteArray) : Nat := big (nums b)

end Gcm
end Go.Proofs.Ytedoggejbhbebaa
