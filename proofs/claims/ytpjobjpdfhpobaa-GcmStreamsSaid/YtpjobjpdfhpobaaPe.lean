/-
  Contracts of gcm.hashed and gcm.hash. Conditions: the halves have 64 bits; the texts are shorter than 2^30 bytes.
-/
import Derived.Test.YtpjobjpdfhpobaaPd
namespace Go.Proofs.Ytpjobjpdfhpobaa
namespace Gcm
open Go.ChangeShapes Go.WideShapes Go.ChangeAt Go.RowKit Go.Great Go.ChangeMaps
open Gf Aes
set_option linter.unusedVariables false
set_option maxRecDepth 100000

theorem nums_extract (b : ByteArray) (o : Nat) : nums (b.extract o b.size) = (nums b).drop o := by
  unfold nums
  rw [← List.map_drop]
  congr 1
  simp
  rw [List.take_of_length_le]
  rw [List.length_drop]
  exact Nat.le_refl _

theorem plus_blk (a b c d : Nat) (w : World) (ha : a < 2 ^ 64) (hb : b < 2 ^ 64) (hc : c < 2 ^ 64) (hd : d < 2 ^ 64) :
    Calls Try.prog 37 #[.agg #[.int .u64 (a : Nat), .int .u64 (b : Nat)], .agg #[.int .u64 (c : Nat), .int .u64 (d : Nat)]] w fun e w' => ∃ h l : Nat, h < 2 ^ 64 ∧ l < 2 ^ 64 ∧ whole h l = whole a b ^^^ whole c d ∧ e = .returned (.agg #[.int .u64 (h : Nat), .int .u64 (l : Nat)]) ∧ Below w.heap.size w w' :=
  (plus_any a b c d w ha hb hc hd).mono fun e w' ⟨he, hw⟩ => ⟨_, _, Nat.xor_lt_two_pow ha hc, Nat.xor_lt_two_pow hb hd, (whole_xor hb hd).symm, he, hw⟩

/-- The value, the factor, the result's block. -/
structure Hd (w : World) (v1 v0 h1 h0 : Nat) (X : World) : Prop where
  hV : B2 w.heap.size v1 v0 X
  hH : B2 (w.heap.size + 1) h1 h0 X
  hR : B2 (w.heap.size + 1 + 1) 0 0 X
  below : Below w.heap.size w X
theorem Hd.next {w X Y : World} {v1 v0 h1 h0 : Nat} (h : Hd w v1 v0 h1 h0 X) (hb : Below X.heap.size X Y) : Hd w v1 v0 h1 h0 Y :=
  ⟨keepBlock h.hV hb, keepBlock h.hH hb, keepBlock h.hR hb, below_link h.below hb⟩
theorem Hd.drew {w X : World} {v1 v0 h1 h0 : Nat} (h : Hd w v1 v0 h1 h0 X) : Hd w v1 v0 h1 h0 X.drew := ⟨h.hV, h.hH, h.hR, h.below.drew⟩
theorem Hd.put {w X : World} {v1 v0 h1 h0 : Nat} (h : Hd w v1 v0 h1 h0 X) (a b : Nat) : Hd w a b h1 h0 (put2 X w.heap.size a b) :=
  ⟨h.hV.put _ _, h.hH.far (by omega) _ _, h.hR.far (by omega) _ _, below_put2 h.below (Nat.le_refl _) _ _⟩

set_option maxHeartbeats 8000000 in
theorem hashed_any (v1 v0 h1 h0 : Nat) (b : ByteArray) (w : World) (lv1 : v1 < 2 ^ 64) (lv0 : v0 < 2 ^ 64) (lh1 : h1 < 2 ^ 64) (lh0 : h0 < 2 ^ 64) (hsz : b.size ≤ 1073741824) :
    Calls Try.prog 39 #[.agg #[.int .u64 (v1 : Nat), .int .u64 (v0 : Nat)], .agg #[.int .u64 (h1 : Nat), .int .u64 (h0 : Nat)], .string b] w fun e w' => ∃ h l : Nat, h < 2 ^ 64 ∧ l < 2 ^ 64 ∧ whole h l = hashFrom (whole h1 h0) (filledL (nums b)) (whole v1 v0) (blocksOf b.size) ∧ e = .returned (.agg #[.int .u64 (h : Nat), .int .u64 (l : Nat)]) ∧ Below w.heap.size w w' := by
  obtain ⟨n, hn⟩ : ∃ n, n = blocksOf b.size := ⟨_, rfl⟩
  obtain ⟨F, hF⟩ : ∃ F, F = hashFrom (whole h1 h0) (filledL (nums b)) (whole v1 v0) := ⟨_, rfl⟩
  have hF0 : F 0 = whole v1 v0 := by rw [hF]; rfl
  have hFS : ∀ k, k < n → F (k + 1) = times128 (F k ^^^ big (padL ((nums b).drop (16 * k)))) (whole h1 h0) := fun k hk => by
    rw [hF, padL_drop (nums b) k (by rw [nums_length, ← hn]; exact hk)]; rfl
  rw [← hn, ← hF]
  have hnb : 16 * n < b.size + 16 ∧ b.size ≤ 16 * n := by rw [hn]; unfold blocksOf; omega
  have HF := Lib.hid (And.intro hF0 (And.intro hFS (And.intro lh1 (And.intro lh0 (And.intro lv1 lv0)))))
  have ht : Hd w v1 v0 h1 h0 (((w.alloc (.cells #[.int .u64 (v1 : Nat), .int .u64 (v0 : Nat)] 49)).alloc (.cells #[.int .u64 (h1 : Nat), .int .u64 (h0 : Nat)] 49)).alloc (.cells #[.int .u64 0, .int .u64 0] 49)) :=
    ⟨keepAlloc (keepAlloc (heap_alloc_new w _) _) _, keepAlloc (second_new w _ _) _, third_new w _ _ _, below_alloc (below_alloc (below_alloc (Below.refl _ _) _) _) _⟩
  have HT := Lib.hid ht
  clear hF0 hFS hF hn lh1 lh0 ht lv1 lv0
  go_enter Try.func39, Try.ntmps39
  go_wp2
  go_loopw [7] (fun i wr => ∃ k x1 x0 : Nat, k ≤ n ∧ i = .int .i64 ((16 * k : Nat) : Int) ∧ Hd w x1 x0 h1 h0 wr ∧ x1 < 2 ^ 64 ∧ x0 < 2 ^ 64 ∧ whole x1 x0 = F k) (fun i _ => b.size + 16 - (intOf i).toNat)
  case atStart => exact ⟨0, v1, v0, Nat.zero_le _, rfl, HT.out, HF.out.2.2.2.2.1, HF.out.2.2.2.2.2, HF.out.1.symm⟩
  case round =>
    obtain ⟨k, x1, x0, hk, rfl, hS, lx1, lx0, ex⟩ := hrel
    by_cases hlt : k < n
    · obtain ⟨o, ho⟩ : ∃ o, o = 16 * k := ⟨_, rfl⟩
      rw [← ho]
      have g1 : (o : Int) < (b.size : Int) := by omega
      have g2 : o ≤ b.size := by omega
      obtain ⟨f1, f2, _, _⟩ := hS.hV.asks
      obtain ⟨f3, f4, _, _⟩ := hS.hH.asks
      have C1 := Lib.hid (fun X => blockOf_any (b.extract o b.size) X)
      have HE := Lib.hid (nums_extract b o)
      have HQ := Lib.hid hS
      have HX := Lib.hid (And.intro lx1 (And.intro lx0 ex))
      obtain ⟨o2, ho2⟩ : ∃ o2, o2 = 16 * (k + 1) := ⟨_, rfl⟩
      have q1 : (o : Int) + 16 = (o2 : Int) := by omega
      have HO := Lib.hid (And.intro ho (And.intro ho2 hlt))
      clear hS lx1 lx0 ex ho ho2
      go_wp2
      go_region_with (first | (go_at_call 24; with_reducible refine (C1.out _).mono ?_; rintro e w3 ⟨d1, d0, ld1, ld0, ed, rfl, hb3⟩; have HQ3 := Lib.hid (HQ.out.drew.next hb3); have HD := Lib.hid (And.intro ld1 (And.intro ld0 ed)); have k3 := HQ3.out.hH.hi; have k4 := HQ3.out.hH.lo; have k1 := HQ3.out.hV.hi; have k2 := HQ3.out.hV.lo; clear hb3 ld1 ld0 ed) | (go_at_call 37; with_reducible refine (plus_blk x1 x0 d1 d0 _ HX.out.1 HX.out.2.1 HD.out.1 HD.out.2.1).mono ?_; rintro e w4 ⟨p1, p0, lp1, lp0, ep, rfl, hb4⟩; have HQ4 := Lib.hid (HQ3.out.next hb4); have HP := Lib.hid (And.intro lp1 (And.intro lp0 ep)); have m3 := HQ4.out.hH.hi; have m4 := HQ4.out.hH.lo; clear hb4 lp1 lp0 ep) | (go_at_call 25; with_reducible refine (times_any p1 p0 h1 h0 _ HP.out.1 HP.out.2.1 HF.out.2.2.1 HF.out.2.2.2.1).mono ?_; rintro e w5 ⟨z1, z0, lz1, lz0, ez, rfl, hb5⟩; have HQ5 := Lib.hid (HQ4.out.next hb5); have HZ := Lib.hid (And.intro lz1 (And.intro lz0 ez)); obtain ⟨s1, s2, s3, s4⟩ := HQ5.out.hV.asks; clear hb5 lz1 lz0 ez))
      all_goals (have hfin : whole z1 z0 = F (k + 1) := (by rw [HZ.out.2.2, HP.out.2.2, HD.out.2.2, HE.out, HX.out.2.2, HF.out.2.1 k HO.out.2.2, HO.out.1]); have HFN := Lib.hid hfin; clear hfin k1 k2 k3 k4 m3 m4 s1 s2 s3 s4 f1 f2 f3 f4; go_wp2; go_roundw)
      all_goals first
        | exact ⟨k + 1, z1, z0, HO.out.2.2, by rw [HO.out.2.1], HQ5.out.put z1 z0, HZ.out.1, HZ.out.2.1, HFN.out⟩
        | (have := HO.out.1; have := HO.out.2.1; simp [intOf]; omega)
    · obtain rfl : k = n := by omega
      obtain ⟨o, ho⟩ : ∃ o, o = 16 * k := ⟨_, rfl⟩
      rw [← ho]
      have g1 : ¬ (o : Int) < (b.size : Int) := by omega
      obtain ⟨f1, f2, _, _⟩ := hS.hV.asks
      obtain ⟨s1, s2, s3, s4⟩ := hS.hR.asks
      have HQ := Lib.hid hS
      have HX := Lib.hid (And.intro lx1 (And.intro lx0 ex))
      clear hS lx1 lx0 ex ho hnb
      go_wp2
      exact ret_blk rfl rfl (HQ.out.hR.put x1 x0) ⟨x1, HX.out.1, x0, HX.out.2.1, HX.out.2.2, rfl, below_put2 HQ.out.below (by omega) _ _⟩

end Gcm
end Go.Proofs.Ytpjobjpdfhpobaa
