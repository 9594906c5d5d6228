/-
  Joined: Pi. Conditions: as each part says.
-/
import Derived.Test.YtedoggejbhbebaaJ38
import Derived.Test.YtedoggejbhbebaaJ39
import Derived.Test.YtedoggejbhbebaaJ31
import Derived.RegionTactic

/-
  Contract of gcm.lock.masked. Conditions: the lock's cipher is the key's; the text is shorter than 2^30 bytes.
-/
namespace Go.Proofs.Ytedoggejbhbebaa
namespace Gcm
open Go.ChangeShapes Go.WideShapes Go.ChangeAt Go.RowKit Go.Great Go.ChangeMaps
open Gf Aes
set_option linter.unusedVariables false
set_option maxRecDepth 100000

/-- The lock, the text's bytes, the counter. -/
structure Mk (w : World) (p n : Nat) (key : ByteArray) (a b c d gB gC : Nat) (L : List Nat) (c1 c0 : Nat) (X : World) : Prop where
  lk : Lk w p n key a b c d X
  row : Rw w gB L X
  cnt : B2 gC c1 c0 X
  farB : w.heap.size < gB
  farC : w.heap.size < gC
  apart : gB ≠ gC
theorem Mk.next {w X Y : World} {p n : Nat} {key : ByteArray} {a b c d gB gC c1 c0 : Nat} {L : List Nat} (h : Mk w p n key a b c d gB gC L c1 c0 X) (hb : Below X.heap.size X Y) : Mk w p n key a b c d gB gC L c1 c0 Y :=
  ⟨h.lk.next hb, h.row.next hb, keepBlock h.cnt hb, h.farB, h.farC, h.apart⟩
theorem Mk.drew {w X : World} {p n : Nat} {key : ByteArray} {a b c d gB gC c1 c0 : Nat} {L : List Nat} (h : Mk w p n key a b c d gB gC L c1 c0 X) : Mk w p n key a b c d gB gC L c1 c0 X.drew :=
  ⟨h.lk.drew, h.row.drew, h.cnt, h.farB, h.farC, h.apart⟩
theorem Lk.far {w X : World} {p n : Nat} {key : ByteArray} {a b c d : Nat} (h : Lk w p n key a b c d X) (hp : p < w.heap.size) {g j : Nat} (hg : w.heap.size < g) (v : Value) : Lk w p n key a b c d (X.setCell ⟨g, j, none⟩ v) := by
  have hb : Below (w.heap.size + 1) X (X.setCell ⟨g, j, none⟩ v) := (Below.refl _ _).setCell (by simp only []; omega) _
  have hc : ∀ q i, q ≤ w.heap.size → (X.setCell ⟨g, j, none⟩ v).cell? ⟨q, i, none⟩ = X.cell? ⟨q, i, none⟩ := fun q i hq => hb.cell (p := ⟨q, i, none⟩) (by simp only []; omega)
  refine ⟨by unfold L5; rw [hb.block _ (by omega)]; exact h.hL, ⟨by simpa using h.hK.lt, ?_, ?_, ?_, ?_⟩, h.below.setCell (by simp only []; omega) _⟩
  · rw [hc _ _ (by omega)]; exact h.hK.rounds
  · intro i hi; rw [hc _ _ (by omega)]; exact h.hK.words i hi
  · intro i hi; rw [hc _ _ (by omega)]; exact h.hK.there i hi
  · intro i hi; rw [hc _ _ (by omega)]; exact h.hK.back i hi
theorem Mk.count {w X : World} {p n : Nat} {key : ByteArray} {a b c d gB gC c1 c0 : Nat} {L : List Nat} (h : Mk w p n key a b c d gB gC L c1 c0 X) (hp : p < w.heap.size) (x y : Nat) : Mk w p n key a b c d gB gC L x y (put2 X gC x y) :=
  ⟨(h.lk.far hp h.farC _).far hp h.farC _, (h.row.other h.apart (by have := h.farC; omega) _).other h.apart (by have := h.farC; omega) _, h.cnt.put _ _, h.farB, h.farC, h.apart⟩
theorem Mk.set {w X : World} {p n : Nat} {key : ByteArray} {a b c d gB gC c1 c0 : Nat} {L : List Nat} (h : Mk w p n key a b c d gB gC L c1 c0 X) (hp : p < w.heap.size) {j : Nat} (hj : j < L.length) (v : Nat) : Mk w p n key a b c d gB gC (L.set j v) c1 c0 (X.setCell ⟨gB, j, none⟩ (.int .u8 (v : Nat))) :=
  ⟨h.lk.far hp h.farB _, h.row.set hj v, by unfold B2; rw [heap_setCell_other _ _ _ _ (by simp only []; exact fun e => h.apart e.symm)]; exact h.cnt, h.farB, h.farC, h.apart⟩
theorem Mk.cells {w X : World} {p n : Nat} {key : ByteArray} {a b c d gB gC c1 c0 : Nat} {L : List Nat} (h : Mk w p n key a b c d gB gC L c1 c0 X) : X.cell? ⟨w.heap.size, 0, none⟩ = some (.pointer (some ⟨p, 0, none⟩)) ∧ X.cell? ⟨gC, 0, none⟩ = some (.int .u64 (c1 : Nat)) ∧ X.cell? ⟨gC, 1, none⟩ = some (.int .u64 (c0 : Nat)) :=
  ⟨h.lk.hL.cells.1, h.cnt.hi, h.cnt.lo⟩

theorem stream_block (n : Nat) (key : ByteArray) (F k j : Nat) (hF : F < 2 ^ 128) (hj : j < 16) : (nums (doneB n key (blockB (countN F (k + 1))))).getD j 0 = streamAt (encL n key) (bytes 16 F) (16 * k + j) := by
  have e := bytes_countN (bytes_length 16 F) (bytes_lt 16 F) (k + 1)
  rw [big_bytes (show F < 256 ^ 16 from hF)] at e
  unfold streamAt encL blockB
  rw [e, show (16 * k + j) / 16 = k by omega, show (16 * k + j) % 16 = j by omega, Nat.add_comm 1 k]

set_option maxHeartbeats 8000000 in
theorem masked_any (p n : Nat) (key : ByteArray) (a b c d : Nat) (t : ByteArray) (w : World) (hn : n = 4 ∨ n = 8) (hK : Key p n key w) (lc : c < 2 ^ 64) (ld : d < 2 ^ 64) (ht : t.size ≤ 1073741824) :
    Calls Try.prog 55 #[.agg #[.pointer (some ⟨p, 0, none⟩), .int .u64 (a : Nat), .int .u64 (b : Nat), .int .u64 (c : Nat), .int .u64 (d : Nat)], .string t] w fun e w' => e = .returned (.string (toB (turnL (encL n key) (bytes 16 (whole c d)) (nums t)))) ∧ Below w.heap.size w w' := by
  obtain ⟨F, hF⟩ : ∃ F, F = whole c d := ⟨_, rfl⟩
  have hFl : F < 2 ^ 128 := by rw [hF]; exact whole_lt lc ld
  obtain ⟨N, hN⟩ : ∃ N, N = t.size := ⟨_, rfl⟩
  obtain ⟨nb, hnb⟩ : ∃ nb, nb = blocksOf N := ⟨_, rfl⟩
  have hnb2 : 16 * nb < N + 16 ∧ N ≤ 16 * nb := by rw [hnb]; unfold blocksOf; omega
  obtain ⟨orig, horig⟩ : ∃ orig : Nat → Nat, orig = fun j => (nums t).getD j 0 := ⟨_, rfl⟩
  obtain ⟨strm, hstrm⟩ : ∃ strm : Nat → Nat, strm = fun j => orig j ^^^ streamAt (encL n key) (bytes 16 F) j := ⟨_, rfl⟩
  have hend : ∀ i, N ≤ i → blend strm orig N i = turnL (encL n key) (bytes 16 F) (nums t) := fun i hi => by
    rw [blend_all _ _ hi, turnL_eq (encL_ok n key) (bytes_length 16 F) (bytes_lt 16 F), nums_length, ← hN, hstrm, horig]
  have hstart : blend strm orig N 0 = nums t := by
    have := blend_start (nums t) strm
    rw [nums_length, ← hN] at this
    rw [horig]; exact this
  rw [← hF]
  have hp := hK.lt
  have hlk := Lk.start w p n key a b c d hK
  obtain ⟨cap, W, hcv, hrow⟩ := bytes_row t (w.alloc (.cells #[.pointer (some ⟨p, 0, none⟩), .int .u64 (a : Nat), .int .u64 (b : Nat), .int .u64 (c : Nat), .int .u64 (d : Nat)] 84))
  have hlk2 := hlk.next hrow.below
  have hgB := hrow.lt
  have hrow2 : Rw w (w.heap.size + 1) (nums t) W := by
    have := hrow
    rw [alloc_size] at this
    exact ⟨this.cell, this.frozen, by omega, this.lt, hlk2.below⟩
  rw [alloc_size] at hcv hgB
  obtain ⟨gC, hgC⟩ : ∃ gC, gC = W.heap.size := ⟨_, rfl⟩
  have hmk : Mk w p n key a b c d (w.heap.size + 1) gC (blend strm orig N 0) c d (W.alloc (.cells #[.int .u64 (c : Nat), .int .u64 (d : Nat)] 82)) :=
    ⟨hlk2.next (below_alloc (Below.refl _ _) _), by rw [hstart]; exact hrow2.next (below_alloc (Below.refl _ _) _), by rw [hgC]; exact heap_alloc_new W _, by omega, by omega, by omega⟩
  obtain ⟨f1, f2, f3, f4, f5⟩ := hlk2.hL.cells
  have HM := Lib.hid hmk
  have HEND := Lib.hid hend
  have HFF := Lib.hid (And.intro hFl (And.intro hF (And.intro lc (And.intro ld (And.intro hp hn)))))
  have HST := Lib.hid (And.intro hstrm horig)
  have HN := Lib.hid (And.intro hN (And.intro hnb2 ht))
  have hgC' := hgC.symm
  rw [← hN] at hcv
  clear hlk hlk2 hrow hrow2 hmk hend hstart hK lc ld hFl hF hN hnb hnb2 hstrm horig ht hp hgC hn hgB
  go_enter Try.func55, Try.ntmps55
  go_wp2
  clear hcv f1 f2 f3 f4 f5
  go_loopw [7] (fun i wr => ∃ k c1 c0 : Nat, k ≤ nb ∧ i = .int .i64 ((16 * k : Nat) : Int) ∧ Mk w p n key a b c d (w.heap.size + 1) gC (blend strm orig N (16 * k)) c1 c0 wr ∧ c1 < 2 ^ 64 ∧ c0 < 2 ^ 64 ∧ whole c1 c0 = countN F k) (fun i _ => N + 16 - (intOf i).toNat)
  case atStart => exact ⟨0, c, d, Nat.zero_le _, rfl, HM.out, HFF.out.2.2.1, HFF.out.2.2.2.1, by rw [countN_zero, HFF.out.2.1]⟩
  case round =>
    obtain ⟨k, c1, c0, hk, rfl, hS, lc1, lc0, ec⟩ := hrel
    by_cases hlt : k < nb
    · obtain ⟨o, ho⟩ : ∃ o, o = 16 * k := ⟨_, rfl⟩
      rw [← ho]
      obtain ⟨r, hr⟩ : ∃ r, r = N - o := ⟨_, rfl⟩
      obtain ⟨m, hm⟩ : ∃ m, m = min 16 r := ⟨_, rfl⟩
      obtain ⟨o2, ho2⟩ : ∃ o2, o2 = 16 * (k + 1) := ⟨_, rfl⟩
      have hNN := HN.out
      have g1 : (o : Int) < (N : Int) := by omega
      have q1 : (N : Int) - (o : Int) = (r : Int) := by omega
      have q2 : (if (r : Int) < 16 then (r : Int) else 16) = (m : Int) := by split <;> omega
      have hrl : r ≤ 1073741824 := by omega
      have q3 : (o : Int) + 16 = (o2 : Int) := by omega
      have hom : o + m ≤ N ∧ m ≤ 16 ∧ (o + m = o2 ∨ o + m = N) ∧ o = 16 * k ∧ o2 = 16 * (k + 1) ∧ k < nb ∧ o < N := by omega
      have HOM := Lib.hid hom
      rw [← ho] at hS
      obtain ⟨f1, f2, f3⟩ := hS.cells
      obtain ⟨s1, s2, s3, s4⟩ := hS.cnt.asks
      have HQ := Lib.hid hS
      have HX := Lib.hid (And.intro lc1 (And.intro lc0 ec))
      clear hS lc1 lc0 ec ho ho2 hm hr hNN hom
      go_wp2_with fail
      refine (next_any c1 c0 _ HX.out.1 HX.out.2.1).mono ?_
      rintro e w2 ⟨e1, e0, le1, le0, ee, rfl, hb2⟩
      have HQ2 := Lib.hid (HQ.out.next hb2)
      have HE := Lib.hid (And.intro le1 (And.intro le0 (show whole e1 e0 = countN F (k + 1) by rw [ee, HX.out.2.2, countN_next])))
      clear hb2 le1 le0 ee s1 s2 s3 s4
      obtain ⟨s1, s2, s3, s4⟩ := HQ2.out.cnt.asks
      have HQ3 := Lib.hid (HQ2.out.count HFF.out.2.2.2.2.1 e1 e0)
      go_wp2
      clear s1 s2 s3 s4 f1 f2 f3
      have HQ4 : Hid (Mk w p n key a b c d (w.heap.size + 1) gC (blend strm orig N o) e1 e0 ((w2.setCell ⟨gC, 0, none⟩ (.int .u64 (e1 : Nat))).setCell ⟨gC, 1, none⟩ (.int .u64 (e0 : Nat)))) := HQ3
      clear HQ3
      generalize (w2.setCell ⟨gC, 0, none⟩ (.int .u64 (e1 : Nat))).setCell ⟨gC, 1, none⟩ (.int .u64 (e0 : Nat)) = wy at *
      obtain ⟨B, hB⟩ : ∃ B, B = blockB (whole e1 e0) := ⟨_, rfl⟩
      obtain ⟨M, hM⟩ : ∃ M, M = doneB n key B := ⟨_, rfl⟩
      have C1 := Lib.hid (fun X => text_blk e1 e0 X HE.out.1 HE.out.2.1)
      rw [← hB] at C1
      have C2 := Lib.hid (fun X (h : Key p n key X) => do_key p n key B X HFF.out.2.2.2.2.2 (by rw [hB]; exact blockB_size _) h)
      rw [← hM] at C2
      have hMs : M.size = 16 := by rw [hM]; exact doneB_size _ _ _
      have HM2 := Lib.hid (And.intro hB.symm hM.symm)
      have hMx : ∀ j < 16, orig (o + j) ^^^ (nums M).getD j 0 = strm (o + j) := fun j hj => by
        have e := stream_block n key F k j HFF.out.1 hj
        rw [← HE.out.2.2, HM2.out.1, HM2.out.2, ← HOM.out.2.2.2.1] at e
        rw [HST.out.1]
        show _ = orig (o + j) ^^^ _
        rw [← e]
      have HMX := Lib.hid (And.intro hMx hMs)
      clear hB hM hMx
      go_region_held3 (fun X => X.cell? ⟨w.heap.size, 0, none⟩ = some (.pointer (some ⟨p, 0, none⟩)) ∧ X.cell? ⟨gC, 0, none⟩ = some (.int .u64 (e1 : Nat)) ∧ X.cell? ⟨gC, 1, none⟩ = some (.int .u64 (e0 : Nat))) (first | (with_reducible exact HQ4.out.drew.cells) | (with_reducible exact HQ5.out.cells) | (with_reducible exact HQ6.out.cells)) (first
        | (go_at_call 65; with_reducible refine (C1.out _).mono ?_; rintro e w5 ⟨rfl, hb5⟩; have HQ5 := Lib.hid (HQ4.out.drew.next hb5); clear hb5)
        | (go_at_call 67; with_reducible refine (C2.out _ HQ5.out.lk.hK).mono ?_; rintro e w6 ⟨rfl, hb6⟩; have HQ6 := Lib.hid (HQ5.out.next hb6); clear hb6))
      clear C1 C2 HQ4 HQ5
      go_wp2
      clear q1 q2 hrl
      have hmb : m ≤ 16 := HOM.out.2.1
      have hob : o ≤ 1073741824 := by have := HOM.out.2.2.2.2.2.2; have := HN.out.2.2; have := HN.out.1; omega
      go_loopw [32] (fun i wr => ∃ j : Nat, j ≤ m ∧ i = .int .i64 (j : Nat) ∧ Mk w p n key a b c d (w.heap.size + 1) gC (blend strm orig N (o + j)) e1 e0 wr) (fun i _ => m - (intOf i).toNat)
      case atStart => exact ⟨0, Nat.zero_le _, rfl, HQ6.out⟩
      case round =>
        obtain ⟨j, hj, rfl, hS⟩ := hrel
        by_cases hjt : j < m
        · obtain ⟨v, hv⟩ : ∃ v, v = o + j := ⟨_, rfl⟩
          rw [← hv] at hS
          have hvN : v < N := by have := HOM.out.1; omega
          have hjM : j < M.size := by have := HMX.out.2; omega
          obtain ⟨x, hx⟩ : ∃ x, x = orig v := ⟨_, rfl⟩
          obtain ⟨y, hy⟩ : ∃ y, y = M[j].toNat := ⟨_, rfl⟩
          obtain ⟨z, hz⟩ : ∃ z, z = strm v := ⟨_, rfl⟩
          have hxl : x < 256 := by rw [hx, HST.out.2]; exact Small.get (nums_lt t) v
          have hyl : y < 256 := by rw [hy]; exact UInt8.toNat_lt _
          have hxy : x ^^^ y = z := by
            have e := HMX.out.1 j (by omega)
            rw [← hv, List.getD_eq_getElem?_getD, nums_get M j hjM, Option.getD_some, ← hx, ← hy, ← hz] at e
            exact e
          have cx := hS.row.cell v x (by rw [blend_get _ _ hvN, if_neg (Nat.lt_irrefl _), hx])
          have fx := hS.row.frozen v (by rw [blend_length]; exact hvN)
          have hst := hS.set HFF.out.2.2.2.2.1 (j := v) (by rw [blend_length]; exact hvN) z
          rw [hz, blend_next, ← hz, show v + 1 = o + (j + 1) by omega] at hst
          have q1 := u8_xor_nat x y hxl hyl
          rw [hxy] at q1
          have q2 : (o : Int) + (j : Int) = (v : Int) := by omega
          have q3 : (v : Int) < (N : Int) := by omega
          have q4 : (j : Int) < (m : Int) := by omega
          have q5 : (j : Int) < (M.size : Int) := by omega
          have q6 : (M[j].toNat : Int) = (y : Int) := by rw [hy]
          have q7 : v ≤ 1073741824 := by have := HN.out.1; have := HN.out.2.2; omega
          have HST2 := Lib.hid hst
          clear hst hS hv hx hy hz hxl hyl hxy HM HX HMX HEND
          go_wp2
          go_region
          go_wp2
          go_roundw
          case rel => exact ⟨j + 1, by omega, by go_num, HST2.out.drew⟩
          case measure => simp [intOf]; omega
        · obtain rfl : j = m := by omega
          have hrow : blend strm orig N (o + j) = blend strm orig N (16 * (k + 1)) := by
            have h := HOM.out
            rcases h.2.2.1 with e | e
            · rw [e, ← h.2.2.2.2.1]
            · rw [blend_all _ _ (Nat.le_of_eq e.symm), blend_all _ _ (by omega)]
          rw [hrow] at hS
          have HQ7 := Lib.hid hS
          clear hS hrow HQ6 HM HMX HEND
          go_wp2
          go_roundw
          case rel => exact ⟨k + 1, e1, e0, by have := HOM.out.2.2.2.2.2.1; omega, by rw [HOM.out.2.2.2.2.1], HQ7.out, HE.out.1, HE.out.2.1, HE.out.2.2⟩
          case measure => have h := HOM.out; simp [intOf]; omega
    · obtain rfl : k = nb := by omega
      obtain ⟨o, ho⟩ : ∃ o, o = 16 * k := ⟨_, rfl⟩
      rw [← ho] at hS ⊢
      have hNN := HN.out
      have g1 : ¬ (o : Int) < (N : Int) := by omega
      rw [HEND.out o (by omega)] at hS
      have hlen : (turnL (encL n key) (bytes 16 F) (nums t)).length = N := by rw [turnL_length (encL_ok n key) (bytes_length 16 F) (bytes_lt 16 F), nums_length, hNN.1]
      have hbk := hS.row.back (turnL_small (encL_ok n key) (bytes_length 16 F) (bytes_lt 16 F) (nums_lt t)) N cap hlen
      have HB := Lib.hid hS.row.below
      clear hS hNN ho hlen
      go_wp2
      go_ret
      exact ⟨rfl, HB.out⟩

end Gcm
end Go.Proofs.Ytedoggejbhbebaa
