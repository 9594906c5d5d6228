/-
  The walk of TableTexts. Conditions: none beyond how its arguments lie in memory.
-/
import Derived.Test.YtelgglnamojegaaTwo
import Derived.Test.YtelgglnamojegaaTextsB
import Derived.Deep.RegionHeld3
import Derived.Deep.DeepCutAuto
import Derived.Deep.QuietTactic
import Derived.BigQuiet
namespace Go.Proofs.Ytelgglnamojegaa
open Go.ChangeShapes Go.WideShapes Go.ChangeAt Go.RowKit
set_option linter.unusedVariables false

/-- The first names differ from each other. -/
def Apart (nm : Nat → ByteArray) (a : Nat) : Prop := ∀ x y, y < x → x < a → nm x ≠ nm y
/-- A name differs from the first ones. -/
def Alone (nm : Nat → ByteArray) (a c : Nat) : Prop := ∀ y, y < c → nm a ≠ nm y

theorem apart_zero (nm : Nat → ByteArray) : Apart nm 0 := fun x y _ h => absurd h (by omega)
theorem alone_zero (nm : Nat → ByteArray) (a : Nat) : Alone nm a 0 := fun y h => absurd h (by omega)
theorem Alone.step {nm : Nat → ByteArray} {a c : Nat} (h : Alone nm a c) (hne : nm a ≠ nm c) : Alone nm a (c + 1) := by
  intro y hy
  rcases Nat.lt_or_ge y c with h' | h'
  · exact h y h'
  · have : y = c := by omega
    subst this
    exact hne
theorem Apart.step {nm : Nat → ByteArray} {a : Nat} (h : Apart nm a) (hl : Alone nm a a) : Apart nm (a + 1) := by
  intro x y hy hx
  rcases Nat.lt_or_ge x a with h' | h'
  · exact h x y hy h'
  · have : x = a := by omega
    subst this
    exact hl y hy
theorem Apart.differ {nm : Nat → ByteArray} {n : Nat} (h : Apart nm n) : Differ n nm := by
  intro i j hi hj he
  rcases Nat.lt_trichotomy i j with h' | h' | h'
  · exact absurd he.symm (h j i h' hj)
  · exact h'
  · exact absurd he (h i j h' hi)

theorem Names.cell {w wr : World} {b off n : Nat} {nm : Nat → ByteArray} (h : Names w (some ⟨b, off, none⟩) n nm) (hb : Below w.heap.size w wr) {i : Nat} (hi : i < n) : wr.cell? ⟨b, off + i, none⟩ = some (.string (nm i)) := by
  obtain ⟨b', off', e, hl, hc⟩ := h.at_ i hi
  cases e
  exact (hb.cell (p := ⟨b, off + i, none⟩) hl).trans hc

theorem key_of (z : Int) (n : Nat) (h0 : 0 < n) (hn : n ≤ 20) : ∃ kk : Nat, kk < n ∧ (wrap64 (z.tmod n + n)).tmod n = (kk : Int) := by
  have h1 : z.tmod n < n := Int.tmod_lt_of_pos _ (by omega)
  have h2 : -(n : Int) < z.tmod n := Int.lt_tmod_of_pos _ (by omega)
  have hw : wrap64 (z.tmod n + n) = z.tmod n + n := by unfold wrap64; omega
  rw [hw, Int.tmod_eq_emod_of_nonneg (by omega)]
  have h3 := Int.emod_nonneg (z.tmod n + n) (b := (n : Int)) (by omega)
  have h4 := Int.emod_lt_of_pos (z.tmod n + n) (b := (n : Int)) (by omega)
  exact ⟨((z.tmod n + n) % n).toNat, by omega, by omega⟩

set_option maxHeartbeats 4000000 in
set_option maxRecDepth 100000 in
theorem texts_walk (m : Nat) (hm : m < 256) (A : Option Addr) (len cap : Nat) (K : Nat → Nat) (N : Nat → Int) (S : Nat → ByteArray) (B : Option Addr) (n ncap : Nat) (nm : Nat → ByteArray) (w : World)
    (hops : Calls3 w A len K N S) (hN : ∀ i, i < len → -9223372036854775808 ≤ N i ∧ N i ≤ 9223372036854775807) (hnames : Names w B n nm) (h60 : len ≤ 60) (hn0 : 0 < n) (hn20 : n ≤ 20) :
    Calls Try.prog 4 #[.int .u8 m, .slice A len cap, .slice B n ncap] w fun e w' => e = .returned (.bool true) ∧ Below w.heap.size w w' := by
  have HOPS := Lib.hid hops; clear hops
  have HNN := Lib.hid hN; clear hN
  obtain ⟨bn, offn, rfl, hbn, _⟩ := hnames.at_ 0 hn0
  have HNM := Lib.hid hnames; clear hnames
  have g1 : decide ((60 : Int) < (len : Int)) = false := by simp; omega
  have g2 : ((n : Int) == 0) = false := by simp; omega
  have g3 : decide ((20 : Int) < (n : Int)) = false := by simp; omega
  go_enter Try.func4, Try.ntmps4
  go_wp2_with fail
  refine (awake_any _).mono ?_
  rintro e w1 ⟨rfl, hb1⟩
  have HB1 := Lib.hid hb1; clear hb1
  go_wp2
  go_loopw [7] (fun i wr => ∃ a : Nat, a ≤ n ∧ i = .int .i64 a ∧ Apart nm a ∧ Below w.heap.size w wr) (fun i _ => n - (intOf i).toNat)
  case atStart => exact ⟨0, Nat.zero_le _, rfl, apart_zero nm, HB1.out⟩
  case round =>
    obtain ⟨a, ha, rfl, hap, hbw⟩ := hrel
    have HAP := Lib.hid hap; clear hap
    by_cases han : a < n
    · have haz : (a : Int) < (n : Int) := by omega
      have HBW := Lib.hid hbw; clear hbw
      go_wp2
      go_loopw [8] (fun k wq => ∃ c : Nat, c ≤ a ∧ k = .int .i64 c ∧ Alone nm a c ∧ Below w.heap.size w wq) (fun k _ => a - (intOf k).toNat)
      case atStart => exact ⟨0, Nat.zero_le _, rfl, alone_zero nm a, HBW.out⟩
      case round =>
        obtain ⟨c, hc, rfl, hal, hbq⟩ := hrel
        have HAL := Lib.hid hal; clear hal
        by_cases hca : c < a
        · have hcz : (c : Int) < (a : Int) := by omega
          have hcn : (c : Int) < (n : Int) := by omega
          have c1 := HNM.out.cell hbq han
          have c2 := HNM.out.cell hbq (show c < n by omega)
          have HBQ := Lib.hid hbq; clear hbq
          by_cases he : nm a = nm c
          · have e1 : ((nm a).toList == (nm c).toList) = true := by rw [he]; simp
            have HE := Lib.hid he; clear he
            go_wp2_with fail
            go_quiet (fail)
            go_wp2
            go_ret
            exact ⟨rfl, below_drewN' HBQ.out _⟩
          · have e1 : ((nm a).toList == (nm c).toList) = false := by
              rw [beq_eq_false_iff_ne]
              intro h
              exact he (text_inj h)
            have HE := Lib.hid he; clear he
            go_wp2_with fail
            go_quiet (fail)
            go_wp2
            go_roundw
            case rel => exact ⟨c + 1, by omega, by go_num, HAL.out.step HE.out, below_drewN' HBQ.out _⟩
            case measure => simp [intOf]; omega
        · have hcz : ¬ (c : Int) < (a : Int) := by omega
          have hca' : c = a := by omega
          have hst := HAP.out.step (by rw [← hca']; rw [hca'] at HAL ⊢; exact HAL.out)
          have HST := Lib.hid hst; clear hst
          have HBQ := Lib.hid hbq; clear hbq
          clear hca'
          go_wp2
          go_roundw
          case rel => exact ⟨a + 1, by omega, by go_num, HST.out, HBQ.out⟩
          case measure => simp [intOf]; omega
    · rename World => wz
      have haz : ¬ (a : Int) < (n : Int) := by omega
      have hdf : Differ n nm := by
        have : a = n := by omega
        rw [this] at HAP
        exact HAP.out.differ
      have HD := Lib.hid hdf; clear hdf
      have HBW := Lib.hid hbw; clear hbw HAP
      go_wp2_with fail
      refine (Ib.new_any m _ (by omega)).mono ?_
      rintro e w2 ⟨rfl, t1, hb2⟩
      have HT1 := Lib.hid t1; clear t1
      have HB2 := Lib.hid hb2; clear hb2
      go_wp2_with fail
      refine (Ic.new_any m _ (by omega)).mono ?_
      rintro e w3 ⟨rfl, t2, hb3⟩
      have htwo := Two.start HBW.out HT1.out HB2.out t2 hb3
      rw [Int.toNat_natCast] at htwo
      have HTW := Lib.hid htwo; clear htwo hb3 t2
      go_wp2
      go_loopw [11] (fun i wx => ∃ (j : Nat) (ea : List (Int × Int)) (v1 v2 : Value), j ≤ len ∧ i = .int .i64 j ∧ ea.length ≤ j ∧ InR n ea ∧ Two w wx wz.heap.size w2.heap.size v1 v2 m ea (img nm ea)) (fun i _ => len - (intOf i).toNat)
      case atStart => exact ⟨0, [], _, _, Nat.zero_le _, rfl, Nat.zero_le _, (fun i e he => by simp at he), HTW.out⟩
      case round =>
        obtain ⟨j, ea, v1, v2, hj, rfl, hlen, hin, htw⟩ := hrel
        have HIN := Lib.hid hin; clear hin
        by_cases hlt : j < len
        · obtain ⟨b0, off, rfl, hbo, hc0, hc1, hc2, hK⟩ := HOPS.out.at_ j hlt
          have hjz : (j : Int) < (len : Int) := by omega
          have l0 := (htw.below.cell (p := ⟨b0, off + j * 3, none⟩) hbo).trans hc0
          have l1 := (htw.below.cell (p := ⟨b0, off + j * 3 + 1, none⟩) hbo).trans hc1
          obtain ⟨hz1, hz2⟩ := HNN.out j hlt
          clear hc0 hc1 hc2
          have HTW2 := Lib.hid htw; clear htw
          obtain ⟨kk, hkn, hkk⟩ := key_of (N j) n hn0 hn20
          have hknz : (kk : Int) < (n : Int) := by omega
          by_cases hk : (K j : Int) % 4 = 2
          · obtain ⟨t, ea', hin', hlen', hA, hB⟩ := drop_both (m := m) HD.out HIN.out kk hkn
            have HA := Lib.hid hA; clear hA
            have HB := Lib.hid hB; clear hB
            have HIN2 := Lib.hid hin'; clear hin'
            have HLN2 := Lib.hid hlen'; clear hlen'
            have htt : (t != t) = false := by simp
            go_wp2_with fail
            go_upto_region 18 with (fail)
            clear hk hkk l0 l1
            have cn := HNM.out.cell HTW2.out.below hkn
            go_cut [100] (fun s100 wc => s100 = .bool false ∧ ∃ v1' v2', Two w wc wz.heap.size w2.heap.size v1' v2' m ea' (img nm ea'))
            case first =>
              go_region_held3 (fun Z => Z.cell? ⟨bn, offn + kk, none⟩ = some (.string (nm kk)))
                (first | exact HNM.out.cell htB.below hkn | exact HNM.out.cell htA.below hkn | exact HNM.out.cell HTW2.out.below hkn | exact HNM.out.cell HTW2.out.drew.below hkn)
                (first
                  | (go_at_call 14; with_reducible refine (HA.out _ _ _ HTW2.out.drew.ta).mono ?_; rintro e wA ⟨rfl, ha⟩; obtain ⟨vA, htA⟩ := HTW2.out.drew.first ha; clear ha)
                  | (go_at_call 15; with_reducible refine (HB.out _ _ _ htA.tb).mono ?_; rintro e wB ⟨rfl, ha⟩; obtain ⟨vB, htB⟩ := htA.second ha; clear ha))
              all_goals (go_wp2_with fail; go_meet)
              all_goals exact ⟨rfl, _, _, htB⟩
            case rest =>
              obtain ⟨rfl, v1', v2', htw'⟩ := hcut
              have HTW3 := Lib.hid htw'; clear htw' cn
              go_wp2
              go_roundw
              case rel => exact ⟨j + 1, ea', v1', v2', by omega, by go_num, by have := HLN2.out; omega, HIN2.out, HTW3.out⟩
              case measure => simp [intOf]; omega
          · have hk2 : ((K j : Int) % 4 == 2) = false := by simpa using hk
            clear hk
            obtain ⟨x, y, t, ea', hin', hlen', htell, hA, hB⟩ := push_both (m := m) HD.out HIN.out HTW2.out.ta.few (by omega) kk hkn (j : Int)
            have HA := Lib.hid hA; clear hA
            have HB := Lib.hid hB; clear hB
            have HIN2 := Lib.hid hin'; clear hin'
            have HLN2 := Lib.hid hlen'; clear hlen'
            rcases htell with ⟨rfl, rfl, rfl⟩ | ⟨rfl, q, hqn, rfl, rfl⟩
            · go_wp2_with fail
              refine (HA.out _ _ _ HTW2.out.ta).mono ?_
              rintro e wA ⟨rfl, ha⟩
              obtain ⟨vA, htA⟩ := HTW2.out.first ha
              have cn := HNM.out.cell htA.below hkn
              have HTA := Lib.hid htA; clear htA ha hkk l0 l1
              go_wp2_with fail
              refine (HB.out _ _ _ HTA.out.tb).mono ?_
              rintro e wB ⟨rfl, ha⟩
              obtain ⟨vB, htB⟩ := HTA.out.second ha
              have HTB := Lib.hid htB; clear htB ha cn
              go_wp2
              go_roundw
              case rel => exact ⟨j + 1, ea', vA, vB, by omega, by go_num, by have := HLN2.out; omega, HIN2.out, HTB.out⟩
              case measure => simp [intOf]; omega
            · have hq0 : decide ((q : Int) < 0) = false := by simp
              have hq1 : decide ((n : Int) ≤ (q : Int)) = false := by simp; omega
              have hq2 : decide (n ≤ q) = false := by simp; omega
              have hqz : (q : Int) < (n : Int) := by omega
              have hqq : ((nm q).toList != (nm q).toList) = false := by simp
              go_wp2_with fail
              refine (HA.out _ _ _ HTW2.out.ta).mono ?_
              rintro e wA ⟨rfl, ha⟩
              obtain ⟨vA, htA⟩ := HTW2.out.first ha
              have cn := HNM.out.cell htA.below hkn
              have HTA := Lib.hid htA; clear htA ha hkk l0 l1
              go_wp2_with fail
              refine (HB.out _ _ _ HTA.out.tb).mono ?_
              rintro e wB ⟨rfl, ha⟩
              obtain ⟨vB, htB⟩ := HTA.out.second ha
              have cq := HNM.out.cell htB.below hqn
              have HTB := Lib.hid htB; clear htB ha cn
              go_wp2
              go_roundw
              case rel => exact ⟨j + 1, ea', vA, vB, by omega, by go_num, by have := HLN2.out; omega, HIN2.out, HTB.out⟩
              case measure => simp [intOf]; omega
        · have hjz : ¬ (j : Int) < (len : Int) := by omega
          have hk1 := Ib.keys_any _ _ _ _ _ htw.ta (by omega)
          have HK1 := Lib.hid hk1; clear hk1
          have HTW2 := Lib.hid htw; clear htw
          go_wp2_with fail
          refine HK1.out.mono ?_
          rintro e w5 ⟨gp, capp, rfl, hgp, hrow1, hb5⟩
          have ht5 := HTW2.out.next hb5
          have hk2 := Ic.keys_any _ _ _ _ _ ht5.tb (by rw [img_length]; omega)
          have HK2 := Lib.hid hk2; clear hk2
          have HROW1 := Lib.hid hrow1; clear hrow1
          have HT5 := Lib.hid ht5; clear ht5 hb5
          go_wp2_with fail
          refine HK2.out.mono ?_
          rintro e w6 ⟨gq, capq, rfl, hgq, hrow2, hb6⟩
          rw [img_length] at hrow2 ⊢
          have HROW2 := Lib.hid hrow2; clear hrow2
          have HB6 := Lib.hid hb6; clear hb6
          have hlI : ((ea.length : Int) != (ea.length : Int)) = false := by simp
          generalize hQ : ea.length = p at *
          have HQ := Lib.hid hQ; clear hQ
          go_wp2
          go_loopw [19] (fun i wq => ∃ q : Nat, q ≤ p ∧ i = .int .i64 q ∧ Below w6.heap.size w6 wq) (fun i _ => p - (intOf i).toNat)
          case atStart => exact ⟨0, Nat.zero_le _, rfl, Below.refl _ _⟩
          case round =>
            obtain ⟨q, hq, rfl, hbq⟩ := hrel
            by_cases hqp : q < p
            · have hqz : (q : Int) < (p : Int) := by omega
              obtain ⟨⟨x, y⟩, he⟩ : ∃ e, ea[q]? = some e := ⟨_, List.getElem?_eq_getElem (by rw [HQ.out]; exact hqp)⟩
              obtain ⟨hx0, hx1⟩ := HIN.out q _ he
              obtain ⟨xx, rfl⟩ := Int.eq_ofNat_of_zero_le hx0
              have hxn : xx < n := by dsimp only at hx1; omega
              obtain ⟨g1', e1', hg1, cp⟩ := row_at HROW1.out (HB6.out.trans (hbq.mono HB6.out.size)) q (.int .i64 xx) (by simp [he])
              cases e1'
              obtain ⟨g2', e2', hg2, cq⟩ := row_at HROW2.out hbq q (.string (nm xx)) (by simp [img, he])
              cases e2'
              have cn := HNM.out.cell ((HT5.out.next HB6.out).below.trans (hbq.mono (HT5.out.next HB6.out).below.size)) hxn
              have hq0 : decide ((xx : Int) < 0) = false := by simp
              have hq1 : decide ((n : Int) ≤ (xx : Int)) = false := by simp; omega
              have hq2 : decide (n ≤ xx) = false := by simp; omega
              have hxz : (xx : Int) < (n : Int) := by omega
              have hqq : ((nm xx).toList != (nm xx).toList) = false := by simp
              have HBQ := Lib.hid hbq; clear hbq he hx0 hx1
              go_wp2_with fail
              go_quiet (fail)
              go_wp2
              go_roundw
              case rel => exact ⟨q + 1, by omega, by go_num, below_drewN' HBQ.out _⟩
              case measure => simp [intOf]; omega
            · have hqz : ¬ (q : Int) < (p : Int) := by omega
              go_wp2
              go_ret
              exact ⟨rfl, (HT5.out.next HB6.out).below.trans (hbq.mono (HT5.out.next HB6.out).below.size)⟩

end Go.Proofs.Ytelgglnamojegaa
