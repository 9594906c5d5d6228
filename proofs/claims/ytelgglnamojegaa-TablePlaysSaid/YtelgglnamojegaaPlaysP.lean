/-
  The walk of TablePlays, at a capacity that is not negative. Conditions: none beyond how its arguments lie in memory.
-/
import Derived.Test.YtelgglnamojegaaPlay
import Derived.Deep.QuietTactic
import Derived.BigQuiet
namespace Go.Proofs.Ytelgglnamojegaa
open Go.ChangeShapes Go.WideShapes Go.ChangeAt Go.RowKit
set_option linter.unusedVariables false

set_option maxHeartbeats 4000000 in
set_option maxRecDepth 100000 in
theorem plays_pos (M : Nat) (hm : (M : Int) ≤ 9223372036854775807) (A : Option Addr) (len cap : Nat) (K : Nat → Nat) (N : Nat → Int) (S : Nat → ByteArray) (w : World) (hops : Calls3 w A len K N S) (h100 : len ≤ 100) :
    Calls Try.prog 3 #[.int .i64 (M : Int), .slice A len cap] w fun e w' => e = .returned (.bool true) ∧ Below w.heap.size w w' := by
  have HOPS := Lib.hid hops; clear hops
  have g2 : decide ((100 : Int) < (len : Int)) = false := by simp; omega
  have hMt : (M : Int).toNat = M := by omega
  have HM := Lib.hid hMt; clear hMt
  go_enter Try.func3, Try.ntmps3
  go_wp2_with fail
  refine (awake_any _).mono ?_
  rintro e w1 ⟨rfl, hb1⟩
  have HB1 := Lib.hid hb1; clear hb1
  go_wp2_with fail
  refine (Ia.new_any (M : Int) w1 (by omega)).mono ?_
  rintro e w2 ⟨rfl, ht, hb2⟩
  rw [HM.out] at ht
  have HT2 := Lib.hid ht; clear ht
  have HB2 := Lib.hid hb2; clear hb2
  go_wp2
  go_loopw [7] (fun i wr => ∃ j es v vk vv, j ≤ len ∧ i = .int .i64 (j : Nat) ∧ es.length ≤ j ∧ Once es ∧ Play w wr w1.heap.size w2.heap.size v vk vv M es es) (fun i _ => len - (intOf i).toNat)
  case atStart => exact ⟨0, [], _, _, _, Nat.zero_le _, rfl, Nat.zero_le _, once_nil, Play.start HB1.out HB2.out HT2.out rfl⟩
  case round =>
    obtain ⟨j, es, v, vk, vv, hj, rfl, hes, honce, hpl⟩ := hrel
    obtain ⟨Ak, capk, rfl, hfk⟩ := own_form hpl.ref.rk
    obtain ⟨Av, capv, rfl, hfv⟩ := own_form hpl.ref.rv
    clear hfk hfv
    have HON := Lib.hid honce; clear honce
    by_cases hlt : j < len
    · obtain ⟨b0, off, rfl, hbo, hc0, hc1, hc2, hK⟩ := HOPS.out.at_ j hlt
      have hjz : (j : Int) < (len : Int) := by omega
      obtain ⟨s, x, tb, fs, hst⟩ := step_total M es (N j) (S j) (K j % 4) (by omega) hpl.tab.few
      have hfs := hst.few
      have hcall := call_any (K j) (N j) (S j) s x tb hpl.drew.tab hst (by omega)
      have hact := fun (X : World) (v' : Value) (hp : Play w X w1.heap.size w2.heap.size v' (.slice Ak es.length capk) (.slice Av es.length capv) M fs es) => do_any (K j) (N j) (S j) s x tb hp.ref hst (by omega)
      unfold toldV at hcall hact
      have hsx : ∀ Z, Below w.heap.size w Z → Z.cell? ⟨b0, off + j * 3, none⟩ = some (.int .u8 (K j)) ∧ Z.cell? ⟨b0, off + j * 3 + 1, none⟩ = some (.int .i64 (N j)) ∧ Z.cell? ⟨b0, off + j * 3 + 2, none⟩ = some (.string (S j)) := fun Z hb => ⟨(hb.cell (p := ⟨b0, off + j * 3, none⟩) hbo).trans hc0, (hb.cell (p := ⟨b0, off + j * 3 + 1, none⟩) hbo).trans hc1, (hb.cell (p := ⟨b0, off + j * 3 + 2, none⟩) hbo).trans hc2⟩
      obtain ⟨l0, l1, l2⟩ := hsx wr hpl.below
      have HSX := Lib.hid hsx; clear hsx
      have HCALL := Lib.hid hcall; clear hcall
      have HACT := Lib.hid hact; clear hact
      have HPL := Lib.hid hpl; clear hpl
      have HON2 := Lib.hid (hst.once HON.out); clear hst hc0 hc1 hc2
      have HES := Lib.hid hes; clear hes
      have HFS := Lib.hid hfs; clear hfs
      go_wp2_with fail
      go_upto_region 8 with (fail)
      go_cut [61] (fun s61 wc => s61 = .bool false ∧ ∃ v1 vk1 vv1, Play w wc w1.heap.size w2.heap.size v1 vk1 vv1 M fs fs)
      case first =>
        go_region_with
          (first
            | (go_at_call 7; with_reducible refine HCALL.out.mono ?_; rintro e wA ⟨rfl, ha⟩; obtain ⟨vA, hpA⟩ := HPL.out.drew.call ha; clear ha; obtain ⟨lA0, lA1, lA2⟩ := HSX.out _ hpA.below)
            | (go_at_call 8; with_reducible refine (HACT.out _ _ hpA).mono ?_; rintro e wB ⟨rfl, ha⟩; obtain ⟨vkB, vvB, hpB⟩ := hpA.act ha; clear ha; obtain ⟨AB, capB, rfl, _⟩ := own_form hpB.ref.rk; have cB := hpB.ref.cell0; have fB := hpB.tab.few; have gB : decide ((M : Int) < (fs.length : Int)) = false := (by simp; omega); have gB2 : decide (M < fs.length) = false := (by simp; omega); have HLN := Lib.hid (Ia.len_any _ _ _ _ _ hpB.tab))
            | (go_at_call 9; with_reducible refine HLN.out.mono ?_; rintro e w' ⟨rfl, rfl⟩))
        all_goals (go_wp2_with fail; go_meet)
        all_goals exact ⟨rfl, _, _, _, hpB⟩
      case rest =>
        obtain ⟨rfl, v1, vk1, vv1, hp1⟩ := hcut
        have HP1 := Lib.hid hp1; clear hp1 l0 l1 l2
        go_wp2
        go_roundw
        case rel => exact ⟨j + 1, fs, v1, vk1, vv1, by omega, by go_num, by have := HES.out; have := HFS.out; omega, HON2.out, HP1.out⟩
        case measure => simp [intOf]; omega
    · have hjz : ¬ (j : Int) < (len : Int) := by omega
      have hn : es.length ≤ 100 := by omega
      have hkeys := Ia.keys_any _ _ _ _ _ hpl.tab (by omega)
      have HKY := Lib.hid hkeys; clear hkeys
      have HPL := Lib.hid hpl; clear hpl
      have hll := Lib.hid (rfl : es.length = es.length)
      generalize hN : es.length = n at *
      have HN := Lib.hid hN; clear hN hll
      clear hes
      go_wp2_with fail
      refine HKY.out.mono ?_
      rintro e w3 ⟨g, capg, rfl, hgl, hrow, hb3⟩
      rw [HN.out] at hrow ⊢
      have hp3 := HPL.out.next hb3
      have c0 := hp3.ref.cell0
      have HP3 := Lib.hid hp3; clear hp3
      have HROW := Lib.hid hrow; clear hrow
      have HB3 := Lib.hid hb3; clear hb3
      have hnn : ((n : Int) != (n : Int)) = false := by simp
      go_wp2
      go_loopw [9] (fun i wq => ∃ q : Nat, q ≤ n ∧ i = .int .i64 q ∧ Below w3.heap.size w3 wq) (fun i _ => n - (intOf i).toNat)
      case atStart => exact ⟨0, Nat.zero_le _, rfl, Below.refl _ _⟩
      case round =>
        obtain ⟨q, hq, rfl, hbq⟩ := hrel
        clear c0
        by_cases hqn : q < n
        · have hqz : (q : Int) < (n : Int) := by omega
          obtain ⟨⟨x, y⟩, he⟩ : ∃ e, es[q]? = some e := ⟨_, List.getElem?_eq_getElem (by rw [HN.out]; exact hqn)⟩
          have hpq := HP3.out.next hbq
          have hget := Ia.get_hit _ _ _ _ _ _ _ _ hpq.tab (HON.out.hit he) he
          obtain ⟨g', e', hgq, ckey⟩ := (row_at HROW.out hbq q (.int .i64 x) (by simp [he]))
          cases e'
          have HG := Lib.hid hget; clear hget
          have HPQ := Lib.hid hpq; clear hpq
          have HE := Lib.hid he; clear he
          have HBQ := Lib.hid hbq; clear hbq
          go_wp2_with fail
          refine HG.out.mono ?_
          rintro e w4 ⟨rfl, hb4⟩
          have hbq4 := HBQ.out.trans (hb4.mono HBQ.out.size)
          have hp4 := HP3.out.next hbq4
          have c0 := hp4.ref.cell0
          have c1 := hp4.ref.cell1
          obtain ⟨gk, hA, hgk, ck⟩ := hp4.ref.kcell HE.out
          obtain ⟨gv, hB, hgv, cv⟩ := hp4.ref.vcell HE.out
          obtain ⟨g', e', hgq4, ckey4⟩ := (row_at HROW.out hbq4 q (.int .i64 x) (by simp [HE.out]))
          cases e'
          subst hA hB
          have x1 : (x != x) = false := by simp
          have x2 : (y.toList != y.toList) = false := by simp
          have HB4 := Lib.hid hbq4; clear hbq4 hb4 hp4 ckey
          go_wp2_with fail
          go_quiet (fail)
          go_wp2
          go_roundw
          case rel => exact ⟨q + 1, by omega, by go_num, below_drewN' HB4.out _⟩
          case measure => simp [intOf]; omega
        · have hqz : ¬ (q : Int) < (n : Int) := by omega
          go_wp2
          go_ret
          exact ⟨rfl, HP3.out.below.trans (hbq.mono HP3.out.below.size)⟩

end Go.Proofs.Ytelgglnamojegaa
