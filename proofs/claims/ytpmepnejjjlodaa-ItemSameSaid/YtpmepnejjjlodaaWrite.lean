/-
  Contracts of the functions that write heads.
-/
import Derived.Test.YtpmepnejjjlodaaRows
import Derived.Test.YtpmepnejjjlodaaMath
import Derived.WalkKit
import Derived.ProofKit
import Derived.OpenShut
import Derived.WalkSpells
import Derived.WalkLawsBesides
import Derived.Outline
import Derived.Lib.Hide
namespace Go.Proofs.Ytpmepnejjjlodaa
open Go.ChangeShapes Go.WideShapes Go.ChangeAt Go.RowKit
open Plain

theorem Try.infoByte : (Try.prog.info? 5).map (fun i => (i.zero, i.size, i.bytes)) = some (some (.int .u8 0), 1, 1) := by kernel_rfl

/-- A row of bytes that the call owns is turned into the string of these bytes. -/
theorem back {w : World} {base : Nat} {v : Value} {l : List UInt8} (h : w.ownsRow base 5 1 v l.length (cellsOf l)) (hl : 0 < l.length) :
    ∃ g cap, v = .slice (some ⟨g, 0, none⟩) l.length cap ∧ (convert 47 9 (.slice (some ⟨g, 0, none⟩) l.length cap)).run Try.prog w = .ok (.string ⟨l.toArray⟩) w := by
  obtain ⟨g, cap, hv⟩ : ∃ g cap, v = .slice (some ⟨g, 0, none⟩) l.length cap := by
    rcases h.2 with ⟨_, h0⟩ | ⟨g, cap, _, hv, _⟩
    · omega
    · exact ⟨g, cap, hv⟩
  subst hv
  refine ⟨g, cap, rfl, run_convert_bytes_back w 47 9 5 _ cap l Try.underlying47 Try.underlying5 Try.underlying9 fun j hj => ?_⟩
  exact h.cells (g := g) rfl j _ (by simp [cellsOf, hj])

theorem first_cell (m low : Int) (h0 : 0 ≤ m) (h7 : m ≤ 7) (l0 : 0 ≤ low) (l31 : low ≤ 31) : Value.int .u8 (m * 32 + low) = .int .u8 ((first m.toNat low.toNat).toNat : Int) := by
  have : (first m.toNat low.toNat).toNat = 32 * m.toNat + low.toNat := by
    unfold first
    rw [UInt8.toNat_ofNat']
    exact Nat.mod_eq_of_lt (by omega)
  rw [this]
  congr 1
  omega

theorem first_zero (low : Int) (l0 : 0 ≤ low) (l31 : low ≤ 31) : Value.int .u8 low = .int .u8 ((first 0 low.toNat).toNat : Int) := by
  have := first_cell 0 low (by omega) (by omega) l0 l31
  simpa using this

set_option maxHeartbeats 1000000 in
/-- cbor.spell: a first byte, and the lowest bytes of n, big-endian. -/
theorem spell_any (m low : Int) (n size : Nat) (w : World) (l0 : 0 ≤ low) (l31 : low ≤ 31) (_hn : n < 18446744073709551616) (hs : size ≤ 8) :
    Calls Try.prog 52 #[.int .i64 m, .int .i64 low, .int .u64 n, .int .i64 size] w fun e w' =>
      e = .returned (.string ⟨(first (typeOf m) low.toNat :: be n size).toArray⟩) ∧ Below w.heap.size w w' := by
  obtain ⟨i0, hi, hz0, hz1, hz2⟩ := info_parts Try.infoByte
  rcases (show m < 0 ∨ 7 < m ∨ (0 ≤ m ∧ m ≤ 7) from by omega) with hlo | hhi | ⟨h0, h7⟩
  · have ht : typeOf m = 0 := by unfold typeOf; rw [if_pos (by omega)]
    rw [ht]; clear ht
    have g1 : decide (m < 0) = true := by simp; omega
    go_enter Try.func52, Try.ntmps52
    go_wp2
    go_loopw [9, 24] (fun v i wr => ∃ k : Nat, k ≤ size ∧ i = .int .i64 k ∧ wr.ownsRow w.heap.size 5 1 v (k + 1) (cellsOf (first 0 low.toNat :: be (n / 256 ^ (size - k)) k)) ∧ Below w.heap.size w wr) (fun _ i _ => size - (intOf i).toNat)
    case atStart =>
      refine ⟨0, Nat.zero_le _, rfl, ?_, (Below.refl _ _).alloc (Nat.le_refl _) _⟩
      rw [first_zero low l0 l31]
      exact World.ownsRow_lit (base := w.heap.size) (e := 5) (size := 1) w #[_] 1 (Nat.le_refl _) (by unfold maxLen; omega) rfl
    case round =>
      obtain ⟨k, hk, rfl, hown, hb⟩ := hrel
      by_cases hlt : k < size
      · go_wp2_with (at_builtin; refine wpList_append_own _ rfl _ _ 47 rfl w.heap.size 5 i0 (.int .u8 0) 1 1 Try.underlying47 hi hz0 hz1 hz2 rfl (by decide) _ _ _ rfl (hown.alloc _) ⟨wr.heap.size, 0, none⟩ 1 1 [Value.int .u8 ((n : Int) / 2 ^ (8 * (size - 1 - k)) % 256)] rfl rfl ?c1a ?c2a ?c3a ?c4a ?c5a ?_)
        case c1a => exact cell_one_new _ _ _
        case c2a => intro u hu; simp at hu; subst hu; rfl
        case c3a => unfold maxLen; omega
        case c4a => omega
        case c5a => have := hb.size; simp; omega
        intro v' w1 hown' hgrow _
        rw [cells_step _ _ _ _ hlt] at hown'
        have hb1 : Below w.heap.size w w1 := (hb.alloc hb.size _).grown hgrow (by have := hb.size; simp; omega) (fun g hg => (hown.lt g hg).1)
        clear hgrow hown
        go_wp2
        go_roundw
        case rel => exact ⟨k + 1, by omega, by go_num, hown', hb1⟩
        case measure => simp [intOf]; omega
      · obtain rfl : k = size := by omega
        have hl : (first 0 low.toNat :: be n k).length = k + 1 := by simp [be_length]
        simp only [Nat.sub_self, Nat.pow_zero, Nat.div_one] at hown
        rw [← hl] at hown
        obtain ⟨g, cap, hv, hc⟩ := back hown (by simp)
        rw [hv]
        rw [hl] at hc ⊢
        go_wp2
        go_ret
        exact ⟨rfl, hb⟩
  · have ht : typeOf m = 0 := by unfold typeOf; rw [if_pos (by omega)]
    rw [ht]; clear ht
    have g1 : decide (m < 0) = false := by simp; omega
    have g2 : decide (7 < m) = true := by simp; omega
    go_enter Try.func52, Try.ntmps52
    go_wp2
    go_loopw [9, 24] (fun v i wr => ∃ k : Nat, k ≤ size ∧ i = .int .i64 k ∧ wr.ownsRow w.heap.size 5 1 v (k + 1) (cellsOf (first 0 low.toNat :: be (n / 256 ^ (size - k)) k)) ∧ Below w.heap.size w wr) (fun _ i _ => size - (intOf i).toNat)
    case atStart =>
      refine ⟨0, Nat.zero_le _, rfl, ?_, (Below.refl _ _).alloc (Nat.le_refl _) _⟩
      rw [first_zero low l0 l31]
      exact World.ownsRow_lit (base := w.heap.size) (e := 5) (size := 1) w #[_] 1 (Nat.le_refl _) (by unfold maxLen; omega) rfl
    case round =>
      obtain ⟨k, hk, rfl, hown, hb⟩ := hrel
      by_cases hlt : k < size
      · go_wp2_with (at_builtin; refine wpList_append_own _ rfl _ _ 47 rfl w.heap.size 5 i0 (.int .u8 0) 1 1 Try.underlying47 hi hz0 hz1 hz2 rfl (by decide) _ _ _ rfl (hown.alloc _) ⟨wr.heap.size, 0, none⟩ 1 1 [Value.int .u8 ((n : Int) / 2 ^ (8 * (size - 1 - k)) % 256)] rfl rfl ?c1b ?c2b ?c3b ?c4b ?c5b ?_)
        case c1b => exact cell_one_new _ _ _
        case c2b => intro u hu; simp at hu; subst hu; rfl
        case c3b => unfold maxLen; omega
        case c4b => omega
        case c5b => have := hb.size; simp; omega
        intro v' w1 hown' hgrow _
        rw [cells_step _ _ _ _ hlt] at hown'
        have hb1 : Below w.heap.size w w1 := (hb.alloc hb.size _).grown hgrow (by have := hb.size; simp; omega) (fun g hg => (hown.lt g hg).1)
        clear hgrow hown
        go_wp2
        go_roundw
        case rel => exact ⟨k + 1, by omega, by go_num, hown', hb1⟩
        case measure => simp [intOf]; omega
      · obtain rfl : k = size := by omega
        have hl : (first 0 low.toNat :: be n k).length = k + 1 := by simp [be_length]
        simp only [Nat.sub_self, Nat.pow_zero, Nat.div_one] at hown
        rw [← hl] at hown
        obtain ⟨g, cap, hv, hc⟩ := back hown (by simp)
        rw [hv]
        rw [hl] at hc ⊢
        go_wp2
        go_ret
        exact ⟨rfl, hb⟩
  · have ht : typeOf m = m.toNat := by unfold typeOf; rw [if_neg (by omega)]
    rw [ht]; clear ht
    have g1 : decide (m < 0) = false := by simp; omega
    have g2 : decide (7 < m) = false := by simp; omega
    go_enter Try.func52, Try.ntmps52
    go_wp2
    go_loopw [9, 24] (fun v i wr => ∃ k : Nat, k ≤ size ∧ i = .int .i64 k ∧ wr.ownsRow w.heap.size 5 1 v (k + 1) (cellsOf (first m.toNat low.toNat :: be (n / 256 ^ (size - k)) k)) ∧ Below w.heap.size w wr) (fun _ i _ => size - (intOf i).toNat)
    case atStart =>
      refine ⟨0, Nat.zero_le _, rfl, ?_, (Below.refl _ _).alloc (Nat.le_refl _) _⟩
      rw [first_cell m low h0 h7 l0 l31]
      exact World.ownsRow_lit (base := w.heap.size) (e := 5) (size := 1) w #[_] 1 (Nat.le_refl _) (by unfold maxLen; omega) rfl
    case round =>
      obtain ⟨k, hk, rfl, hown, hb⟩ := hrel
      by_cases hlt : k < size
      · go_wp2_with (at_builtin; refine wpList_append_own _ rfl _ _ 47 rfl w.heap.size 5 i0 (.int .u8 0) 1 1 Try.underlying47 hi hz0 hz1 hz2 rfl (by decide) _ _ _ rfl (hown.alloc _) ⟨wr.heap.size, 0, none⟩ 1 1 [Value.int .u8 ((n : Int) / 2 ^ (8 * (size - 1 - k)) % 256)] rfl rfl ?c1c ?c2c ?c3c ?c4c ?c5c ?_)
        case c1c => exact cell_one_new _ _ _
        case c2c => intro u hu; simp at hu; subst hu; rfl
        case c3c => unfold maxLen; omega
        case c4c => omega
        case c5c => have := hb.size; simp; omega
        intro v' w1 hown' hgrow _
        rw [cells_step _ _ _ _ hlt] at hown'
        have hb1 : Below w.heap.size w w1 := (hb.alloc hb.size _).grown hgrow (by have := hb.size; simp; omega) (fun g hg => (hown.lt g hg).1)
        clear hgrow hown
        go_wp2
        go_roundw
        case rel => exact ⟨k + 1, by omega, by go_num, hown', hb1⟩
        case measure => simp [intOf]; omega
      · obtain rfl : k = size := by omega
        have hl : (first m.toNat low.toNat :: be n k).length = k + 1 := by simp [be_length]
        simp only [Nat.sub_self, Nat.pow_zero, Nat.div_one] at hown
        rw [← hl] at hown
        obtain ⟨g, cap, hv, hc⟩ := back hown (by simp)
        rw [hv]
        rw [hl] at hc ⊢
        go_wp2
        go_ret
        exact ⟨rfl, hb⟩
end Go.Proofs.Ytpmepnejjjlodaa
