/-
  Joined: Sg. Conditions: as each part says.
-/
import Derived.Test.YtedoggejbhbebaaJ19
import Derived.Test.YtedoggejbhbebaaJ20

/-
  Contract of sha.spell. Conditions: none.
-/
namespace Go.Proofs.Ytedoggejbhbebaa
namespace Dg
open Go.ChangeShapes Go.WideShapes Go.ChangeAt Go.RowKit Go.Great Go.ChangeMaps
open Sha
set_option linter.unusedVariables false
set_option maxRecDepth 100000

/-- Bytes as cells. -/
def bCells (l : List Nat) : List Value := l.map fun (n : Nat) => Value.int .u8 (n : Int)
theorem bCells_snoc (l : List Nat) (c : Nat) : bCells l ++ [Value.int .u8 (c : Int)] = bCells (l ++ [c]) := by simp [bCells]
theorem bCells_length (l : List Nat) : (bCells l).length = l.length := by simp [bCells]

/-- A slice of bytes of the function's own. -/
structure Own (w : World) (v : Value) (l : List Nat) (X : World) : Prop where
  row : X.ownsRow w.heap.size 5 1 v l.length (bCells l)
  below : Below w.heap.size w X

theorem cell_one_new (w : World) (v : Value) (t : TypeId) : ∀ j u, [v][j]? = some u → (w.alloc (.cells #[v] t)).cell? ((⟨w.heap.size, 0, none⟩ : Addr).add j) = some u := by
  intro j u h
  match j with
  | 0 => simp at h; subst h; rw [show (⟨w.heap.size, 0, none⟩ : Addr).add 0 = ⟨w.heap.size, 0, none⟩ from rfl, cell_of_row _ _ _ _ _ _ (heap_alloc_new w _)]; rfl
  | j + 1 => simp at h

theorem Own.back {w X : World} {v : Value} {l : List Nat} (h : Own w v l X) (h0 : 0 < l.length) (hl : ∀ c ∈ l, c < 256) :
    ∃ g cap, v = .slice (some ⟨g, 0, none⟩) l.length cap ∧ (convert 97 9 v).run Try.prog X = .ok (.string (toB l)) X := by
  obtain ⟨hx, h1 | ⟨g, cap, cur, hv, -, hc, hle, -, hs, ht⟩⟩ := h.row
  · omega
  refine ⟨g, cap, hv, ?_⟩
  rw [hv]
  have e : l.length = (l.map UInt8.ofNat).length := by rw [List.length_map]
  have hrow := h.row
  rw [hv] at hrow
  rw [e]
  refine run_convert_bytes_back X 97 9 5 _ cap (l.map UInt8.ofNat) Try.underlying97 Try.underlying5 Try.underlying9 fun j hj => ?_
  have hj' : j < l.length := by rw [List.length_map] at hj; exact hj
  rw [hrow.cells (g := g) rfl j (.int .u8 ((l[j] : Nat) : Int)) (by simp [bCells, hj'])]
  have hc := hl l[j] (List.getElem_mem hj')
  simp [Nat.mod_eq_of_lt hc]

theorem spelled_lt (w : Nat) (l : List Nat) : ∀ c ∈ spelled w l, c < 256 := by
  intro c hc
  unfold spelled at hc
  obtain ⟨x, -, hx⟩ := List.mem_flatMap.1 hc
  revert hx
  generalize w / 8 = k
  induction k with
  | zero => intro hx; simp [beBytes] at hx
  | succ k ih =>
    intro hx
    rcases List.mem_cons.1 hx with rfl | hx
    · exact Nat.mod_lt _ (by decide)
    · exact ih hx

theorem spelled_snoc (w : Nat) (l : List Nat) (x : Nat) : spelled w (l ++ [x]) = spelled w l ++ beBytes x (w / 8) := by simp [spelled]

theorem idx8_32 (s : St) (j : Nat) (hj : j < 8) : ∃ x, s.list[j]? = some x ∧ ∀ X, (Instr.index 131 (.agg (valsK .u32 s.list)) (.int .i64 (j : Int))).run Try.prog X = .ok (.int .u32 (x : Nat)) X := by
  match j, hj with
  | 0, _ => exact ⟨_, rfl, fun _ => by kernel_rfl⟩
  | 1, _ => exact ⟨_, rfl, fun _ => by kernel_rfl⟩
  | 2, _ => exact ⟨_, rfl, fun _ => by kernel_rfl⟩
  | 3, _ => exact ⟨_, rfl, fun _ => by kernel_rfl⟩
  | 4, _ => exact ⟨_, rfl, fun _ => by kernel_rfl⟩
  | 5, _ => exact ⟨_, rfl, fun _ => by kernel_rfl⟩
  | 6, _ => exact ⟨_, rfl, fun _ => by kernel_rfl⟩
  | 7, _ => exact ⟨_, rfl, fun _ => by kernel_rfl⟩

set_option maxHeartbeats 2000000 in
theorem spell_32 (s : St) (w : World) :
    Calls Try.prog 89 #[.agg (valsK .u32 s.list), .int .i64 4] w fun e w' => e = .returned (.string (toB (spelled 32 s.list))) ∧ Below w.heap.size w w' := by
  obtain ⟨i0, hi, hz0, hz1, hz2⟩ := info_parts infoByte
  have HIX := Lib.hid (idx8_32 s)
  go_enter Try.func89, Try.ntmps89
  go_wp2_with (at_make; refine wpList_make_own _ rfl _ _ 97 rfl w.heap.size 5 i0 (.int .u8 0) 1 Try.underlying97 hi hz0 hz1 _ _ _ 32 rfl rfl rfl (by rw [hz2]; omega) (by unfold maxLen; omega) (by simp) ?_; intro w2 hown hgrow; have hb2 : Below (w.alloc (.cells (valsK .u32 s.list) 131)).heap.size (w.alloc (.cells (valsK .u32 s.list) 131)) w2 := (Below.refl _ _).grown hgrow (Nat.le_refl _) (fun k hk => by cases hk); have hrow : Wd .u32 131 w.heap.size s.list w2 := keepBlock (heap_alloc_new w _) hb2; have hO : Own w (.slice (some ⟨(w.alloc (.cells (valsK .u32 s.list) 131)).heap.size, 0, none⟩) 0 32) [] w2 := ⟨hown, below_link ((Below.refl _ _).alloc (Nat.le_refl _) _) hb2⟩; rw [alloc_size] at hO; have HO := Lib.hid hO; have c0 := hrow.cell (j := 0) (x := s.a) rfl; have c1 := hrow.cell (j := 1) (x := s.b) rfl; have c2 := hrow.cell (j := 2) (x := s.c) rfl; have c3 := hrow.cell (j := 3) (x := s.d) rfl; have c4 := hrow.cell (j := 4) (x := s.e) rfl; have c5 := hrow.cell (j := 5) (x := s.f) rfl; have c6 := hrow.cell (j := 6) (x := s.g) rfl; have c7 := hrow.cell (j := 7) (x := s.h) rfl; clear hown hgrow hb2 hrow hO)
  clear c0 c1 c2 c3 c4 c5 c6 c7
  go_loopw [5, 13] (fun v x wr => ∃ j : Nat, j ≤ 8 ∧ x = .int .i64 (j : Nat) ∧ Own w v (spelled 32 (s.list.take j)) wr) (fun _ x _ => 8 - (intOf x).toNat)
  case atStart => exact ⟨0, Nat.zero_le _, rfl, HO.out⟩
  case round =>
    obtain ⟨j, hj, rfl, hO⟩ := hrel
    by_cases hlt : j < 8
    · have g8 : decide ((j : Int) < 8) = true := by simp; omega
      obtain ⟨x, hx, ix⟩ := HIX.out j hlt
      have ix' : ∀ X, (Instr.index 131 (.agg #[.int .u32 (s.a : Nat), .int .u32 (s.b : Nat), .int .u32 (s.c : Nat), .int .u32 (s.d : Nat), .int .u32 (s.e : Nat), .int .u32 (s.f : Nat), .int .u32 (s.g : Nat), .int .u32 (s.h : Nat)]) (.int .i64 (j : Int))).run Try.prog X = .ok (.int .u32 (x : Nat)) X := ix
      have HO2 := Lib.hid hO
      have hnx : spelled 32 (s.list.take (j + 1)) = spelled 32 (s.list.take j) ++ beBytes x 4 := by
        have hjl : j < s.list.length := hlt
        rw [List.take_succ_eq_append_getElem hjl, spelled_snoc, (List.getElem?_eq_some_iff.1 hx).2]
      obtain ⟨L, hL⟩ : ∃ L, L = spelled 32 (s.list.take j) := ⟨_, rfl⟩
      have hlen : L.length ≤ 64 := by rw [hL, spelled_length, List.length_take]; have : s.list.length = 8 := rfl; omega
      rw [← hL] at hnx HO2
      have HNX := Lib.hid hnx; clear hnx hL hO hx ix
      go_wp2
      go_loopw [5, 8] (fun v y wr => ∃ k : Nat, k ≤ 4 ∧ y = .int .i64 ((k : Int) - 1) ∧ Own w v (L ++ (beBytes x 4).take (4 - k)) wr) (fun _ y _ => (intOf y + 1).toNat)
      case atStart => exact ⟨4, Nat.le_refl _, rfl, by rw [Nat.sub_self, List.take_zero, List.append_nil]; exact HO2.out⟩
      case round =>
        obtain ⟨k, hk, rfl, hO⟩ := hrel
        match k, hk with
        | 0, _ =>
          have HO3 := Lib.hid hO; clear hO
          go_wp2
          go_roundw
          case rel => exact ⟨j + 1, by omega, by go_num, by rw [HNX.out]; exact HO3.out⟩
          case measure => simp [intOf]; omega
        | 1, _ =>
              obtain ⟨d, hd⟩ : ∃ d, d = x / 256 ^ 0 % 256 := ⟨_, rfl⟩
              have y1 : IntKind.u8.wrap ((x : Int)) = (d : Int) := by rw [IntKind.wrap_u8, hd]; omega
              have y2 : (x : Int) % 256 = (d : Int) := by rw [hd]; omega
              have hl2 : (L ++ (beBytes x 4).take (4 - 1)) ++ [d] = L ++ (beBytes x 4).take (4 - 0) := by rw [hd, List.append_assoc]; rfl
              obtain ⟨M, hM⟩ : ∃ M, M = L ++ (beBytes x 4).take (4 - 1) := ⟨_, rfl⟩
              have hMl : M.length ≤ 80 := by rw [hM, List.length_append, List.length_take]; omega
              rw [← hM] at hl2 hO
              have HL2 := Lib.hid hl2; clear hl2 hM hd
              obtain ⟨hown, hb⟩ := hO
              go_wp2_with (at_builtin; refine wpList_append_own _ rfl _ _ 97 rfl w.heap.size 5 i0 (.int .u8 0) 1 1 Try.underlying97 hi hz0 hz1 hz2 rfl (by decide) _ _ _ rfl (hown.alloc _) ⟨wr.heap.size, 0, none⟩ 1 1 [Value.int .u8 (d : Int)] rfl rfl ?c1 ?c2 ?c3 ?c4 ?c5 ?_)
              case c1 => exact cell_one_new _ _ _
              case c2 => intro u hu; simp at hu; subst hu; rfl
              case c3 => unfold maxLen; omega
              case c4 => omega
              case c5 => have := hb.size; simp; omega
              intro v' w3 hown' hgrow _
              rw [bCells_snoc] at hown'
              have hb1 : Below w.heap.size w w3 := (hb.alloc hb.size _).grown hgrow (by have := hb.size; simp; omega) (fun g hg => (hown.lt g hg).1)
              have HO3 := Lib.hid (show Own w v' (M ++ [d]) w3 from ⟨by rw [List.length_append]; exact hown', hb1⟩)
              clear hgrow hown hown' hb hb1
              go_wp2
              go_roundw
              case rel => first | exact ⟨0, by omega, rfl, by rw [← HL2.out]; exact HO3.out⟩ | (refine ⟨_, _, _, _, _, _, _, _, _, _, _, _, _, _, ?_, rfl⟩; exact ⟨0, by omega, rfl, by rw [← HL2.out]; exact HO3.out⟩)
              case measure => simp [intOf]
            | 2, _ =>
              obtain ⟨d, hd⟩ : ∃ d, d = x / 256 ^ 1 % 256 := ⟨_, rfl⟩
              have y1 : IntKind.u8.wrap ((x : Int) / 256) = (d : Int) := by rw [IntKind.wrap_u8, hd]; omega
              have y2 : (x : Int) / 256 % 256 = (d : Int) := by rw [hd]; omega
              have hl2 : (L ++ (beBytes x 4).take (4 - 2)) ++ [d] = L ++ (beBytes x 4).take (4 - 1) := by rw [hd, List.append_assoc]; rfl
              obtain ⟨M, hM⟩ : ∃ M, M = L ++ (beBytes x 4).take (4 - 2) := ⟨_, rfl⟩
              have hMl : M.length ≤ 80 := by rw [hM, List.length_append, List.length_take]; omega
              rw [← hM] at hl2 hO
              have HL2 := Lib.hid hl2; clear hl2 hM hd
              obtain ⟨hown, hb⟩ := hO
              go_wp2_with (at_builtin; refine wpList_append_own _ rfl _ _ 97 rfl w.heap.size 5 i0 (.int .u8 0) 1 1 Try.underlying97 hi hz0 hz1 hz2 rfl (by decide) _ _ _ rfl (hown.alloc _) ⟨wr.heap.size, 0, none⟩ 1 1 [Value.int .u8 (d : Int)] rfl rfl ?c1 ?c2 ?c3 ?c4 ?c5 ?_)
              case c1 => exact cell_one_new _ _ _
              case c2 => intro u hu; simp at hu; subst hu; rfl
              case c3 => unfold maxLen; omega
              case c4 => omega
              case c5 => have := hb.size; simp; omega
              intro v' w3 hown' hgrow _
              rw [bCells_snoc] at hown'
              have hb1 : Below w.heap.size w w3 := (hb.alloc hb.size _).grown hgrow (by have := hb.size; simp; omega) (fun g hg => (hown.lt g hg).1)
              have HO3 := Lib.hid (show Own w v' (M ++ [d]) w3 from ⟨by rw [List.length_append]; exact hown', hb1⟩)
              clear hgrow hown hown' hb hb1
              go_wp2
              go_roundw
              case rel => first | exact ⟨1, by omega, rfl, by rw [← HL2.out]; exact HO3.out⟩ | (refine ⟨_, _, _, _, _, _, _, _, _, _, _, _, _, _, ?_, rfl⟩; exact ⟨1, by omega, rfl, by rw [← HL2.out]; exact HO3.out⟩)
              case measure => simp [intOf]
            | 3, _ =>
              obtain ⟨d, hd⟩ : ∃ d, d = x / 256 ^ 2 % 256 := ⟨_, rfl⟩
              have y1 : IntKind.u8.wrap ((x : Int) / 65536) = (d : Int) := by rw [IntKind.wrap_u8, hd]; omega
              have y2 : (x : Int) / 65536 % 256 = (d : Int) := by rw [hd]; omega
              have hl2 : (L ++ (beBytes x 4).take (4 - 3)) ++ [d] = L ++ (beBytes x 4).take (4 - 2) := by rw [hd, List.append_assoc]; rfl
              obtain ⟨M, hM⟩ : ∃ M, M = L ++ (beBytes x 4).take (4 - 3) := ⟨_, rfl⟩
              have hMl : M.length ≤ 80 := by rw [hM, List.length_append, List.length_take]; omega
              rw [← hM] at hl2 hO
              have HL2 := Lib.hid hl2; clear hl2 hM hd
              obtain ⟨hown, hb⟩ := hO
              go_wp2_with (at_builtin; refine wpList_append_own _ rfl _ _ 97 rfl w.heap.size 5 i0 (.int .u8 0) 1 1 Try.underlying97 hi hz0 hz1 hz2 rfl (by decide) _ _ _ rfl (hown.alloc _) ⟨wr.heap.size, 0, none⟩ 1 1 [Value.int .u8 (d : Int)] rfl rfl ?c1 ?c2 ?c3 ?c4 ?c5 ?_)
              case c1 => exact cell_one_new _ _ _
              case c2 => intro u hu; simp at hu; subst hu; rfl
              case c3 => unfold maxLen; omega
              case c4 => omega
              case c5 => have := hb.size; simp; omega
              intro v' w3 hown' hgrow _
              rw [bCells_snoc] at hown'
              have hb1 : Below w.heap.size w w3 := (hb.alloc hb.size _).grown hgrow (by have := hb.size; simp; omega) (fun g hg => (hown.lt g hg).1)
              have HO3 := Lib.hid (show Own w v' (M ++ [d]) w3 from ⟨by rw [List.length_append]; exact hown', hb1⟩)
              clear hgrow hown hown' hb hb1
              go_wp2
              go_roundw
              case rel => first | exact ⟨2, by omega, rfl, by rw [← HL2.out]; exact HO3.out⟩ | (refine ⟨_, _, _, _, _, _, _, _, _, _, _, _, _, _, ?_, rfl⟩; exact ⟨2, by omega, rfl, by rw [← HL2.out]; exact HO3.out⟩)
              case measure => simp [intOf]
            | 4, _ =>
              obtain ⟨d, hd⟩ : ∃ d, d = x / 256 ^ 3 % 256 := ⟨_, rfl⟩
              have y1 : IntKind.u8.wrap ((x : Int) / 16777216) = (d : Int) := by rw [IntKind.wrap_u8, hd]; omega
              have y2 : (x : Int) / 16777216 % 256 = (d : Int) := by rw [hd]; omega
              have hl2 : (L ++ (beBytes x 4).take (4 - 4)) ++ [d] = L ++ (beBytes x 4).take (4 - 3) := by rw [hd, List.append_assoc]; rfl
              obtain ⟨M, hM⟩ : ∃ M, M = L ++ (beBytes x 4).take (4 - 4) := ⟨_, rfl⟩
              have hMl : M.length ≤ 80 := by rw [hM, List.length_append, List.length_take]; omega
              rw [← hM] at hl2 hO
              have HL2 := Lib.hid hl2; clear hl2 hM hd
              obtain ⟨hown, hb⟩ := hO
              go_wp2_with (at_builtin; refine wpList_append_own _ rfl _ _ 97 rfl w.heap.size 5 i0 (.int .u8 0) 1 1 Try.underlying97 hi hz0 hz1 hz2 rfl (by decide) _ _ _ rfl (hown.alloc _) ⟨wr.heap.size, 0, none⟩ 1 1 [Value.int .u8 (d : Int)] rfl rfl ?c1 ?c2 ?c3 ?c4 ?c5 ?_)
              case c1 => exact cell_one_new _ _ _
              case c2 => intro u hu; simp at hu; subst hu; rfl
              case c3 => unfold maxLen; omega
              case c4 => omega
              case c5 => have := hb.size; simp; omega
              intro v' w3 hown' hgrow _
              rw [bCells_snoc] at hown'
              have hb1 : Below w.heap.size w w3 := (hb.alloc hb.size _).grown hgrow (by have := hb.size; simp; omega) (fun g hg => (hown.lt g hg).1)
              have HO3 := Lib.hid (show Own w v' (M ++ [d]) w3 from ⟨by rw [List.length_append]; exact hown', hb1⟩)
              clear hgrow hown hown' hb hb1
              go_wp2
              go_roundw
              case rel => first | exact ⟨3, by omega, rfl, by rw [← HL2.out]; exact HO3.out⟩ | (refine ⟨_, _, _, _, _, _, _, _, _, _, _, _, _, _, ?_, rfl⟩; exact ⟨3, by omega, rfl, by rw [← HL2.out]; exact HO3.out⟩)
              case measure => simp [intOf]
    
    · obtain rfl : j = 8 := by omega
      obtain ⟨g, cap, hv, hc⟩ := hO.back (by rw [spelled_length]; have : (s.list.take 8).length = 8 := rfl; rw [this]; decide) (spelled_lt _ _)
      subst hv
      have HB := Lib.hid hO.below; clear hO
      go_wp2
      go_ret
      exact ⟨rfl, HB.out⟩

theorem idx8_64 (s : St) (j : Nat) (hj : j < 8) : ∃ x, s.list[j]? = some x ∧ ∀ X, (Instr.index 136 (.agg (valsK .u64 s.list)) (.int .i64 (j : Int))).run Try.prog X = .ok (.int .u64 (x : Nat)) X := by
  match j, hj with
  | 0, _ => exact ⟨_, rfl, fun _ => by kernel_rfl⟩
  | 1, _ => exact ⟨_, rfl, fun _ => by kernel_rfl⟩
  | 2, _ => exact ⟨_, rfl, fun _ => by kernel_rfl⟩
  | 3, _ => exact ⟨_, rfl, fun _ => by kernel_rfl⟩
  | 4, _ => exact ⟨_, rfl, fun _ => by kernel_rfl⟩
  | 5, _ => exact ⟨_, rfl, fun _ => by kernel_rfl⟩
  | 6, _ => exact ⟨_, rfl, fun _ => by kernel_rfl⟩
  | 7, _ => exact ⟨_, rfl, fun _ => by kernel_rfl⟩

set_option maxHeartbeats 2000000 in
theorem spell_64 (s : St) (w : World) :
    Calls Try.prog 92 #[.agg (valsK .u64 s.list), .int .i64 8] w fun e w' => e = .returned (.string (toB (spelled 64 s.list))) ∧ Below w.heap.size w w' := by
  obtain ⟨i0, hi, hz0, hz1, hz2⟩ := info_parts infoByte
  have HIX := Lib.hid (idx8_64 s)
  go_enter Try.func92, Try.ntmps92
  go_wp2_with (at_make; refine wpList_make_own _ rfl _ _ 97 rfl w.heap.size 5 i0 (.int .u8 0) 1 Try.underlying97 hi hz0 hz1 _ _ _ 64 rfl rfl rfl (by rw [hz2]; omega) (by unfold maxLen; omega) (by simp) ?_; intro w2 hown hgrow; have hb2 : Below (w.alloc (.cells (valsK .u64 s.list) 136)).heap.size (w.alloc (.cells (valsK .u64 s.list) 136)) w2 := (Below.refl _ _).grown hgrow (Nat.le_refl _) (fun k hk => by cases hk); have hrow : Wd .u64 136 w.heap.size s.list w2 := keepBlock (heap_alloc_new w _) hb2; have hO : Own w (.slice (some ⟨(w.alloc (.cells (valsK .u64 s.list) 136)).heap.size, 0, none⟩) 0 64) [] w2 := ⟨hown, below_link ((Below.refl _ _).alloc (Nat.le_refl _) _) hb2⟩; rw [alloc_size] at hO; have HO := Lib.hid hO; have c0 := hrow.cell (j := 0) (x := s.a) rfl; have c1 := hrow.cell (j := 1) (x := s.b) rfl; have c2 := hrow.cell (j := 2) (x := s.c) rfl; have c3 := hrow.cell (j := 3) (x := s.d) rfl; have c4 := hrow.cell (j := 4) (x := s.e) rfl; have c5 := hrow.cell (j := 5) (x := s.f) rfl; have c6 := hrow.cell (j := 6) (x := s.g) rfl; have c7 := hrow.cell (j := 7) (x := s.h) rfl; clear hown hgrow hb2 hrow hO)
  clear c0 c1 c2 c3 c4 c5 c6 c7
  go_loopw [5, 13] (fun v x wr => ∃ j : Nat, j ≤ 8 ∧ x = .int .i64 (j : Nat) ∧ Own w v (spelled 64 (s.list.take j)) wr) (fun _ x _ => 8 - (intOf x).toNat)
  case atStart => exact ⟨0, Nat.zero_le _, rfl, HO.out⟩
  case round =>
    obtain ⟨j, hj, rfl, hO⟩ := hrel
    by_cases hlt : j < 8
    · have g8 : decide ((j : Int) < 8) = true := by simp; omega
      obtain ⟨x, hx, ix⟩ := HIX.out j hlt
      have ix' : ∀ X, (Instr.index 136 (.agg #[.int .u64 (s.a : Nat), .int .u64 (s.b : Nat), .int .u64 (s.c : Nat), .int .u64 (s.d : Nat), .int .u64 (s.e : Nat), .int .u64 (s.f : Nat), .int .u64 (s.g : Nat), .int .u64 (s.h : Nat)]) (.int .i64 (j : Int))).run Try.prog X = .ok (.int .u64 (x : Nat)) X := ix
      have HO2 := Lib.hid hO
      have hnx : spelled 64 (s.list.take (j + 1)) = spelled 64 (s.list.take j) ++ beBytes x 8 := by
        have hjl : j < s.list.length := hlt
        rw [List.take_succ_eq_append_getElem hjl, spelled_snoc, (List.getElem?_eq_some_iff.1 hx).2]
      obtain ⟨L, hL⟩ : ∃ L, L = spelled 64 (s.list.take j) := ⟨_, rfl⟩
      have hlen : L.length ≤ 64 := by rw [hL, spelled_length, List.length_take]; have : s.list.length = 8 := rfl; omega
      rw [← hL] at hnx HO2
      have HNX := Lib.hid hnx; clear hnx hL hO hx ix
      go_wp2
      go_loopw [5, 8] (fun v y wr => ∃ k : Nat, k ≤ 8 ∧ y = .int .i64 ((k : Int) - 1) ∧ Own w v (L ++ (beBytes x 8).take (8 - k)) wr) (fun _ y _ => (intOf y + 1).toNat)
      case atStart => exact ⟨8, Nat.le_refl _, rfl, by rw [Nat.sub_self, List.take_zero, List.append_nil]; exact HO2.out⟩
      case round =>
        obtain ⟨k, hk, rfl, hO⟩ := hrel
        match k, hk with
        | 0, _ =>
          have HO3 := Lib.hid hO; clear hO
          go_wp2
          go_roundw
          case rel => exact ⟨j + 1, by omega, by go_num, by rw [HNX.out]; exact HO3.out⟩
          case measure => simp [intOf]; omega
        | 1, _ =>
              obtain ⟨d, hd⟩ : ∃ d, d = x / 256 ^ 0 % 256 := ⟨_, rfl⟩
              have y1 : IntKind.u8.wrap ((x : Int)) = (d : Int) := by rw [IntKind.wrap_u8, hd]; omega
              have y2 : (x : Int) % 256 = (d : Int) := by rw [hd]; omega
              have hl2 : (L ++ (beBytes x 8).take (8 - 1)) ++ [d] = L ++ (beBytes x 8).take (8 - 0) := by rw [hd, List.append_assoc]; rfl
              obtain ⟨M, hM⟩ : ∃ M, M = L ++ (beBytes x 8).take (8 - 1) := ⟨_, rfl⟩
              have hMl : M.length ≤ 80 := by rw [hM, List.length_append, List.length_take]; omega
              rw [← hM] at hl2 hO
              have HL2 := Lib.hid hl2; clear hl2 hM hd
              obtain ⟨hown, hb⟩ := hO
              go_wp2_with (at_builtin; refine wpList_append_own _ rfl _ _ 97 rfl w.heap.size 5 i0 (.int .u8 0) 1 1 Try.underlying97 hi hz0 hz1 hz2 rfl (by decide) _ _ _ rfl (hown.alloc _) ⟨wr.heap.size, 0, none⟩ 1 1 [Value.int .u8 (d : Int)] rfl rfl ?c1 ?c2 ?c3 ?c4 ?c5 ?_)
              case c1 => exact cell_one_new _ _ _
              case c2 => intro u hu; simp at hu; subst hu; rfl
              case c3 => unfold maxLen; omega
              case c4 => omega
              case c5 => have := hb.size; simp; omega
              intro v' w3 hown' hgrow _
              rw [bCells_snoc] at hown'
              have hb1 : Below w.heap.size w w3 := (hb.alloc hb.size _).grown hgrow (by have := hb.size; simp; omega) (fun g hg => (hown.lt g hg).1)
              have HO3 := Lib.hid (show Own w v' (M ++ [d]) w3 from ⟨by rw [List.length_append]; exact hown', hb1⟩)
              clear hgrow hown hown' hb hb1
              go_wp2
              go_roundw
              case rel => first | exact ⟨0, by omega, rfl, by rw [← HL2.out]; exact HO3.out⟩ | (refine ⟨_, _, _, _, _, _, _, _, _, _, _, _, _, _, ?_, rfl⟩; exact ⟨0, by omega, rfl, by rw [← HL2.out]; exact HO3.out⟩)
              case measure => simp [intOf]
            | 2, _ =>
              obtain ⟨d, hd⟩ : ∃ d, d = x / 256 ^ 1 % 256 := ⟨_, rfl⟩
              have y1 : IntKind.u8.wrap ((x : Int) / 256) = (d : Int) := by rw [IntKind.wrap_u8, hd]; omega
              have y2 : (x : Int) / 256 % 256 = (d : Int) := by rw [hd]; omega
              have hl2 : (L ++ (beBytes x 8).take (8 - 2)) ++ [d] = L ++ (beBytes x 8).take (8 - 1) := by rw [hd, List.append_assoc]; rfl
              obtain ⟨M, hM⟩ : ∃ M, M = L ++ (beBytes x 8).take (8 - 2) := ⟨_, rfl⟩
              have hMl : M.length ≤ 80 := by rw [hM, List.length_append, List.length_take]; omega
              rw [← hM] at hl2 hO
              have HL2 := Lib.hid hl2; clear hl2 hM hd
              obtain ⟨hown, hb⟩ := hO
              go_wp2_with (at_builtin; refine wpList_append_own _ rfl _ _ 97 rfl w.heap.size 5 i0 (.int .u8 0) 1 1 Try.underlying97 hi hz0 hz1 hz2 rfl (by decide) _ _ _ rfl (hown.alloc _) ⟨wr.heap.size, 0, none⟩ 1 1 [Value.int .u8 (d : Int)] rfl rfl ?c1 ?c2 ?c3 ?c4 ?c5 ?_)
              case c1 => exact cell_one_new _ _ _
              case c2 => intro u hu; simp at hu; subst hu; rfl
              case c3 => unfold maxLen; omega
              case c4 => omega
              case c5 => have := hb.size; simp; omega
              intro v' w3 hown' hgrow _
              rw [bCells_snoc] at hown'
              have hb1 : Below w.heap.size w w3 := (hb.alloc hb.size _).grown hgrow (by have := hb.size; simp; omega) (fun g hg => (hown.lt g hg).1)
              have HO3 := Lib.hid (show Own w v' (M ++ [d]) w3 from ⟨by rw [List.length_append]; exact hown', hb1⟩)
              clear hgrow hown hown' hb hb1
              go_wp2
              go_roundw
              case rel => first | exact ⟨1, by omega, rfl, by rw [← HL2.out]; exact HO3.out⟩ | (refine ⟨_, _, _, _, _, _, _, _, _, _, _, _, _, _, ?_, rfl⟩; exact ⟨1, by omega, rfl, by rw [← HL2.out]; exact HO3.out⟩)
              case measure => simp [intOf]
            | 3, _ =>
              obtain ⟨d, hd⟩ : ∃ d, d = x / 256 ^ 2 % 256 := ⟨_, rfl⟩
              have y1 : IntKind.u8.wrap ((x : Int) / 65536) = (d : Int) := by rw [IntKind.wrap_u8, hd]; omega
              have y2 : (x : Int) / 65536 % 256 = (d : Int) := by rw [hd]; omega
              have hl2 : (L ++ (beBytes x 8).take (8 - 3)) ++ [d] = L ++ (beBytes x 8).take (8 - 2) := by rw [hd, List.append_assoc]; rfl
              obtain ⟨M, hM⟩ : ∃ M, M = L ++ (beBytes x 8).take (8 - 3) := ⟨_, rfl⟩
              have hMl : M.length ≤ 80 := by rw [hM, List.length_append, List.length_take]; omega
              rw [← hM] at hl2 hO
              have HL2 := Lib.hid hl2; clear hl2 hM hd
              obtain ⟨hown, hb⟩ := hO
              go_wp2_with (at_builtin; refine wpList_append_own _ rfl _ _ 97 rfl w.heap.size 5 i0 (.int .u8 0) 1 1 Try.underlying97 hi hz0 hz1 hz2 rfl (by decide) _ _ _ rfl (hown.alloc _) ⟨wr.heap.size, 0, none⟩ 1 1 [Value.int .u8 (d : Int)] rfl rfl ?c1 ?c2 ?c3 ?c4 ?c5 ?_)
              case c1 => exact cell_one_new _ _ _
              case c2 => intro u hu; simp at hu; subst hu; rfl
              case c3 => unfold maxLen; omega
              case c4 => omega
              case c5 => have := hb.size; simp; omega
              intro v' w3 hown' hgrow _
              rw [bCells_snoc] at hown'
              have hb1 : Below w.heap.size w w3 := (hb.alloc hb.size _).grown hgrow (by have := hb.size; simp; omega) (fun g hg => (hown.lt g hg).1)
              have HO3 := Lib.hid (show Own w v' (M ++ [d]) w3 from ⟨by rw [List.length_append]; exact hown', hb1⟩)
              clear hgrow hown hown' hb hb1
              go_wp2
              go_roundw
              case rel => first | exact ⟨2, by omega, rfl, by rw [← HL2.out]; exact HO3.out⟩ | (refine ⟨_, _, _, _, _, _, _, _, _, _, _, _, _, _, ?_, rfl⟩; exact ⟨2, by omega, rfl, by rw [← HL2.out]; exact HO3.out⟩)
              case measure => simp [intOf]
            | 4, _ =>
              obtain ⟨d, hd⟩ : ∃ d, d = x / 256 ^ 3 % 256 := ⟨_, rfl⟩
              have y1 : IntKind.u8.wrap ((x : Int) / 16777216) = (d : Int) := by rw [IntKind.wrap_u8, hd]; omega
              have y2 : (x : Int) / 16777216 % 256 = (d : Int) := by rw [hd]; omega
              have hl2 : (L ++ (beBytes x 8).take (8 - 4)) ++ [d] = L ++ (beBytes x 8).take (8 - 3) := by rw [hd, List.append_assoc]; rfl
              obtain ⟨M, hM⟩ : ∃ M, M = L ++ (beBytes x 8).take (8 - 4) := ⟨_, rfl⟩
              have hMl : M.length ≤ 80 := by rw [hM, List.length_append, List.length_take]; omega
              rw [← hM] at hl2 hO
              have HL2 := Lib.hid hl2; clear hl2 hM hd
              obtain ⟨hown, hb⟩ := hO
              go_wp2_with (at_builtin; refine wpList_append_own _ rfl _ _ 97 rfl w.heap.size 5 i0 (.int .u8 0) 1 1 Try.underlying97 hi hz0 hz1 hz2 rfl (by decide) _ _ _ rfl (hown.alloc _) ⟨wr.heap.size, 0, none⟩ 1 1 [Value.int .u8 (d : Int)] rfl rfl ?c1 ?c2 ?c3 ?c4 ?c5 ?_)
              case c1 => exact cell_one_new _ _ _
              case c2 => intro u hu; simp at hu; subst hu; rfl
              case c3 => unfold maxLen; omega
              case c4 => omega
              case c5 => have := hb.size; simp; omega
              intro v' w3 hown' hgrow _
              rw [bCells_snoc] at hown'
              have hb1 : Below w.heap.size w w3 := (hb.alloc hb.size _).grown hgrow (by have := hb.size; simp; omega) (fun g hg => (hown.lt g hg).1)
              have HO3 := Lib.hid (show Own w v' (M ++ [d]) w3 from ⟨by rw [List.length_append]; exact hown', hb1⟩)
              clear hgrow hown hown' hb hb1
              go_wp2
              go_roundw
              case rel => first | exact ⟨3, by omega, rfl, by rw [← HL2.out]; exact HO3.out⟩ | (refine ⟨_, _, _, _, _, _, _, _, _, _, _, _, _, _, ?_, rfl⟩; exact ⟨3, by omega, rfl, by rw [← HL2.out]; exact HO3.out⟩)
              case measure => simp [intOf]
            | 5, _ =>
              obtain ⟨d, hd⟩ : ∃ d, d = x / 256 ^ 4 % 256 := ⟨_, rfl⟩
              have y1 : IntKind.u8.wrap ((x : Int) / 4294967296) = (d : Int) := by rw [IntKind.wrap_u8, hd]; omega
              have y2 : (x : Int) / 4294967296 % 256 = (d : Int) := by rw [hd]; omega
              have hl2 : (L ++ (beBytes x 8).take (8 - 5)) ++ [d] = L ++ (beBytes x 8).take (8 - 4) := by rw [hd, List.append_assoc]; rfl
              obtain ⟨M, hM⟩ : ∃ M, M = L ++ (beBytes x 8).take (8 - 5) := ⟨_, rfl⟩
              have hMl : M.length ≤ 80 := by rw [hM, List.length_append, List.length_take]; omega
              rw [← hM] at hl2 hO
              have HL2 := Lib.hid hl2; clear hl2 hM hd
              obtain ⟨hown, hb⟩ := hO
              go_wp2_with (at_builtin; refine wpList_append_own _ rfl _ _ 97 rfl w.heap.size 5 i0 (.int .u8 0) 1 1 Try.underlying97 hi hz0 hz1 hz2 rfl (by decide) _ _ _ rfl (hown.alloc _) ⟨wr.heap.size, 0, none⟩ 1 1 [Value.int .u8 (d : Int)] rfl rfl ?c1 ?c2 ?c3 ?c4 ?c5 ?_)
              case c1 => exact cell_one_new _ _ _
              case c2 => intro u hu; simp at hu; subst hu; rfl
              case c3 => unfold maxLen; omega
              case c4 => omega
              case c5 => have := hb.size; simp; omega
              intro v' w3 hown' hgrow _
              rw [bCells_snoc] at hown'
              have hb1 : Below w.heap.size w w3 := (hb.alloc hb.size _).grown hgrow (by have := hb.size; simp; omega) (fun g hg => (hown.lt g hg).1)
              have HO3 := Lib.hid (show Own w v' (M ++ [d]) w3 from ⟨by rw [List.length_append]; exact hown', hb1⟩)
              clear hgrow hown hown' hb hb1
              go_wp2
              go_roundw
              case rel => first | exact ⟨4, by omega, rfl, by rw [← HL2.out]; exact HO3.out⟩ | (refine ⟨_, _, _, _, _, _, _, _, _, _, _, _, _, _, ?_, rfl⟩; exact ⟨4, by omega, rfl, by rw [← HL2.out]; exact HO3.out⟩)
              case measure => simp [intOf]
            | 6, _ =>
              obtain ⟨d, hd⟩ : ∃ d, d = x / 256 ^ 5 % 256 := ⟨_, rfl⟩
              have y1 : IntKind.u8.wrap ((x : Int) / 1099511627776) = (d : Int) := by rw [IntKind.wrap_u8, hd]; omega
              have y2 : (x : Int) / 1099511627776 % 256 = (d : Int) := by rw [hd]; omega
              have hl2 : (L ++ (beBytes x 8).take (8 - 6)) ++ [d] = L ++ (beBytes x 8).take (8 - 5) := by rw [hd, List.append_assoc]; rfl
              obtain ⟨M, hM⟩ : ∃ M, M = L ++ (beBytes x 8).take (8 - 6) := ⟨_, rfl⟩
              have hMl : M.length ≤ 80 := by rw [hM, List.length_append, List.length_take]; omega
              rw [← hM] at hl2 hO
              have HL2 := Lib.hid hl2; clear hl2 hM hd
              obtain ⟨hown, hb⟩ := hO
              go_wp2_with (at_builtin; refine wpList_append_own _ rfl _ _ 97 rfl w.heap.size 5 i0 (.int .u8 0) 1 1 Try.underlying97 hi hz0 hz1 hz2 rfl (by decide) _ _ _ rfl (hown.alloc _) ⟨wr.heap.size, 0, none⟩ 1 1 [Value.int .u8 (d : Int)] rfl rfl ?c1 ?c2 ?c3 ?c4 ?c5 ?_)
              case c1 => exact cell_one_new _ _ _
              case c2 => intro u hu; simp at hu; subst hu; rfl
              case c3 => unfold maxLen; omega
              case c4 => omega
              case c5 => have := hb.size; simp; omega
              intro v' w3 hown' hgrow _
              rw [bCells_snoc] at hown'
              have hb1 : Below w.heap.size w w3 := (hb.alloc hb.size _).grown hgrow (by have := hb.size; simp; omega) (fun g hg => (hown.lt g hg).1)
              have HO3 := Lib.hid (show Own w v' (M ++ [d]) w3 from ⟨by rw [List.length_append]; exact hown', hb1⟩)
              clear hgrow hown hown' hb hb1
              go_wp2
              go_roundw
              case rel => first | exact ⟨5, by omega, rfl, by rw [← HL2.out]; exact HO3.out⟩ | (refine ⟨_, _, _, _, _, _, _, _, _, _, _, _, _, _, ?_, rfl⟩; exact ⟨5, by omega, rfl, by rw [← HL2.out]; exact HO3.out⟩)
              case measure => simp [intOf]
            | 7, _ =>
              obtain ⟨d, hd⟩ : ∃ d, d = x / 256 ^ 6 % 256 := ⟨_, rfl⟩
              have y1 : IntKind.u8.wrap ((x : Int) / 281474976710656) = (d : Int) := by rw [IntKind.wrap_u8, hd]; omega
              have y2 : (x : Int) / 281474976710656 % 256 = (d : Int) := by rw [hd]; omega
              have hl2 : (L ++ (beBytes x 8).take (8 - 7)) ++ [d] = L ++ (beBytes x 8).take (8 - 6) := by rw [hd, List.append_assoc]; rfl
              obtain ⟨M, hM⟩ : ∃ M, M = L ++ (beBytes x 8).take (8 - 7) := ⟨_, rfl⟩
              have hMl : M.length ≤ 80 := by rw [hM, List.length_append, List.length_take]; omega
              rw [← hM] at hl2 hO
              have HL2 := Lib.hid hl2; clear hl2 hM hd
              obtain ⟨hown, hb⟩ := hO
              go_wp2_with (at_builtin; refine wpList_append_own _ rfl _ _ 97 rfl w.heap.size 5 i0 (.int .u8 0) 1 1 Try.underlying97 hi hz0 hz1 hz2 rfl (by decide) _ _ _ rfl (hown.alloc _) ⟨wr.heap.size, 0, none⟩ 1 1 [Value.int .u8 (d : Int)] rfl rfl ?c1 ?c2 ?c3 ?c4 ?c5 ?_)
              case c1 => exact cell_one_new _ _ _
              case c2 => intro u hu; simp at hu; subst hu; rfl
              case c3 => unfold maxLen; omega
              case c4 => omega
              case c5 => have := hb.size; simp; omega
              intro v' w3 hown' hgrow _
              rw [bCells_snoc] at hown'
              have hb1 : Below w.heap.size w w3 := (hb.alloc hb.size _).grown hgrow (by have := hb.size; simp; omega) (fun g hg => (hown.lt g hg).1)
              have HO3 := Lib.hid (show Own w v' (M ++ [d]) w3 from ⟨by rw [List.length_append]; exact hown', hb1⟩)
              clear hgrow hown hown' hb hb1
              go_wp2
              go_roundw
              case rel => first | exact ⟨6, by omega, rfl, by rw [← HL2.out]; exact HO3.out⟩ | (refine ⟨_, _, _, _, _, _, _, _, _, _, _, _, _, _, ?_, rfl⟩; exact ⟨6, by omega, rfl, by rw [← HL2.out]; exact HO3.out⟩)
              case measure => simp [intOf]
            | 8, _ =>
              obtain ⟨d, hd⟩ : ∃ d, d = x / 256 ^ 7 % 256 := ⟨_, rfl⟩
              have y1 : IntKind.u8.wrap ((x : Int) / 72057594037927936) = (d : Int) := by rw [IntKind.wrap_u8, hd]; omega
              have y2 : (x : Int) / 72057594037927936 % 256 = (d : Int) := by rw [hd]; omega
              have hl2 : (L ++ (beBytes x 8).take (8 - 8)) ++ [d] = L ++ (beBytes x 8).take (8 - 7) := by rw [hd, List.append_assoc]; rfl
              obtain ⟨M, hM⟩ : ∃ M, M = L ++ (beBytes x 8).take (8 - 8) := ⟨_, rfl⟩
              have hMl : M.length ≤ 80 := by rw [hM, List.length_append, List.length_take]; omega
              rw [← hM] at hl2 hO
              have HL2 := Lib.hid hl2; clear hl2 hM hd
              obtain ⟨hown, hb⟩ := hO
              go_wp2_with (at_builtin; refine wpList_append_own _ rfl _ _ 97 rfl w.heap.size 5 i0 (.int .u8 0) 1 1 Try.underlying97 hi hz0 hz1 hz2 rfl (by decide) _ _ _ rfl (hown.alloc _) ⟨wr.heap.size, 0, none⟩ 1 1 [Value.int .u8 (d : Int)] rfl rfl ?c1 ?c2 ?c3 ?c4 ?c5 ?_)
              case c1 => exact cell_one_new _ _ _
              case c2 => intro u hu; simp at hu; subst hu; rfl
              case c3 => unfold maxLen; omega
              case c4 => omega
              case c5 => have := hb.size; simp; omega
              intro v' w3 hown' hgrow _
              rw [bCells_snoc] at hown'
              have hb1 : Below w.heap.size w w3 := (hb.alloc hb.size _).grown hgrow (by have := hb.size; simp; omega) (fun g hg => (hown.lt g hg).1)
              have HO3 := Lib.hid (show Own w v' (M ++ [d]) w3 from ⟨by rw [List.length_append]; exact hown', hb1⟩)
              clear hgrow hown hown' hb hb1
              go_wp2
              go_roundw
              case rel => first | exact ⟨7, by omega, rfl, by rw [← HL2.out]; exact HO3.out⟩ | (refine ⟨_, _, _, _, _, _, _, _, _, _, _, _, _, _, ?_, rfl⟩; exact ⟨7, by omega, rfl, by rw [← HL2.out]; exact HO3.out⟩)
              case measure => simp [intOf]
    
    · obtain rfl : j = 8 := by omega
      obtain ⟨g, cap, hv, hc⟩ := hO.back (by rw [spelled_length]; have : (s.list.take 8).length = 8 := rfl; rw [this]; decide) (spelled_lt _ _)
      subst hv
      have HB := Lib.hid hO.below; clear hO
      go_wp2
      go_ret
      exact ⟨rfl, HB.out⟩

end Dg
end Go.Proofs.Ytedoggejbhbebaa
