/-
  Contract of dromondref05.Sum at 256. Conditions: the text is shorter than 2^30 bytes.
-/
import Derived.Test.YtfahmbkeibeceaaDoorTf
import Derived.Test.YtfahmbkeibeceaaDoorTe
import Derived.Test.YtfahmbkeibeceaaDoorSi
namespace Go.Proofs.YtfahmbkeibeceaaDoor
open Go.ChangeShapes Go.WideShapes Go.ChangeAt Go.RowKit Go.Great Go.ChangeMaps
open Sha
set_option linter.unusedVariables false
namespace T256

/-- A slice's length. -/
def lenV : Value → Nat
  | .slice _ n _ => n
  | _ => 0

/-- The memory of Sum, behind the padding. -/
structure Sm (w : World) (P H g : Nat) (t hl : List Nat) (X : World) : Prop where
  hf : X.heap[P]? = some (.cells form32 47 (0, 0))
  hh : Wd .u64 49 H hl X
  hb : Bs g 0 t X
  lo : w.heap.size ≤ P
  pg : P < H
  gH : g < H
  below : Below w.heap.size w X
theorem Sm.next {w X Y : World} {P H g : Nat} {t hl : List Nat} (h : Sm w P H g t hl X) (hb : Below X.heap.size X Y) : Sm w P H g t hl Y :=
  ⟨keepBlock h.hf hb, keepBlock h.hh hb, h.hb.of (hb.block g (Nat.lt_trans h.gH (Array.getElem?_eq_some_iff.1 h.hh).1)), h.lo, h.pg, h.gH, below_link h.below hb⟩
theorem Sm.drew {w X : World} {P H g : Nat} {t hl : List Nat} (h : Sm w P H g t hl X) : Sm w P H g t hl X.drew := ⟨h.hf, h.hh, h.hb, h.lo, h.pg, h.gH, h.below.drew⟩
theorem Sm.step {w X : World} {P H g : Nat} {t hl : List Nat} (h : Sm w P H g t hl X) (j v : Nat) : Sm w P H g t (hl.set j v) (X.setCell ⟨H, j, none⟩ (.int .u64 (v : Nat))) where
  hf := by have := h.pg; rw [heap_setCell_other _ _ _ _ (by simp only []; omega)]; exact h.hf
  hh := h.hh.setE j v
  hb := h.hb.of (by have := h.gH; exact heap_setCell_other _ _ _ _ (by simp only []; omega))
  lo := h.lo
  pg := h.pg
  gH := h.gH
  below := h.below.setCell (by have := h.lo; have := h.pg; simp only []; omega) _
theorem Sm.row {w X : World} {P H g : Nat} {t : List Nat} {v : St} (h : Sm w P H g t v.list X) (u : St) : Sm w P H g t u.list (X.setRow H (valsK .u64 u.list)) where
  hf := by have := h.pg; rw [setRow_other _ _ _ _ (by omega)]; exact h.hf
  hh := setRow_heap _ _ _ _ _ _ h.hh
  hb := h.hb.of (by have := h.gH; exact setRow_other _ _ _ _ (by omega))
  lo := h.lo
  pg := h.pg
  gH := h.gH
  below := below_setRow h.below (by have := h.lo; have := h.pg; omega) _
theorem Sm.form {w X : World} {P H g : Nat} {t hl : List Nat} (h : Sm w P H g t hl X) (j : Nat) : X.cell? ⟨P, j, none⟩ = form32[j]? := cell_of_row _ _ _ _ _ _ h.hf

theorem keepAllocAt (X : World) (o : Obj) (g : Nat) (h : g < X.heap.size) : (X.alloc o).heap[g]? = X.heap[g]? := heap_alloc_old _ _ h

theorem backTake {w X : World} {v : Value} {l : List Nat} (h : Own w v l X) (h0 : 0 < l.length) (hl : ∀ c ∈ l, c < 256) (n : Nat) (hn : n ≤ l.length) :
    ∃ g cap, v = .slice (some ⟨g, 0, none⟩) l.length cap ∧ l.length ≤ cap ∧ (convert 27 9 (.slice (some ⟨g, 0, none⟩) n cap)).run Tryd.prog X = .ok (.string (toB (l.take n))) X := by
  obtain ⟨hx, h1 | ⟨g, cap, cur, hv, -, hc, hle, -, hs, ht⟩⟩ := h.row
  · omega
  refine ⟨g, cap, hv, hle, ?_⟩
  have hrow := h.row
  rw [hv] at hrow
  have e : n = ((l.take n).map UInt8.ofNat).length := by rw [List.length_map, List.length_take]; omega
  conv => lhs; rw [e]
  refine run_convert_bytes_back X 27 9 5 _ cap ((l.take n).map UInt8.ofNat) Tryd.underlying27 Tryd.underlying5 Tryd.underlying9 fun j hj => ?_
  have hj' : j < (l.take n).length := by rw [List.length_map] at hj; exact hj
  have hj2 : j < l.length := by rw [List.length_take] at hj'; omega
  rw [hrow.cells (g := g) rfl j (.int .u8 ((l[j] : Nat) : Int)) (by simp [bCells, hj2])]
  have hc := hl l[j] (List.getElem_mem hj2)
  simp [Nat.mod_eq_of_lt hc]

theorem words (s : St) (j : Nat) (hj : j < 8) : ∃ x, s.list[j]? = some x := ⟨_, List.getElem?_eq_getElem (show j < s.list.length from hj)⟩

set_option maxRecDepth 10000 in
set_option maxHeartbeats 8000000 in
theorem ref (b : ByteArray) (w : World) (hb : b.size < 1073741824) :
    Calls Tryd.prog 12 #[.int .i64 256, .string b] w fun e w' => e = .returned (.string (sumOf 256 b)) ∧ Below w.heap.size w w' := by
  have HBS := Lib.hid hb; clear hb
  go_enter Tryd.func12, Tryd.ntmps12
  go_wp2_with fail
  refine (of256 _).mono ?_
  rintro e w1 ⟨rfl, hb1⟩
  have HB1 := Lib.hid hb1; clear hb1
  have HF := Lib.hid (heap_alloc_new w1 (.cells form32 47))
  have HB2 := Lib.hid (below_alloc HB1.out (.cells form32 47))
  have HPL := Lib.hid HB1.out.size
  have q0 : (w1.alloc (.cells #[.int .i64 32, .int .i64 64, .int .u64 2, .int .u64 13, .int .u64 22, .int .u64 6, .int .u64 11, .int .u64 25, .int .u64 7, .int .u64 18, .int .u64 3, .int .u64 17, .int .u64 19, .int .u64 10] 47)).cell? ⟨w1.heap.size, 0, none⟩ = some (.int .i64 32) := cell_of_row _ _ 0 _ _ _ HF.out
  unfold form32 at HF HB2
  unfold form32
  obtain ⟨cap, W0, hconv, hG, hBW⟩ := bytes_gm b (w1.alloc (.cells #[.int .i64 32, .int .i64 64, .int .u64 2, .int .u64 13, .int .u64 22, .int .u64 6, .int .u64 11, .int .u64 25, .int .u64 7, .int .u64 18, .int .u64 3, .int .u64 17, .int .u64 19, .int .u64 10] 47)) (w1.alloc (.cells #[.int .i64 32, .int .i64 64, .int .u64 2, .int .u64 13, .int .u64 22, .int .u64 6, .int .u64 11, .int .u64 25, .int .u64 7, .int .u64 18, .int .u64 3, .int .u64 17, .int .u64 19, .int .u64 10] 47)) (Below.refl _ _)
  rw [alloc_size] at hconv hG
  have HG := Lib.hid hG; clear hG hBW
  go_wp2_with (at_builtin; refine wpList_append_gm rfl _ _ rfl rfl (HG.out.alloc _) ?hl ⟨W0.heap.size, 0, none⟩ 128 rfl (cell_one_new _ _ _ 0 _ rfl) ?_)
  case hl => rw [nums_length]; have := HBS.out; omega
  intro v1 X2 hG2
  clear HG hconv q0
  obtain ⟨X1, hX1⟩ : ∃ X1, X1 = w1.alloc (.cells #[.int .i64 32, .int .i64 64, .int .u64 2, .int .u64 13, .int .u64 22, .int .u64 6, .int .u64 11, .int .u64 25, .int .u64 7, .int .u64 18, .int .u64 3, .int .u64 17, .int .u64 19, .int .u64 10] 47) := ⟨_, rfl⟩
  rw [← hX1] at hG2 HF HB2
  obtain ⟨P, hP⟩ : ∃ P, P = w1.heap.size := ⟨_, rfl⟩
  rw [← hP] at HF HPL ⊢
  clear hX1 hP HB1
  obtain ⟨M, hM⟩ : ∃ M, M = nums b ++ [128] := ⟨_, rfl⟩
  rw [← hM] at hG2
  obtain ⟨g, cap2, hv, -⟩ := hG2.ex
  subst hv
  have HG := Lib.hid hG2; clear hG2
  have HM := Lib.hid hM; clear hM
  go_wp2
  go_loopw [7] (fun v wr => ∃ k : Nat, k ≤ gap 32 b.size ∧ Gm X1 v (nums b ++ 128 :: List.replicate k 0) wr) (fun v _ => b.size + 1 + gap 32 b.size - lenV v)
  case atStart => exact ⟨0, Nat.zero_le _, by have := HG.out; rw [HM.out] at this ⊢; exact this⟩
  case round =>
    obtain ⟨k, hk, hG⟩ := hrel
    obtain ⟨M, hM⟩ : ∃ M, M = nums b ++ 128 :: List.replicate k 0 := ⟨_, rfl⟩
    have hML : M.length = b.size + 1 + k := by rw [hM]; simp [nums_length]; omega
    rw [← hM] at hG
    obtain ⟨g, cap2, hv, -⟩ := hG.ex
    subst hv
    obtain ⟨r, hr⟩ : ∃ r, r = M.length % 64 := ⟨_, rfl⟩
    have q1 : Int.tmod (M.length : Int) 64 = (r : Int) := by rw [Int.tmod_eq_emod_of_nonneg (by omega)]; omega
    have q2 : (M.length : Int) % 64 = (r : Int) := by omega
    by_cases hlt : k < gap 32 b.size
    · have hne : r ≠ 56 := by
        intro e
        have := gap_first 32 b.size k (by decide) hk (by rw [← hML, ← hr, e])
        omega
      have g1 : ((r : Int) == 56) = false := by simpa using (by omega : ¬ (r : Int) = 56)
      have g2 : ¬ (r : Int) = 56 := by omega
      have hnx : M ++ [0] = nums b ++ 128 :: List.replicate (k + 1) 0 := by rw [hM, List.replicate_succ', List.append_assoc]; rfl
      have HNX := Lib.hid hnx; clear hnx
      have HML := Lib.hid hML
      have HGP := Lib.hid hG; clear hG
      clear hM hr hne hML
      go_wp2_with (at_builtin; refine wpList_append_gm rfl _ _ rfl rfl (HGP.out.alloc _) ?hl ⟨wr.heap.size, 0, none⟩ 0 rfl (cell_one_new _ _ _ 0 _ rfl) ?_)
      case hl => have := HML.out; have := HBS.out; have := gap_lt 32 b.size (by decide); omega
      intro v2 X3 hG3
      obtain ⟨M2, hM2⟩ : ∃ m, m = M ++ [0] := ⟨_, rfl⟩
      have hl2 : M2.length = M.length + 1 := by rw [hM2]; simp
      rw [← hM2] at hG3
      rw [HNX.out] at hM2
      have HM2 := Lib.hid hM2; clear hM2
      have HL2 := Lib.hid hl2; clear hl2
      obtain ⟨g3, cap3, hv, -⟩ := hG3.ex
      subst hv
      have HG3 := Lib.hid hG3; clear hG3
      go_wp2
      go_roundw
      case rel => exact ⟨k + 1, by omega, by rw [← HM2.out]; exact HG3.out⟩
      case measure => simp [lenV]; have := HML.out; have := HL2.out; omega
    · obtain rfl : k = gap 32 b.size := by omega
      have he : r = 56 := by rw [hr, hML]; exact gap_at 32 b.size (by decide)
      have g1 : ((r : Int) == 56) = true := by simpa using (by omega : (r : Int) = 56)
      have g2 : (r : Int) = 56 := by omega
      have HGP := Lib.hid (show Gm X1 (.slice (some ⟨g, 0, none⟩) M.length cap2) (nums b ++ 128 :: List.replicate (gap 32 b.size + (8 - 8)) 0) wr by rw [hM] at hG ⊢; exact hG)
      clear hG hM hr hML he
      go_wp2
      go_loopw [7, 8] (fun v x wr => ∃ j : Nat, 8 ≤ j ∧ j ≤ 8 ∧ x = .int .i64 (j : Nat) ∧ Gm X1 v (nums b ++ 128 :: List.replicate (gap 32 b.size + (j - 8)) 0) wr) (fun _ x _ => 8 - (intOf x).toNat)
      case atStart => exact ⟨8, Nat.le_refl _, by decide, rfl, HGP.out⟩
      case round =>
        obtain ⟨j, hj8, hj, rfl, hG⟩ := hrel
        clear HGP
        obtain ⟨M', hM⟩ : ∃ M, M = nums b ++ 128 :: List.replicate (gap 32 b.size + (j - 8)) 0 := ⟨_, rfl⟩
        have hML : M'.length = b.size + 1 + gap 32 b.size + (j - 8) := by rw [hM]; simp [nums_length]; omega
        rw [← hM] at hG
        obtain ⟨g, cap2, hv, -⟩ := hG.ex
        subst hv
        by_cases hlt : j < 8
        · omega
        · obtain rfl : j = 8 := by omega
          have e8 : ((8 : Nat) : Int) = 8 := rfl
          rw [e8]
          clear e8
          have HGP := Lib.hid hG; clear hG
          have HM3 := Lib.hid hM; clear hM
          have HML := Lib.hid hML; clear hML
          obtain ⟨N8, hN8⟩ : ∃ N, N = 8 * b.size := ⟨_, rfl⟩
          have u1 : IntKind.u64.wrap (b.size : Int) = (b.size : Int) := by have := HBS.out; rw [IntKind.wrap_u64]; omega
          have u2 : IntKind.u64.wrap ((b.size : Int) * 8) = (N8 : Int) := by have := HBS.out; rw [IntKind.wrap_u64]; omega
          have HN8 := Lib.hid hN8; clear hN8
          go_wp2
          go_loopw [7, 10] (fun v x wr => ∃ k : Nat, k ≤ 8 ∧ x = .int .i64 (8 * (k : Int) - 8) ∧ Gm X1 v (M' ++ (beBytes N8 8).take (8 - k)) wr) (fun _ x _ => (intOf x + 8).toNat)
          case atStart => exact ⟨8, Nat.le_refl _, rfl, by rw [Nat.sub_self, List.take_zero, List.append_nil]; exact HGP.out⟩
          case round =>
            obtain ⟨k, hk, rfl, hG⟩ := hrel
            clear HGP u1 u2
            match k, hk with
            | 8, _ =>
              obtain ⟨d, hd⟩ : ∃ d, d = N8 / 256 ^ 7 % 256 := ⟨_, rfl⟩
              have y1 : IntKind.u8.wrap ((N8 : Int) / 72057594037927936) = (d : Int) := by rw [IntKind.wrap_u8, hd]; omega
              have y2 : (N8 : Int) / 72057594037927936 % 256 = (d : Int) := by rw [hd]; omega
              have hl2 : (M' ++ (beBytes N8 8).take (8 - 8)) ++ [d] = M' ++ (beBytes N8 8).take (8 - 7) := by rw [hd, List.append_assoc]; rfl
              obtain ⟨M, hM⟩ : ∃ M, M = M' ++ (beBytes N8 8).take (8 - 8) := ⟨_, rfl⟩
              have HMl := Lib.hid (show M.length ≤ M'.length + 8 by rw [hM, List.length_append, List.length_take]; omega)
              rw [← hM] at hl2 hG
              obtain ⟨M2, hM2⟩ : ∃ m, m = M ++ [d] := ⟨_, rfl⟩
              rw [← hM2] at hl2
              have HL2 := Lib.hid hl2; clear hl2 hM hd
              obtain ⟨g, cap2, hv, -⟩ := hG.ex
              subst hv
              have HGP := Lib.hid hG; clear hG
              go_wp2_with (at_builtin; refine wpList_append_gm rfl _ _ rfl rfl (HGP.out.alloc _) ?hl ⟨wr.heap.size, 0, none⟩ d rfl (cell_one_new _ _ _ 0 _ rfl) ?_)
              case hl => have := HMl.out; have := HML.out; have := HBS.out; have := gap_lt 32 b.size (by decide); omega
              intro v2 X3 hG3
              rw [← hM2] at hG3
              obtain ⟨g3, cap3, hv, -⟩ := hG3.ex
              subst hv
              have HG3 := Lib.hid hG3; clear hG3 hM2
              go_wp2
              go_roundw
              case rel => exact ⟨7, by omega, rfl, by rw [← HL2.out]; exact HG3.out⟩
              case measure => simp [intOf]
            | 7, _ =>
              obtain ⟨d, hd⟩ : ∃ d, d = N8 / 256 ^ 6 % 256 := ⟨_, rfl⟩
              have y1 : IntKind.u8.wrap ((N8 : Int) / 281474976710656) = (d : Int) := by rw [IntKind.wrap_u8, hd]; omega
              have y2 : (N8 : Int) / 281474976710656 % 256 = (d : Int) := by rw [hd]; omega
              have hl2 : (M' ++ (beBytes N8 8).take (8 - 7)) ++ [d] = M' ++ (beBytes N8 8).take (8 - 6) := by rw [hd, List.append_assoc]; rfl
              obtain ⟨M, hM⟩ : ∃ M, M = M' ++ (beBytes N8 8).take (8 - 7) := ⟨_, rfl⟩
              have HMl := Lib.hid (show M.length ≤ M'.length + 8 by rw [hM, List.length_append, List.length_take]; omega)
              rw [← hM] at hl2 hG
              obtain ⟨M2, hM2⟩ : ∃ m, m = M ++ [d] := ⟨_, rfl⟩
              rw [← hM2] at hl2
              have HL2 := Lib.hid hl2; clear hl2 hM hd
              obtain ⟨g, cap2, hv, -⟩ := hG.ex
              subst hv
              have HGP := Lib.hid hG; clear hG
              go_wp2_with (at_builtin; refine wpList_append_gm rfl _ _ rfl rfl (HGP.out.alloc _) ?hl ⟨wr.heap.size, 0, none⟩ d rfl (cell_one_new _ _ _ 0 _ rfl) ?_)
              case hl => have := HMl.out; have := HML.out; have := HBS.out; have := gap_lt 32 b.size (by decide); omega
              intro v2 X3 hG3
              rw [← hM2] at hG3
              obtain ⟨g3, cap3, hv, -⟩ := hG3.ex
              subst hv
              have HG3 := Lib.hid hG3; clear hG3 hM2
              go_wp2
              go_roundw
              case rel => exact ⟨6, by omega, rfl, by rw [← HL2.out]; exact HG3.out⟩
              case measure => simp [intOf]
            | 6, _ =>
              obtain ⟨d, hd⟩ : ∃ d, d = N8 / 256 ^ 5 % 256 := ⟨_, rfl⟩
              have y1 : IntKind.u8.wrap ((N8 : Int) / 1099511627776) = (d : Int) := by rw [IntKind.wrap_u8, hd]; omega
              have y2 : (N8 : Int) / 1099511627776 % 256 = (d : Int) := by rw [hd]; omega
              have hl2 : (M' ++ (beBytes N8 8).take (8 - 6)) ++ [d] = M' ++ (beBytes N8 8).take (8 - 5) := by rw [hd, List.append_assoc]; rfl
              obtain ⟨M, hM⟩ : ∃ M, M = M' ++ (beBytes N8 8).take (8 - 6) := ⟨_, rfl⟩
              have HMl := Lib.hid (show M.length ≤ M'.length + 8 by rw [hM, List.length_append, List.length_take]; omega)
              rw [← hM] at hl2 hG
              obtain ⟨M2, hM2⟩ : ∃ m, m = M ++ [d] := ⟨_, rfl⟩
              rw [← hM2] at hl2
              have HL2 := Lib.hid hl2; clear hl2 hM hd
              obtain ⟨g, cap2, hv, -⟩ := hG.ex
              subst hv
              have HGP := Lib.hid hG; clear hG
              go_wp2_with (at_builtin; refine wpList_append_gm rfl _ _ rfl rfl (HGP.out.alloc _) ?hl ⟨wr.heap.size, 0, none⟩ d rfl (cell_one_new _ _ _ 0 _ rfl) ?_)
              case hl => have := HMl.out; have := HML.out; have := HBS.out; have := gap_lt 32 b.size (by decide); omega
              intro v2 X3 hG3
              rw [← hM2] at hG3
              obtain ⟨g3, cap3, hv, -⟩ := hG3.ex
              subst hv
              have HG3 := Lib.hid hG3; clear hG3 hM2
              go_wp2
              go_roundw
              case rel => exact ⟨5, by omega, rfl, by rw [← HL2.out]; exact HG3.out⟩
              case measure => simp [intOf]
            | 5, _ =>
              obtain ⟨d, hd⟩ : ∃ d, d = N8 / 256 ^ 4 % 256 := ⟨_, rfl⟩
              have y1 : IntKind.u8.wrap ((N8 : Int) / 4294967296) = (d : Int) := by rw [IntKind.wrap_u8, hd]; omega
              have y2 : (N8 : Int) / 4294967296 % 256 = (d : Int) := by rw [hd]; omega
              have hl2 : (M' ++ (beBytes N8 8).take (8 - 5)) ++ [d] = M' ++ (beBytes N8 8).take (8 - 4) := by rw [hd, List.append_assoc]; rfl
              obtain ⟨M, hM⟩ : ∃ M, M = M' ++ (beBytes N8 8).take (8 - 5) := ⟨_, rfl⟩
              have HMl := Lib.hid (show M.length ≤ M'.length + 8 by rw [hM, List.length_append, List.length_take]; omega)
              rw [← hM] at hl2 hG
              obtain ⟨M2, hM2⟩ : ∃ m, m = M ++ [d] := ⟨_, rfl⟩
              rw [← hM2] at hl2
              have HL2 := Lib.hid hl2; clear hl2 hM hd
              obtain ⟨g, cap2, hv, -⟩ := hG.ex
              subst hv
              have HGP := Lib.hid hG; clear hG
              go_wp2_with (at_builtin; refine wpList_append_gm rfl _ _ rfl rfl (HGP.out.alloc _) ?hl ⟨wr.heap.size, 0, none⟩ d rfl (cell_one_new _ _ _ 0 _ rfl) ?_)
              case hl => have := HMl.out; have := HML.out; have := HBS.out; have := gap_lt 32 b.size (by decide); omega
              intro v2 X3 hG3
              rw [← hM2] at hG3
              obtain ⟨g3, cap3, hv, -⟩ := hG3.ex
              subst hv
              have HG3 := Lib.hid hG3; clear hG3 hM2
              go_wp2
              go_roundw
              case rel => exact ⟨4, by omega, rfl, by rw [← HL2.out]; exact HG3.out⟩
              case measure => simp [intOf]
            | 4, _ =>
              obtain ⟨d, hd⟩ : ∃ d, d = N8 / 256 ^ 3 % 256 := ⟨_, rfl⟩
              have y1 : IntKind.u8.wrap ((N8 : Int) / 16777216) = (d : Int) := by rw [IntKind.wrap_u8, hd]; omega
              have y2 : (N8 : Int) / 16777216 % 256 = (d : Int) := by rw [hd]; omega
              have hl2 : (M' ++ (beBytes N8 8).take (8 - 4)) ++ [d] = M' ++ (beBytes N8 8).take (8 - 3) := by rw [hd, List.append_assoc]; rfl
              obtain ⟨M, hM⟩ : ∃ M, M = M' ++ (beBytes N8 8).take (8 - 4) := ⟨_, rfl⟩
              have HMl := Lib.hid (show M.length ≤ M'.length + 8 by rw [hM, List.length_append, List.length_take]; omega)
              rw [← hM] at hl2 hG
              obtain ⟨M2, hM2⟩ : ∃ m, m = M ++ [d] := ⟨_, rfl⟩
              rw [← hM2] at hl2
              have HL2 := Lib.hid hl2; clear hl2 hM hd
              obtain ⟨g, cap2, hv, -⟩ := hG.ex
              subst hv
              have HGP := Lib.hid hG; clear hG
              go_wp2_with (at_builtin; refine wpList_append_gm rfl _ _ rfl rfl (HGP.out.alloc _) ?hl ⟨wr.heap.size, 0, none⟩ d rfl (cell_one_new _ _ _ 0 _ rfl) ?_)
              case hl => have := HMl.out; have := HML.out; have := HBS.out; have := gap_lt 32 b.size (by decide); omega
              intro v2 X3 hG3
              rw [← hM2] at hG3
              obtain ⟨g3, cap3, hv, -⟩ := hG3.ex
              subst hv
              have HG3 := Lib.hid hG3; clear hG3 hM2
              go_wp2
              go_roundw
              case rel => exact ⟨3, by omega, rfl, by rw [← HL2.out]; exact HG3.out⟩
              case measure => simp [intOf]
            | 3, _ =>
              obtain ⟨d, hd⟩ : ∃ d, d = N8 / 256 ^ 2 % 256 := ⟨_, rfl⟩
              have y1 : IntKind.u8.wrap ((N8 : Int) / 65536) = (d : Int) := by rw [IntKind.wrap_u8, hd]; omega
              have y2 : (N8 : Int) / 65536 % 256 = (d : Int) := by rw [hd]; omega
              have hl2 : (M' ++ (beBytes N8 8).take (8 - 3)) ++ [d] = M' ++ (beBytes N8 8).take (8 - 2) := by rw [hd, List.append_assoc]; rfl
              obtain ⟨M, hM⟩ : ∃ M, M = M' ++ (beBytes N8 8).take (8 - 3) := ⟨_, rfl⟩
              have HMl := Lib.hid (show M.length ≤ M'.length + 8 by rw [hM, List.length_append, List.length_take]; omega)
              rw [← hM] at hl2 hG
              obtain ⟨M2, hM2⟩ : ∃ m, m = M ++ [d] := ⟨_, rfl⟩
              rw [← hM2] at hl2
              have HL2 := Lib.hid hl2; clear hl2 hM hd
              obtain ⟨g, cap2, hv, -⟩ := hG.ex
              subst hv
              have HGP := Lib.hid hG; clear hG
              go_wp2_with (at_builtin; refine wpList_append_gm rfl _ _ rfl rfl (HGP.out.alloc _) ?hl ⟨wr.heap.size, 0, none⟩ d rfl (cell_one_new _ _ _ 0 _ rfl) ?_)
              case hl => have := HMl.out; have := HML.out; have := HBS.out; have := gap_lt 32 b.size (by decide); omega
              intro v2 X3 hG3
              rw [← hM2] at hG3
              obtain ⟨g3, cap3, hv, -⟩ := hG3.ex
              subst hv
              have HG3 := Lib.hid hG3; clear hG3 hM2
              go_wp2
              go_roundw
              case rel => exact ⟨2, by omega, rfl, by rw [← HL2.out]; exact HG3.out⟩
              case measure => simp [intOf]
            | 2, _ =>
              obtain ⟨d, hd⟩ : ∃ d, d = N8 / 256 ^ 1 % 256 := ⟨_, rfl⟩
              have y1 : IntKind.u8.wrap ((N8 : Int) / 256) = (d : Int) := by rw [IntKind.wrap_u8, hd]; omega
              have y2 : (N8 : Int) / 256 % 256 = (d : Int) := by rw [hd]; omega
              have hl2 : (M' ++ (beBytes N8 8).take (8 - 2)) ++ [d] = M' ++ (beBytes N8 8).take (8 - 1) := by rw [hd, List.append_assoc]; rfl
              obtain ⟨M, hM⟩ : ∃ M, M = M' ++ (beBytes N8 8).take (8 - 2) := ⟨_, rfl⟩
              have HMl := Lib.hid (show M.length ≤ M'.length + 8 by rw [hM, List.length_append, List.length_take]; omega)
              rw [← hM] at hl2 hG
              obtain ⟨M2, hM2⟩ : ∃ m, m = M ++ [d] := ⟨_, rfl⟩
              rw [← hM2] at hl2
              have HL2 := Lib.hid hl2; clear hl2 hM hd
              obtain ⟨g, cap2, hv, -⟩ := hG.ex
              subst hv
              have HGP := Lib.hid hG; clear hG
              go_wp2_with (at_builtin; refine wpList_append_gm rfl _ _ rfl rfl (HGP.out.alloc _) ?hl ⟨wr.heap.size, 0, none⟩ d rfl (cell_one_new _ _ _ 0 _ rfl) ?_)
              case hl => have := HMl.out; have := HML.out; have := HBS.out; have := gap_lt 32 b.size (by decide); omega
              intro v2 X3 hG3
              rw [← hM2] at hG3
              obtain ⟨g3, cap3, hv, -⟩ := hG3.ex
              subst hv
              have HG3 := Lib.hid hG3; clear hG3 hM2
              go_wp2
              go_roundw
              case rel => exact ⟨1, by omega, rfl, by rw [← HL2.out]; exact HG3.out⟩
              case measure => simp [intOf]
            | 1, _ =>
              obtain ⟨d, hd⟩ : ∃ d, d = N8 / 256 ^ 0 % 256 := ⟨_, rfl⟩
              have y1 : IntKind.u8.wrap ((N8 : Int)) = (d : Int) := by rw [IntKind.wrap_u8, hd]; omega
              have y2 : (N8 : Int) % 256 = (d : Int) := by rw [hd]; omega
              have hl2 : (M' ++ (beBytes N8 8).take (8 - 1)) ++ [d] = M' ++ (beBytes N8 8).take (8 - 0) := by rw [hd, List.append_assoc]; rfl
              obtain ⟨M, hM⟩ : ∃ M, M = M' ++ (beBytes N8 8).take (8 - 1) := ⟨_, rfl⟩
              have HMl := Lib.hid (show M.length ≤ M'.length + 8 by rw [hM, List.length_append, List.length_take]; omega)
              rw [← hM] at hl2 hG
              obtain ⟨M2, hM2⟩ : ∃ m, m = M ++ [d] := ⟨_, rfl⟩
              rw [← hM2] at hl2
              have HL2 := Lib.hid hl2; clear hl2 hM hd
              obtain ⟨g, cap2, hv, -⟩ := hG.ex
              subst hv
              have HGP := Lib.hid hG; clear hG
              go_wp2_with (at_builtin; refine wpList_append_gm rfl _ _ rfl rfl (HGP.out.alloc _) ?hl ⟨wr.heap.size, 0, none⟩ d rfl (cell_one_new _ _ _ 0 _ rfl) ?_)
              case hl => have := HMl.out; have := HML.out; have := HBS.out; have := gap_lt 32 b.size (by decide); omega
              intro v2 X3 hG3
              rw [← hM2] at hG3
              obtain ⟨g3, cap3, hv, -⟩ := hG3.ex
              subst hv
              have HG3 := Lib.hid hG3; clear hG3 hM2
              go_wp2
              go_roundw
              case rel => exact ⟨0, by omega, rfl, by rw [← HL2.out]; exact HG3.out⟩
              case measure => simp [intOf]
            | 0, _ =>
              obtain ⟨M, hM⟩ : ∃ M, M = M' ++ (beBytes N8 8).take (8 - 0) := ⟨_, rfl⟩
              have hMt : M = padded 32 (nums b) := by
                rw [hM, HM3.out, HN8.out, padded, nums_length]
                simp [beBytes]
              rw [← hM] at hG
              have hpl := padded_length 32 (nums b) (by decide)
              rw [← hMt] at hpl
              have HML2 := Lib.hid (show M.length < 1073742848 by
                rw [hMt, padded_eq, List.length_append, padL_length _ _ (by decide), nums_length]
                have := gap_lt 32 b.size (by decide); have := HBS.out; omega)
              have hMb : ∀ c ∈ M, c < 256 := by
                rw [hMt, padded_eq]
                intro c hc
                rcases List.mem_append.1 hc with hc | hc
                · exact nums_lt b c hc
                · exact padL_lt _ _ c hc
              obtain ⟨n, hn⟩ : ∃ n, M.length = 64 * n := ⟨M.length / 64, by omega⟩
              obtain ⟨g, cap2, hv, -, hgl, hle, hc, -⟩ := hG.ex
              subst hv
              have hgb := hG.below
              have HST := Lib.hid (And.intro hgl (And.intro hc hgb))
              have HMT := Lib.hid hMt
              have HMB := Lib.hid hMb
              have HLE := Lib.hid (And.intro hle hn)
              clear hG hM hMt hpl hMb hle hn hgl hc hgb
              go_wp2_with fail
              refine (hRef256 _).mono ?_
              rintro e w5 ⟨rfl, hb5⟩
              have hf5 := keepBlock (keepBlock HF.out HST.out.2.2) hb5
              have HSM := Lib.hid (show Sm w P w5.heap.size g M hs5 (w5.alloc (.cells (valsK .u64 hs5) 49)) from
                ⟨keepAlloc hf5 _, heap_alloc_new w5 _, fun j c hj => by
                  rw [World.cell?_of_block (a := ⟨g, 0 + j, none⟩) (keepAllocAt w5 _ g (Nat.lt_of_lt_of_le HST.out.1 hb5.size)), World.cell?_of_block (a := ⟨g, 0 + j, none⟩) (hb5.block g HST.out.1), Nat.zero_add]
                  exact HST.out.2.1 j c hj,
                 HPL.out, (Array.getElem?_eq_some_iff.1 hf5).1, Nat.lt_of_lt_of_le HST.out.1 hb5.size, below_alloc (below_link (below_link HB2.out HST.out.2.2) hb5) _⟩)
              have st1 := storeNew w5 49 #[.int .u64 0, .int .u64 0, .int .u64 0, .int .u64 0, .int .u64 0, .int .u64 0, .int .u64 0, .int .u64 0] (valsK .u64 hs5) size8_64 rfl (valsK_one _ _)
              clear hf5 hb5
              obtain ⟨H, hH⟩ : ∃ H, H = w5.heap.size := ⟨_, rfl⟩
              go_wp2_with fail
              clear st1
              rw [← hH] at HSM ⊢
              clear hH HST
              go_loopw [12] (fun x wr => ∃ j : Nat, j ≤ 8 ∧ x = .int .i64 (j : Nat) ∧ Sm w P H g M (ini256.list.take j ++ hs5.drop j) wr) (fun x _ => 8 - (intOf x).toNat)
              case atStart => exact ⟨0, Nat.zero_le _, rfl, HSM.out⟩
              case round =>
                obtain ⟨j, hj, rfl, hR⟩ := hrel
                clear HSM
                have q0 : wr.cell? ⟨P, 0, none⟩ = some (.int .i64 32) := hR.form 0
                match j, hj with
                | 0, _ =>
                  have c := hR.hh.cell (j := 0) (x := 7640891576956012808) rfl
                  have f := hR.hh.frozen 0
                  have HR := Lib.hid (show Sm w P H g M (ini256.list.take 1 ++ hs5.drop 1) (wr.setCell ⟨H, 0, none⟩ (.int .u64 (1779033703 : Nat))) from hR.step 0 1779033703); clear hR
                  go_wp2
                  go_roundw
                  case rel => exact ⟨1, by omega, rfl, HR.out⟩
                  case measure => simp [intOf]
                | 1, _ =>
                  have c := hR.hh.cell (j := 1) (x := 13503953896175478587) rfl
                  have f := hR.hh.frozen 1
                  have HR := Lib.hid (show Sm w P H g M (ini256.list.take 2 ++ hs5.drop 2) (wr.setCell ⟨H, 1, none⟩ (.int .u64 (3144134277 : Nat))) from hR.step 1 3144134277); clear hR
                  go_wp2
                  go_roundw
                  case rel => exact ⟨2, by omega, rfl, HR.out⟩
                  case measure => simp [intOf]
                | 2, _ =>
                  have c := hR.hh.cell (j := 2) (x := 4354685564936845355) rfl
                  have f := hR.hh.frozen 2
                  have HR := Lib.hid (show Sm w P H g M (ini256.list.take 3 ++ hs5.drop 3) (wr.setCell ⟨H, 2, none⟩ (.int .u64 (1013904242 : Nat))) from hR.step 2 1013904242); clear hR
                  go_wp2
                  go_roundw
                  case rel => exact ⟨3, by omega, rfl, HR.out⟩
                  case measure => simp [intOf]
                | 3, _ =>
                  have c := hR.hh.cell (j := 3) (x := 11912009170470909681) rfl
                  have f := hR.hh.frozen 3
                  have HR := Lib.hid (show Sm w P H g M (ini256.list.take 4 ++ hs5.drop 4) (wr.setCell ⟨H, 3, none⟩ (.int .u64 (2773480762 : Nat))) from hR.step 3 2773480762); clear hR
                  go_wp2
                  go_roundw
                  case rel => exact ⟨4, by omega, rfl, HR.out⟩
                  case measure => simp [intOf]
                | 4, _ =>
                  have c := hR.hh.cell (j := 4) (x := 5840696475078001361) rfl
                  have f := hR.hh.frozen 4
                  have HR := Lib.hid (show Sm w P H g M (ini256.list.take 5 ++ hs5.drop 5) (wr.setCell ⟨H, 4, none⟩ (.int .u64 (1359893119 : Nat))) from hR.step 4 1359893119); clear hR
                  go_wp2
                  go_roundw
                  case rel => exact ⟨5, by omega, rfl, HR.out⟩
                  case measure => simp [intOf]
                | 5, _ =>
                  have c := hR.hh.cell (j := 5) (x := 11170449401992604703) rfl
                  have f := hR.hh.frozen 5
                  have HR := Lib.hid (show Sm w P H g M (ini256.list.take 6 ++ hs5.drop 6) (wr.setCell ⟨H, 5, none⟩ (.int .u64 (2600822924 : Nat))) from hR.step 5 2600822924); clear hR
                  go_wp2
                  go_roundw
                  case rel => exact ⟨6, by omega, rfl, HR.out⟩
                  case measure => simp [intOf]
                | 6, _ =>
                  have c := hR.hh.cell (j := 6) (x := 2270897969802886507) rfl
                  have f := hR.hh.frozen 6
                  have HR := Lib.hid (show Sm w P H g M (ini256.list.take 7 ++ hs5.drop 7) (wr.setCell ⟨H, 6, none⟩ (.int .u64 (528734635 : Nat))) from hR.step 6 528734635); clear hR
                  go_wp2
                  go_roundw
                  case rel => exact ⟨7, by omega, rfl, HR.out⟩
                  case measure => simp [intOf]
                | 7, _ =>
                  have c := hR.hh.cell (j := 7) (x := 6620516959819538809) rfl
                  have f := hR.hh.frozen 7
                  have HR := Lib.hid (show Sm w P H g M (ini256.list.take 8 ++ hs5.drop 8) (wr.setCell ⟨H, 7, none⟩ (.int .u64 (1541459225 : Nat))) from hR.step 7 1541459225); clear hR
                  go_wp2
                  go_roundw
                  case rel => exact ⟨8, by omega, rfl, HR.out⟩
                  case measure => simp [intOf]
                | 8, _ =>
                  have e8 : ((8 : Nat) : Int) = 8 := rfl
                  rw [e8]
                  clear e8
                  have HSE := Lib.hid (blocks_small_32 (kAt 32) M ini256_small)
                  have HR := Lib.hid (show Sm w P H g M (Sha.blocks 32 (kAt 32) ini256 M 0).list wr from hR); clear hR
                  go_wp2
                  go_loopw [13] (fun x wr => ∃ i : Nat, i ≤ n ∧ x = .int .i64 (64 * i : Nat) ∧ Sm w P H g M (Sha.blocks 32 (kAt 32) ini256 M i).list wr) (fun x _ => 64 * n - (intOf x).toNat)
                  case atStart => exact ⟨0, Nat.zero_le _, rfl, HR.out⟩
                  case round =>
                    obtain ⟨i, hi, rfl, hD⟩ := hrel
                    clear HR q0
                    obtain ⟨v, hv⟩ : ∃ v, v = Sha.blocks 32 (kAt 32) ini256 M i := ⟨_, rfl⟩
                    have hvs : v.Small 32 := by rw [hv]; exact HSE.out i
                    obtain ⟨a, ha⟩ : ∃ a, a = 64 * i := ⟨_, rfl⟩
                    rw [← hv] at hD
                    rw [← ha]
                    by_cases hlt : i < n
                    · obtain ⟨c, hc⟩ : ∃ c, c = (M.drop a).take 64 := ⟨_, rfl⟩
                      have hcl : c.length = 64 := by rw [hc, List.length_take, List.length_drop]; have := HLE.out.2; omega
                      have hcb : ∀ x ∈ c, x < 256 := by rw [hc]; intro x hx; exact HMB.out x (List.mem_of_mem_drop (List.mem_of_mem_take hx))
                      have hnx : Sha.blocks 32 (kAt 32) ini256 M (i + 1) = Sha.block 32 (kAt 32) v c := by rw [hc, hv, ha]; rfl
                      have hBs : ∀ X, Bs g 0 M X → Bs g a c X := by
                        intro X h j d hj
                        rw [hc] at hj
                        have hj64 : j < 64 := by have := (List.getElem?_eq_some_iff.1 hj).1; rw [List.length_take] at this; omega
                        rw [List.getElem?_take, if_pos hj64, List.getElem?_drop] at hj
                        have := h (a + j) d hj
                        rwa [Nat.zero_add] at this
                      obtain ⟨u, hu⟩ : ∃ u, u = Sha.block 32 (kAt 32) v c := ⟨_, rfl⟩
                      have HRN := Lib.hid (fun cp X hB hg => refBlock_32 v g a cp c X hvs hcl hcb hB hg)
                      rw [← hu] at HRN hnx
                      have HNX := Lib.hid hnx; clear hnx hu hcl hcb
                      have HBB := Lib.hid hBs; clear hBs
                      have g1 : decide ((a : Int) < (M.length : Int)) = true := by simp; have := HLE.out.2; omega
                      have g1i : (a : Int) < (M.length : Int) := by have := HLE.out.2; omega
                      have g2 : IntKind.i64.wrap ((a : Int) + 64) = ((a + 64 : Nat) : Int) := by have := HLE.out.2; have := HML2.out; rw [IntKind.wrap_i64]; omega
                      have g3 : ((a + 64 : Nat) : Int) ≤ (cap2 : Int) := by have := HLE.out; omega
                      have g4 : (a : Int) ≤ ((a + 64 : Nat) : Int) := by omega
                      have HA := Lib.hid (show a + 64 = 64 * (i + 1) ∧ a + 64 ≤ 64 * n ∧ a < 64 * n by omega)
                      have p0 : wr.cell? ⟨P, 0, none⟩ = some (.int .i64 32) := hD.form 0
                      have p1 : wr.cell? ⟨P, 1, none⟩ = some (.int .i64 64) := hD.form 1
                      have p2 : wr.cell? ⟨P, 2, none⟩ = some (.int .u64 2) := hD.form 2
                      have p3 : wr.cell? ⟨P, 3, none⟩ = some (.int .u64 13) := hD.form 3
                      have p4 : wr.cell? ⟨P, 4, none⟩ = some (.int .u64 22) := hD.form 4
                      have p5 : wr.cell? ⟨P, 5, none⟩ = some (.int .u64 6) := hD.form 5
                      have p6 : wr.cell? ⟨P, 6, none⟩ = some (.int .u64 11) := hD.form 6
                      have p7 : wr.cell? ⟨P, 7, none⟩ = some (.int .u64 25) := hD.form 7
                      have p8 : wr.cell? ⟨P, 8, none⟩ = some (.int .u64 7) := hD.form 8
                      have p9 : wr.cell? ⟨P, 9, none⟩ = some (.int .u64 18) := hD.form 9
                      have p10 : wr.cell? ⟨P, 10, none⟩ = some (.int .u64 3) := hD.form 10
                      have p11 : wr.cell? ⟨P, 11, none⟩ = some (.int .u64 17) := hD.form 11
                      have p12 : wr.cell? ⟨P, 12, none⟩ = some (.int .u64 19) := hD.form 12
                      have p13 : wr.cell? ⟨P, 13, none⟩ = some (.int .u64 10) := hD.form 13
                      have v0 := hD.hh.cell (j := 0) (x := v.a) rfl
                      have v1 := hD.hh.cell (j := 1) (x := v.b) rfl
                      have v2 := hD.hh.cell (j := 2) (x := v.c) rfl
                      have v3 := hD.hh.cell (j := 3) (x := v.d) rfl
                      have v4 := hD.hh.cell (j := 4) (x := v.e) rfl
                      have v5 := hD.hh.cell (j := 5) (x := v.f) rfl
                      have v6 := hD.hh.cell (j := 6) (x := v.g) rfl
                      have v7 := hD.hh.cell (j := 7) (x := v.h) rfl
                      have HD := Lib.hid hD; clear hD
                      clear hv ha hlt hvs hc
                      go_wp2
                      go_region_with (go_at_call 25; refine (HRN.out _ _ (HBB.out _ HD.out.drew.hb) (Nat.lt_trans HD.out.gH (Array.getElem?_eq_some_iff.1 HD.out.drew.hh).1)).mono ?_; rintro e' w' ⟨rfl, hbw⟩; have hD' := Sm.next HD.out.drew hbw; have st := storeOld w' H 49 (valsK .u64 v.list) (valsK .u64 u.list) hD'.hh rfl (valsK_one _ _); have HD' := Lib.hid hD'; clear hD' hbw)
                      all_goals (go_wp2; go_roundw)
                      all_goals first
                        | exact ⟨i + 1, by have := HA.out; omega, by have := HA.out.1; congr 1; omega, by rw [HNX.out]; exact HD'.out.row u⟩
                        | exact ⟨i + 1, by have := HA.out; omega, by have := HA.out.1; congr 1; omega, by rw [HNX.out]; exact (HD'.out.row u).drew⟩
                        | (have := HA.out; simp [intOf]; omega)
                    · obtain rfl : i = n := by omega
                      have g1 : decide ((a : Int) < (M.length : Int)) = false := by simp; have := HLE.out.2; omega
                      have g1n : ¬ a < M.length := by have := HLE.out.2; omega
                      have g1i : ¬ (a : Int) < (M.length : Int) := by have := HLE.out.2; omega
                      have hdg : sumOf 256 b = toB ((spelled 32 v.list).take 32) := by
                        show toB (Sha.digest 32 256 (kAt 32) ini256 (nums b)) = _
                        unfold Sha.digest
                        rw [← HMT.out, show M.length / (2 * 32) = i by have := HLE.out.2; omega, ← hv]
                      have HDG := Lib.hid hdg
                      have HD := Lib.hid hD; clear hD
                      have HW := Lib.hid (words v)
                      clear hv hvs hdg hlt
                      obtain ⟨wo, rfl⟩ : ∃ x, x = wr := ⟨_, rfl⟩
                      go_wp2
                      clear g1 g1n g1i
                      go_loopw [14, 15] (fun o x wr => ∃ j : Nat, j ≤ 8 ∧ x = .int .i64 (j : Nat) ∧ Own wo o (spelled 32 (v.list.take j)) wr) (fun _ x _ => 8 - (intOf x).toNat)
                      case atStart => exact ⟨0, Nat.zero_le _, rfl, ⟨⟨rfl, Or.inl ⟨rfl, rfl⟩⟩, Below.refl _ _⟩⟩
                      case round =>
                        obtain ⟨j, hj, rfl, hO⟩ := hrel
                        by_cases hlj : j < 8
                        · obtain ⟨x, hx⟩ := HW.out j hlj
                          have hnx : spelled 32 (v.list.take (j + 1)) = spelled 32 (v.list.take j) ++ beBytes x 4 := by
                            have hjl : j < v.list.length := hlj
                            rw [List.take_succ_eq_append_getElem hjl, spelled_snoc, (List.getElem?_eq_some_iff.1 hx).2]
                          obtain ⟨L, hL⟩ : ∃ L, L = spelled 32 (v.list.take j) := ⟨_, rfl⟩
                          have hlen : L.length ≤ 64 := by rw [hL, spelled_length, List.length_take]; have : v.list.length = 8 := rfl; omega
                          rw [← hL] at hnx hO
                          have HNX := Lib.hid hnx; clear hnx hL
                          have HX := Lib.hid hx; clear hx
                          have q0 : wr.cell? ⟨P, 0, none⟩ = some (.int .i64 32) := (HD.out.next hO.below).form 0
                          have HLEN := Lib.hid hlen; clear hlen
                          have HO2 := Lib.hid hO; clear hO
                          have j1 : (j : Int) < 8 := by omega
                          obtain ⟨i0, hi, hz0, hz1, hz2⟩ := info_parts infoByte
                          go_wp2
                          go_loopw [14, 16] (fun o y wr => ∃ k : Nat, k ≤ 4 ∧ y = .int .i64 (8 * (k : Int) - 8) ∧ Own wo o (L ++ (beBytes x 4).take (4 - k)) wr) (fun _ y _ => (intOf y + 8).toNat)
                          case atStart => exact ⟨4, Nat.le_refl _, rfl, by rw [Nat.sub_self, List.take_zero, List.append_nil]; exact HO2.out⟩
                          case round =>
                            obtain ⟨k, hk, rfl, hO⟩ := hrel
                            clear q0
                            match k, hk with
                            | 0, _ =>
                              have HO3 := Lib.hid hO; clear hO
                              go_wp2
                              go_roundw
                              case rel => exact ⟨j + 1, by omega, by go_num, by rw [HNX.out]; exact HO3.out⟩
                              case measure => simp [intOf]; omega
                            | 4, _ =>
                              obtain ⟨d, hd⟩ : ∃ d, d = x / 256 ^ 3 % 256 := ⟨_, rfl⟩
                              have y1 : IntKind.u8.wrap ((x : Int) / 16777216) = (d : Int) := by rw [IntKind.wrap_u8, hd]; omega
                              have y2 : (x : Int) / 16777216 % 256 = (d : Int) := by rw [hd]; omega
                              have hl2 : (L ++ (beBytes x 4).take (4 - 4)) ++ [d] = L ++ (beBytes x 4).take (4 - 3) := by rw [hd, List.append_assoc]; rfl
                              obtain ⟨M, hM⟩ : ∃ M, M = L ++ (beBytes x 4).take (4 - 4) := ⟨_, rfl⟩
                              have hMl : M.length ≤ 80 := by rw [hM, List.length_append, List.length_take]; have := HLEN.out; omega
                              rw [← hM] at hl2 hO
                              have HL2 := Lib.hid hl2; clear hl2 hM hd
                              have hcx := (HD.out.next hO.below).hh.cell HX.out
                              obtain ⟨hown, hb⟩ := hO
                              go_wp2_with (at_builtin; refine wpList_append_own _ rfl _ _ 27 rfl wo.heap.size 5 i0 (.int .u8 0) 1 1 Tryd.underlying27 hi hz0 hz1 hz2 rfl (by decide) _ _ _ rfl (hown.alloc _) ⟨wr.heap.size, 0, none⟩ 1 1 [Value.int .u8 (d : Int)] rfl rfl ?c1 ?c2 ?c3 ?c4 ?c5 ?_)
                              case c1 => exact cell_one_new _ _ _
                              case c2 => intro u hu; simp at hu; subst hu; rfl
                              case c3 => unfold maxLen; omega
                              case c4 => omega
                              case c5 => have := hb.size; simp; omega
                              intro v' w3 hown' hgrow _
                              rw [bCells_snoc] at hown'
                              have hb1 : Below wo.heap.size wo w3 := (hb.alloc hb.size _).grown hgrow (by have := hb.size; simp; omega) (fun g hg => (hown.lt g hg).1)
                              have HO3 := Lib.hid (show Own wo v' (M ++ [d]) w3 from ⟨by rw [List.length_append]; exact hown', hb1⟩)
                              clear hgrow hown hown' hb hb1
                              go_wp2
                              go_roundw
                              case rel => exact ⟨3, by omega, rfl, by rw [← HL2.out]; exact HO3.out⟩
                              case measure => simp [intOf]
                            | 3, _ =>
                              obtain ⟨d, hd⟩ : ∃ d, d = x / 256 ^ 2 % 256 := ⟨_, rfl⟩
                              have y1 : IntKind.u8.wrap ((x : Int) / 65536) = (d : Int) := by rw [IntKind.wrap_u8, hd]; omega
                              have y2 : (x : Int) / 65536 % 256 = (d : Int) := by rw [hd]; omega
                              have hl2 : (L ++ (beBytes x 4).take (4 - 3)) ++ [d] = L ++ (beBytes x 4).take (4 - 2) := by rw [hd, List.append_assoc]; rfl
                              obtain ⟨M, hM⟩ : ∃ M, M = L ++ (beBytes x 4).take (4 - 3) := ⟨_, rfl⟩
                              have hMl : M.length ≤ 80 := by rw [hM, List.length_append, List.length_take]; have := HLEN.out; omega
                              rw [← hM] at hl2 hO
                              have HL2 := Lib.hid hl2; clear hl2 hM hd
                              have hcx := (HD.out.next hO.below).hh.cell HX.out
                              obtain ⟨hown, hb⟩ := hO
                              go_wp2_with (at_builtin; refine wpList_append_own _ rfl _ _ 27 rfl wo.heap.size 5 i0 (.int .u8 0) 1 1 Tryd.underlying27 hi hz0 hz1 hz2 rfl (by decide) _ _ _ rfl (hown.alloc _) ⟨wr.heap.size, 0, none⟩ 1 1 [Value.int .u8 (d : Int)] rfl rfl ?c1 ?c2 ?c3 ?c4 ?c5 ?_)
                              case c1 => exact cell_one_new _ _ _
                              case c2 => intro u hu; simp at hu; subst hu; rfl
                              case c3 => unfold maxLen; omega
                              case c4 => omega
                              case c5 => have := hb.size; simp; omega
                              intro v' w3 hown' hgrow _
                              rw [bCells_snoc] at hown'
                              have hb1 : Below wo.heap.size wo w3 := (hb.alloc hb.size _).grown hgrow (by have := hb.size; simp; omega) (fun g hg => (hown.lt g hg).1)
                              have HO3 := Lib.hid (show Own wo v' (M ++ [d]) w3 from ⟨by rw [List.length_append]; exact hown', hb1⟩)
                              clear hgrow hown hown' hb hb1
                              go_wp2
                              go_roundw
                              case rel => exact ⟨2, by omega, rfl, by rw [← HL2.out]; exact HO3.out⟩
                              case measure => simp [intOf]
                            | 2, _ =>
                              obtain ⟨d, hd⟩ : ∃ d, d = x / 256 ^ 1 % 256 := ⟨_, rfl⟩
                              have y1 : IntKind.u8.wrap ((x : Int) / 256) = (d : Int) := by rw [IntKind.wrap_u8, hd]; omega
                              have y2 : (x : Int) / 256 % 256 = (d : Int) := by rw [hd]; omega
                              have hl2 : (L ++ (beBytes x 4).take (4 - 2)) ++ [d] = L ++ (beBytes x 4).take (4 - 1) := by rw [hd, List.append_assoc]; rfl
                              obtain ⟨M, hM⟩ : ∃ M, M = L ++ (beBytes x 4).take (4 - 2) := ⟨_, rfl⟩
                              have hMl : M.length ≤ 80 := by rw [hM, List.length_append, List.length_take]; have := HLEN.out; omega
                              rw [← hM] at hl2 hO
                              have HL2 := Lib.hid hl2; clear hl2 hM hd
                              have hcx := (HD.out.next hO.below).hh.cell HX.out
                              obtain ⟨hown, hb⟩ := hO
                              go_wp2_with (at_builtin; refine wpList_append_own _ rfl _ _ 27 rfl wo.heap.size 5 i0 (.int .u8 0) 1 1 Tryd.underlying27 hi hz0 hz1 hz2 rfl (by decide) _ _ _ rfl (hown.alloc _) ⟨wr.heap.size, 0, none⟩ 1 1 [Value.int .u8 (d : Int)] rfl rfl ?c1 ?c2 ?c3 ?c4 ?c5 ?_)
                              case c1 => exact cell_one_new _ _ _
                              case c2 => intro u hu; simp at hu; subst hu; rfl
                              case c3 => unfold maxLen; omega
                              case c4 => omega
                              case c5 => have := hb.size; simp; omega
                              intro v' w3 hown' hgrow _
                              rw [bCells_snoc] at hown'
                              have hb1 : Below wo.heap.size wo w3 := (hb.alloc hb.size _).grown hgrow (by have := hb.size; simp; omega) (fun g hg => (hown.lt g hg).1)
                              have HO3 := Lib.hid (show Own wo v' (M ++ [d]) w3 from ⟨by rw [List.length_append]; exact hown', hb1⟩)
                              clear hgrow hown hown' hb hb1
                              go_wp2
                              go_roundw
                              case rel => exact ⟨1, by omega, rfl, by rw [← HL2.out]; exact HO3.out⟩
                              case measure => simp [intOf]
                            | 1, _ =>
                              obtain ⟨d, hd⟩ : ∃ d, d = x / 256 ^ 0 % 256 := ⟨_, rfl⟩
                              have y1 : IntKind.u8.wrap ((x : Int)) = (d : Int) := by rw [IntKind.wrap_u8, hd]; omega
                              have y2 : (x : Int) % 256 = (d : Int) := by rw [hd]; omega
                              have hl2 : (L ++ (beBytes x 4).take (4 - 1)) ++ [d] = L ++ (beBytes x 4).take (4 - 0) := by rw [hd, List.append_assoc]; rfl
                              obtain ⟨M, hM⟩ : ∃ M, M = L ++ (beBytes x 4).take (4 - 1) := ⟨_, rfl⟩
                              have hMl : M.length ≤ 80 := by rw [hM, List.length_append, List.length_take]; have := HLEN.out; omega
                              rw [← hM] at hl2 hO
                              have HL2 := Lib.hid hl2; clear hl2 hM hd
                              have hcx := (HD.out.next hO.below).hh.cell HX.out
                              obtain ⟨hown, hb⟩ := hO
                              go_wp2_with (at_builtin; refine wpList_append_own _ rfl _ _ 27 rfl wo.heap.size 5 i0 (.int .u8 0) 1 1 Tryd.underlying27 hi hz0 hz1 hz2 rfl (by decide) _ _ _ rfl (hown.alloc _) ⟨wr.heap.size, 0, none⟩ 1 1 [Value.int .u8 (d : Int)] rfl rfl ?c1 ?c2 ?c3 ?c4 ?c5 ?_)
                              case c1 => exact cell_one_new _ _ _
                              case c2 => intro u hu; simp at hu; subst hu; rfl
                              case c3 => unfold maxLen; omega
                              case c4 => omega
                              case c5 => have := hb.size; simp; omega
                              intro v' w3 hown' hgrow _
                              rw [bCells_snoc] at hown'
                              have hb1 : Below wo.heap.size wo w3 := (hb.alloc hb.size _).grown hgrow (by have := hb.size; simp; omega) (fun g hg => (hown.lt g hg).1)
                              have HO3 := Lib.hid (show Own wo v' (M ++ [d]) w3 from ⟨by rw [List.length_append]; exact hown', hb1⟩)
                              clear hgrow hown hown' hb hb1
                              go_wp2
                              go_roundw
                              case rel => exact ⟨0, by omega, rfl, by rw [← HL2.out]; exact HO3.out⟩
                              case measure => simp [intOf]
                        · obtain rfl : j = 8 := by omega
                          have e8 : v.list.take 8 = v.list := rfl
                          rw [e8] at hO
                          have hsl : (spelled 32 v.list).length = 4 * 8 := by rw [spelled_length]; rfl
                          obtain ⟨go, capo, hv, hle, hc⟩ := backTake hO (by rw [hsl]; decide) (spelled_lt _ _) 32 (by rw [hsl]; decide)
                          rw [← HDG.out] at hc
                          have b1 : (32 : Int) ≤ (capo : Int) := by rw [hsl] at hle; omega
                          obtain ⟨n0, hn0⟩ : ∃ n0, n0 = (spelled 32 v.list).length := ⟨_, rfl⟩
                          rw [← hn0] at hv
                          subst hv
                          have HB := Lib.hid (below_link HD.out.below hO.below)
                          obtain ⟨R, hR⟩ : ∃ R, R = sumOf 256 b := ⟨_, rfl⟩
                          rw [← hR] at hc
                          have HRR := Lib.hid hR
                          clear hO hsl hle hn0 e8 hR
                          go_wp2
                          go_ret
                          exact ⟨congrArg (fun r => Ending.returned (.string r)) HRR.out, HB.out⟩

end T256
end Go.Proofs.YtfahmbkeibeceaaDoor
