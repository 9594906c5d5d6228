/-
  A slice of bytes that a call has made and appends to: made out of a text, a byte appended; contracts of dromondref05.H. Conditions: the slice is shorter than 2^40 bytes.
-/
import Derived.Test.YtfahmbkeibeceaaDoorSd
import Derived.Test.YtfahmbkeibeceaaDoorSg
import Derived.Deep.AppendSrc
namespace Go.Proofs.YtfahmbkeibeceaaDoor
open Go.ChangeShapes Go.WideShapes Go.ChangeAt Go.RowKit Go.Great Go.ChangeMaps
open Sha
set_option linter.unusedVariables false

/-- A slice of bytes in new memory, with room behind it. -/
structure Gm (w : World) (v : Value) (l : List Nat) (X : World) : Prop where
  ex : ∃ g cap, v = .slice (some ⟨g, 0, none⟩) l.length cap ∧ w.heap.size ≤ g ∧ g < X.heap.size ∧ l.length ≤ cap ∧
    (∀ (j c : Nat), l[j]? = some c → X.cell? ⟨g, j, none⟩ = some (.int .u8 (c : Nat))) ∧
    (∀ j, j < cap → (X.cell? ⟨g, j, none⟩).isSome = true ∧ X.frozen? ⟨g, j, none⟩ = false)
  below : Below w.heap.size w X

/-- Made out of a text. -/
theorem bytes_gm (b : ByteArray) (w X : World) (hb : Below w.heap.size w X) : ∃ cap W, (convert 9 27 (.string b)).run Tryd.prog X = .ok (.slice (some ⟨X.heap.size, 0, none⟩) b.size cap) W ∧
    Gm w (.slice (some ⟨X.heap.size, 0, none⟩) b.size cap) (nums b) W ∧ Below X.heap.size X W := by
  refine ⟨_, _, run_bytes_of_string (P := Tryd.prog) X 9 27 5 b Tryd.underlying9 Tryd.underlying27 Tryd.underlying5, ⟨⟨X.heap.size, _, by rw [nums_length], hb.size, ?_, ?_, fun j c hc => ?_, fun j hj => ⟨?_, ?_⟩⟩, ?_⟩, ((Below.refl _ _).drew).alloc (Nat.le_refl _) _⟩
  · rw [alloc_size]; exact Nat.lt_succ_self _
  · rw [nums_length]; exact grownCap_ge _ _ _ _
  · have hj : j < b.size := by have := (List.getElem?_eq_some_iff.1 hc).1; rwa [nums_length] at this
    have e := (World.cell?_alloc_mark X.drew (bytesRow b (grownCap X b.size 0 5)) 5 ((bytesRow b (grownCap X b.size 0 5)).size, (bytesRow b (grownCap X b.size 0 5)).size + 1) j).trans (bytesRow_at b _ j hj)
    rw [nums_get b j hj] at hc
    rw [← Option.some.inj hc]
    exact e
  · have e := World.cell?_alloc_mark X.drew (bytesRow b (grownCap X b.size 0 5)) 5 ((bytesRow b (grownCap X b.size 0 5)).size, (bytesRow b (grownCap X b.size 0 5)).size + 1) j
    have hs : (bytesRow b (grownCap X b.size 0 5)).size = grownCap X b.size 0 5 := by
      have := grownCap_ge X b.size 0 5
      have hbs : b.data.size = b.size := rfl
      unfold bytesRow
      rw [Array.size_append, Array.size_map, Array.size_replicate, hbs]
      omega
    refine (congrArg Option.isSome e).trans ?_
    rw [Array.getElem?_eq_getElem (by rw [hs]; exact hj)]
    rfl
  · have hs : (bytesRow b (grownCap X b.size 0 5)).size = grownCap X b.size 0 5 := by
      have := grownCap_ge X b.size 0 5
      have hbs : b.data.size = b.size := rfl
      unfold bytesRow
      rw [Array.size_append, Array.size_map, Array.size_replicate, hbs]
      omega
    refine (World.frozen?_alloc_mark X.drew _ 5 _ _ j).trans ?_
    simp
    omega
  · exact below_alloc hb.drew _

/-- A byte appended. -/
theorem run_append_gm {w X : World} {v : Value} {l : List Nat} (ty : TypeId) (h : Gm w v l X) (hl : l.length < 1099511627776) (ad : Addr) (c : Nat) (hx : X.cell? (ad.add 0) = some (.int .u8 (c : Nat))) :
    ∃ v' X', (Builtin.append_ #[27, 27] ty #[v, .slice (some ad) 1 1]).run Tryd.prog X = .ok v' X' ∧ Gm w v' (l ++ [c]) X' := by
  obtain ⟨⟨g, cap, rfl, hg, hgl, hle, hc, hsp⟩, hb⟩ := h
  obtain ⟨i0, hi, hz0, hz1, hz2⟩ := info_parts infoByte
  have src : Src Tryd.prog i0.size 27 (.slice (some ad) 1 1) 1 [Value.int .u8 (c : Nat)] X := by
    rw [hz1]
    refine Src.ofSlice X Tryd.underlying27 ad 1 1 _ rfl (fun j u hu => ?_) (fun u hu => ?_)
    · match j with
      | 0 => simp at hu; subst hu; exact hx
      | j + 1 => simp at hu
    · simp at hu; subst hu; rfl
  by_cases hfit : l.length + 1 ≤ cap
  · have hrun := run_append_room_src (P := Tryd.prog) X 27 27 ty 5 i0 Tryd.underlying27 hi g 0 l.length cap _ 1 _ src hfit
      (fun j hj => by
        obtain rfl : j = 0 := by simpa using hj
        rw [hz1, show 0 + l.length * 1 + 0 = l.length by omega]; exact (hsp _ (by omega)).1)
      (fun j hj => by
        obtain rfl : j = 0 := by simpa using hj
        rw [hz1, show 0 + l.length * 1 + 0 = l.length by omega]; exact (hsp _ (by omega)).2)
    rw [hz1, show 0 + l.length * 1 = l.length by omega] at hrun
    refine ⟨_, _, hrun, ⟨g, cap, by rw [List.length_append]; rfl, hg, ?_, by rw [List.length_append]; exact hfit, fun j d hd => ?_, fun j hj => ⟨?_, ?_⟩⟩, ?_⟩
    · show g < (X.setCell _ _).heap.size
      simpa [World.setCell] using hgl
    · show (X.setCell ⟨g, l.length, none⟩ _).cell? _ = _
      by_cases e : j = l.length
      · subst e
        rw [List.getElem?_append_right (Nat.le_refl _), Nat.sub_self] at hd
        obtain rfl : c = d := by simpa using hd
        obtain ⟨z, hz⟩ := Option.isSome_iff_exists.1 (hsp l.length (by omega)).1
        exact World.cell?_setCell_same _ _ _ hz
      · rw [World.cell?_setCell_other _ _ _ _ (fun x => e (by injection x with _ x _; exact x.symm))]
        have hjl : j < l.length := by have := (List.getElem?_eq_some_iff.1 hd).1; rw [List.length_append, List.length_singleton] at this; omega
        rw [List.getElem?_append_left hjl] at hd
        exact hc j d hd
    · show ((X.setCell ⟨g, l.length, none⟩ _).cell? _).isSome = true
      by_cases e : j = l.length
      · subst e
        obtain ⟨z, hz⟩ := Option.isSome_iff_exists.1 (hsp l.length (by omega)).1
        rw [World.cell?_setCell_same _ _ _ hz]; rfl
      · rw [World.cell?_setCell_other _ _ _ _ (fun x => e (by injection x with _ x _; exact x.symm))]
        exact (hsp j hj).1
    · show (X.setCell ⟨g, l.length, none⟩ _).frozen? _ = false
      rw [World.frozen?_setCell]; exact (hsp j hj).2
    · exact hb.setCell hg _
  · have hold : (Builtin.firstCells i0.size l.length (.slice (some ⟨g, 0, none⟩) l.length cap)).run Tryd.prog X.drew = .ok (bCells l).toArray X.drew := by
      rw [hz1]
      refine run_firstCells_some X.drew 1 l.length ⟨g, 0, none⟩ l.length cap _ (by rw [bCells_length, Nat.mul_one]) (fun j u hu => ?_)
      have hjl : j < l.length := by have := (List.getElem?_eq_some_iff.1 hu).1; rwa [bCells_length] at this
      have e := hc j l[j] (List.getElem?_eq_getElem hjl)
      have eu : u = .int .u8 ((l[j] : Nat) : Int) := by
        simp only [bCells, List.getElem?_map, List.getElem?_eq_getElem hjl, Option.map_some, Option.some.injEq] at hu
        exact hu.symm
      rw [eu]
      have ea : (⟨g, 0, none⟩ : Addr).add j = ⟨g, j, none⟩ := by unfold Addr.add; split <;> simp_all
      rw [ea]
      exact e
    have hrun := run_append_grow_src (P := Tryd.prog) X 27 27 ty 5 i0 (.int .u8 0) Tryd.underlying27 hi hz0 (some ⟨g, 0, none⟩) l.length cap (bCells l) hold _ 1 _ src (by omega) (by omega) (growslice_fits (by omega) (by rw [hz2]; omega))
    have hge := grownCap_ge X (l.length + 1) cap 5
    obtain ⟨C, hC⟩ : ∃ C, C = grownCap X (l.length + 1) cap 5 := ⟨_, rfl⟩
    rw [← hC] at hrun hge
    have hrow : ((bCells l ++ [Value.int .u8 (c : Nat)]).toArray ++ Builtin.zeroCells (Value.int .u8 0).cells (C - (l.length + 1))).size = C := by
      rw [Array.size_append, List.size_toArray, List.length_append, bCells_length, List.length_singleton, size_zeroCells]
      show l.length + 1 + (C - (l.length + 1)) * 1 = C
      omega
    refine ⟨_, _, hrun, ⟨X.heap.size, C, by rw [List.length_append]; rfl, hb.size, ?_, by rw [List.length_append]; exact hge, fun j d hd => ?_, fun j hj => ⟨?_, ?_⟩⟩, ?_⟩
    · rw [alloc_size]; exact Nat.lt_succ_self _
    · have e1 : (X.drew.alloc (.cells ((bCells l ++ [Value.int .u8 (c : Nat)]).toArray ++ Builtin.zeroCells (Value.int .u8 0).cells (C - (l.length + 1))) 5)).cell? ⟨X.heap.size, j, none⟩ = _ := World.cell?_alloc_new X.drew _ _ j
      have hjl : j < (l ++ [c]).length := (List.getElem?_eq_some_iff.1 hd).1
      rw [e1, Array.getElem?_append_left (by rw [List.size_toArray, bCells_snoc, bCells_length]; exact hjl), List.getElem?_toArray, bCells_snoc]
      simp only [bCells, List.getElem?_map, hd, Option.map_some]
    · have e1 : (X.drew.alloc (.cells ((bCells l ++ [Value.int .u8 (c : Nat)]).toArray ++ Builtin.zeroCells (Value.int .u8 0).cells (C - (l.length + 1))) 5)).cell? ⟨X.heap.size, j, none⟩ = _ := World.cell?_alloc_new X.drew _ _ j
      rw [e1, Array.getElem?_eq_getElem (by rw [hrow]; exact hj)]
      rfl
    · exact World.frozen?_alloc_new X.drew _ _ j
    · exact below_alloc hb.drew _

theorem wpList_append_gm {ops : Array Oper} {rest : List Oper} {o : Oper} {a : Act} {Q : Exit → Act → World → Prop} (hgd : o.guard = none) (s x : Operand)
    (ho : o.op = .call { callee := .builtin .append, args := #[s, x], argTypes := #[27, 27] })
    {w X : World} {v : Value} {l : List Nat} (hs : a.eval s = v) (h : Gm w v l X) (hl : l.length < 1099511627776) (ad : Addr) (c : Nat) (hx : a.eval x = .slice (some ad) 1 1) (hcell : X.cell? (ad.add 0) = some (.int .u8 (c : Nat)))
    (hK : ∀ v' X', Gm w v' (l ++ [c]) X' → wpList Tryd.prog ops Q rest (a.put o.dst v') X') : wpList Tryd.prog ops Q (o :: rest) a X := by
  refine wpList_plain hgd fun K hK' => ?_
  obtain ⟨v', X', hrun, hg⟩ := run_append_gm o.type h hl ad c hcell
  unfold Oper.wp
  simp [execOp, ho, resolve, invoke, builtin, hs, hx, hrun, Result.andThen]
  exact hK' _ _ (hK v' X' hg)

theorem Gm.alloc {w X : World} {v : Value} {l : List Nat} (h : Gm w v l X) (o : Obj) : Gm w v l (X.alloc o) := by
  obtain ⟨⟨g, cap, hv, hg, hgl, hle, hc, hsp⟩, hb⟩ := h
  have e : (X.alloc o).heap[g]? = X.heap[g]? := heap_alloc_old _ _ hgl
  exact ⟨⟨g, cap, hv, hg, by rw [alloc_size]; omega, hle, fun j c hj => (World.cell?_of_block (a := ⟨g, j, none⟩) e).trans (hc j c hj), fun j hj => by
    rw [World.cell?_of_block (a := ⟨g, j, none⟩) e, World.frozen?_of_block (a := ⟨g, j, none⟩) e]; exact hsp j hj⟩, below_alloc hb o⟩

/-- What is begun with, for 512 bits. -/
def hs5 : List Nat := [7640891576956012808, 13503953896175478587, 4354685564936845355, 11912009170470909681, 5840696475078001361, 11170449401992604703, 2270897969802886507, 6620516959819538809]
/-- What is begun with, for 384 bits. -/
def hs3 : List Nat := [14680500436340154072, 7105036623409894663, 10473403895298186519, 1526699215303891257, 7436329637833083697, 10282925794625328401, 15784041429090275239, 5167115440072839076]

theorem hRef512 (w : World) : Calls Tryd.prog 24 #[.int .i64 512] w fun e w' => e = .returned (.agg (valsK .u64 hs5)) ∧ Below w.heap.size w w' := by
  go_enter Tryd.func24, Tryd.ntmps24
  go_wp2
  refine bodyPost_ret (results_cell_row rfl _ _ w.heap.size 49 (valsK .u64 hs5) (0, 0) _ rfl (heap_alloc_last w _) Tryd.underlying49 rfl row8_size_64) rfl ⟨rfl, (Below.refl _ _).alloc (Nat.le_refl _) _⟩
theorem hRef256 (w : World) : Calls Tryd.prog 24 #[.int .i64 256] w fun e w' => e = .returned (.agg (valsK .u64 hs5)) ∧ Below w.heap.size w w' := by
  go_enter Tryd.func24, Tryd.ntmps24
  go_wp2
  refine bodyPost_ret (results_cell_row rfl _ _ w.heap.size 49 (valsK .u64 hs5) (0, 0) _ rfl (heap_alloc_last w _) Tryd.underlying49 rfl row8_size_64) rfl ⟨rfl, (Below.refl _ _).alloc (Nat.le_refl _) _⟩
theorem hRef384 (w : World) : Calls Tryd.prog 24 #[.int .i64 384] w fun e w' => e = .returned (.agg (valsK .u64 hs3)) ∧ Below w.heap.size w w' := by
  go_enter Tryd.func24, Tryd.ntmps24
  go_wp2
  refine bodyPost_ret (results_cell_row rfl _ _ w.heap.size 49 (valsK .u64 hs3) (0, 0) _ rfl (heap_alloc_last w _) Tryd.underlying49 rfl row8_size_64) rfl ⟨rfl, (Below.refl _ _).alloc (Nat.le_refl _) _⟩

end Go.Proofs.YtfahmbkeibeceaaDoor
