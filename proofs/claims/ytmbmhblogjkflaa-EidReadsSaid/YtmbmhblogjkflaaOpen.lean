/-
  An item that came in lies in memory. Conditions: none.
-/
import Derived.Test.YtmbmhblogjkflaaCount
import Derived.SizedLaws
import Derived.ChangeArms
import Derived.Deep.Fields
import Derived.ChangeMaps5
import Derived.Carry
namespace Go.Proofs.Ytmbmhblogjkflaa
open Go.ChangeShapes Go.WideShapes Go.ChangeAt Go.RowKit Go.ChangeMaps
open Plain
set_option linter.unusedVariables false

theorem list_of {α : Type} (P : Nat → α → Prop) : ∀ (len : Nat), (∀ i, i < len → ∃ x, P i x) → ∃ l : List α, l.length = len ∧ ∀ i y, l[i]? = some y → P i y
  | 0, _ => ⟨[], rfl, fun i y h => by simp at h⟩
  | n + 1, h => by
    obtain ⟨l, hl, hp⟩ := list_of P n (fun i hi => h i (by omega))
    obtain ⟨x, hx⟩ := h n (by omega)
    refine ⟨l ++ [x], by simp [hl], fun i y hi => ?_⟩
    by_cases hlt : i < l.length
    · rw [List.getElem?_append_left hlt] at hi
      exact hp i y hi
    · rw [List.getElem?_append_right (by omega)] at hi
      by_cases he : i - l.length = 0
      · rw [he] at hi
        simp at hi
        subst hi
        have : i = n := by omega
        subst this
        exact hx
      · obtain ⟨j, hj⟩ : ∃ j, i - l.length = j + 1 := ⟨i - l.length - 1, by omega⟩
        rw [hj] at hi
        simp at hi

theorem block_lt {w : World} {a : Addr} {v : Value} (h : w.cell? a = some v) : a.block < w.heap.size := by
  rcases Nat.lt_or_ge a.block w.heap.size with h1 | h1
  · exact h1
  · simp [World.cell?, Array.getElem?_eq_none h1] at h

theorem add_none {a : Addr} (h : a.spot = none) (n : Nat) : a.add n = ⟨a.block, a.off + n, none⟩ := by
  obtain ⟨b, o, sp⟩ := a
  simp only [] at h
  subst h
  unfold Addr.add
  split
  · rename_i h0; subst h0; rfl
  · rfl

theorem weightsAll_mem {H : Type} {P : Program} {e : TypeId} : ∀ {l : List (DataW H)} {d : DataW H} {n : Nat}, d ∈ l → n ∈ d.weights P e → n ∈ DataW.weightsAll P e l
  | x :: r, d, n, hd, hn => by
    simp only [DataW.weightsAll, List.mem_append]
    rcases List.mem_cons.1 hd with rfl | h
    · exact .inl hn
    · exact .inr (weightsAll_mem h hn)
  | [], _, _, hd, _ => by cases hd

theorem Try.cells25 : Try.prog.cellsOf 25 = 5 := by kernel_rfl
theorem Try.cells3 : Try.prog.cellsOf 3 = 1 := by kernel_rfl
theorem Try.cells22 : Try.prog.cellsOf 22 = 1 := by kernel_rfl
theorem Try.cells9 : Try.prog.cellsOf 9 = 1 := by kernel_rfl
theorem Try.cells23 : Try.prog.cellsOf 23 = 1 := by kernel_rfl
theorem Try.cells4 : Try.prog.cellsOf 4 = 1 := by kernel_rfl
theorem Try.bytes25 : Try.prog.bytesOf 25 = 64 := by kernel_rfl

theorem reach_small {n : Nat} (h : n ≤ reachBytes) : n ≤ 140737488355328 := by
  have := reachBytes_lt
  omega

/-- The cells of an item. -/
def cellsIt (it : It) (sl : Value) : List Value := [.int .i64 it.kind, .int .u64 it.n, .string it.s, sl, .bool it.opn]

theorem spot_of {w : World} {a : Addr} {cs : List Value} (hc : w.cells? 0 (a.add (0 * 5)) 5 = some cs) : a.spot = none := by
  obtain ⟨_, hl, hat⟩ := World.cells?_some hc
  have h0 := hat 0 (by omega)
  rw [List.getElem?_eq_getElem (by omega)] at h0
  have := World.cell?_spot h0
  simpa [Addr.add] using this

theorem at5_of {w : World} {a : Addr} {i : Nat} {cs : List Value} {it : It} {sl : Value} (hsp : a.spot = none) (hc : w.cells? 0 (a.add (i * 5)) 5 = some cs) (he : cs = cellsIt it sl) :
    ∃ b off, a = ⟨b, off, none⟩ ∧ b < w.heap.size ∧ At5 w b (off + i * 5) it sl := by
  obtain ⟨_, hl, hat⟩ := World.cells?_some hc
  subst he
  rw [add_none hsp] at hat
  have hat' : ∀ j u, j < 5 → (cellsIt it sl)[j]? = some u → w.cell? ⟨a.block, a.off + i * 5 + j, none⟩ = some u := by
    intro j u hj hu
    have := hat j hj
    rw [add_none rfl] at this
    exact this.trans hu
  refine ⟨a.block, a.off, ?_, ?_, ?_⟩
  · obtain ⟨b, o, sp⟩ := a
    simp only [] at hsp
    subst hsp
    rfl
  · exact block_lt (a := ⟨a.block, a.off + i * 5 + 0, none⟩) (hat' 0 _ (by omega) rfl)
  · exact ⟨hat' 0 _ (by omega) rfl, hat' 1 _ (by omega) rfl, hat' 2 _ (by omega) rfl, hat' 3 _ (by omega) rfl, hat' 4 _ (by omega) rfl⟩

set_option maxRecDepth 100000 in
theorem open_item {H : Type} {enc : TypeId × Value → H} {W : World} {spare : Nat → Bool} : ∀ (fuel : Nat) (cs : List Value) (x : DataW H × List MemPlace),
    DataW.trod enc Try.prog W 0 spare true fuel 25 cs = some x → (∀ n ∈ x.1.weights Try.prog 25, n ≤ reachBytes) →
    ∃ it A cap, cs = cellsIt it (.slice A it.l.length cap) ∧ Lies W W.heap.size it (itV it (.slice A it.l.length cap)) := by
  intro fuel
  induction fuel using Nat.strongRecOn with
  | ind fuel ih =>
  intro cs x h hw
  obtain ⟨xs, n, rfl, rfl, hl, hlen, hf⟩ := DataW.trod_struct Try.underlying25 h
  rw [Try.cells25] at hl
  match cs, hl with
  | [c0, c1, c2, c3, c4], _ =>
  match xs, hlen with
  | [y0, y1, y2, y3, y4], _ =>
  have h0 : DataW.trod enc Try.prog W 0 spare true n 3 [c0] = some y0 := by have := hf 0 _ rfl; simpa [Try.cells3] using this
  have h1 : DataW.trod enc Try.prog W 0 spare true n 22 [c1] = some y1 := by have := hf 1 _ rfl; simpa [Try.cells22] using this
  have h2 : DataW.trod enc Try.prog W 0 spare true n 9 [c2] = some y2 := by have := hf 2 _ rfl; simpa [Try.cells9] using this
  have h3 : DataW.trod enc Try.prog W 0 spare true n 23 [c3] = some y3 := by have := hf 3 _ rfl; simpa [Try.cells23] using this
  have h4 : DataW.trod enc Try.prog W 0 spare true n 4 [c4] = some y4 := by have := hf 4 _ rfl; simpa [Try.cells4] using this
  obtain ⟨k, hk, hy0, wk⟩ := DataW.trod_int Try.underlying3 h0
  obtain ⟨m, hm, hy1, wm⟩ := DataW.trod_int Try.underlying22 h1
  obtain ⟨s, hs, hy2, ws⟩ := DataW.trod_string Try.underlying9 h2
  obtain ⟨o, ho, hy4⟩ := DataW.trod_bool Try.underlying4 h4
  injection hk with hk _
  injection hm with hm _
  injection hs with hs _
  injection ho with ho _
  subst hk hm hs ho hy0 hy1 hy2 hy4
  have hk' : -9223372036854775808 ≤ k ∧ k ≤ 9223372036854775807 := by simpa [Lit.wf, IntKind.min, IntKind.max, IntKind.signed, IntKind.bits] using wk
  have hm' : 0 ≤ m ∧ m ≤ 18446744073709551615 := by simpa [Lit.wf, IntKind.min, IntKind.max, IntKind.signed, IntKind.bits] using wm
  have hmn : ((m.toNat : Nat) : Int) = m := by omega
  simp only [DataW.weights, Try.underlying25, List.map_cons, List.map_nil, DataW.weightsEach, List.mem_append] at hw
  have hss : s.size ≤ 140737488355328 := by
    have hq : s.data.toList.length = s.size := by simp
    exact Nat.le_trans (Nat.le_of_eq hq.symm) (reach_small (hw _ (.inr (.inr (.inl (List.mem_cons_self))))))
  have hw3 : ∀ n ∈ y3.1.weights Try.prog 23, n ≤ reachBytes := fun n hn => hw n (.inr (.inr (.inr (.inl hn))))
  clear hw
  rcases DataW.trod_slice Try.underlying23 h3 with ⟨hc3, hy3⟩ | ⟨a, len, cap, elems, rest, n', rfl, hc3, hy3, _, hlc, hcm, helen, hel, _, _⟩
  · injection hc3 with hc3 _
    subst hc3
    refine ⟨.mk k m.toNat s [] o, none, 0, ?_, ?_⟩
    · simp only [cellsIt, It.kind, It.n, It.s, It.l, It.opn, List.length_nil, hmn]
    · exact .mk (.mk k m.toNat s [] o) none 0 (fun _ => .slice none 0 0) ⟨hk'.1, hk'.2, by simp only [It.n]; omega, hss, by simp [It.l]⟩ (fun i y h => by simp [It.l] at h) (fun i y h => by simp [It.l] at h)
  · injection hc3 with hc3 _
    subst hc3
    rw [hy3] at hw3
    simp only [DataW.weights, Try.underlying23, List.mem_cons, List.mem_append, Try.bytes25, List.length_map] at hw3
    have hlen' : len ≤ 140737488355328 := by
      have := reach_small (hw3 _ (.inl rfl))
      omega
    have hel' : ∀ i, i < len → ∃ p : It × Value, (∃ b off, a = ⟨b, off, none⟩ ∧ b < W.heap.size ∧ At5 W b (off + i * 5) p.1 p.2) ∧ Lies W W.heap.size p.1 (itV p.1 p.2) := by
      intro i hi
      have hb := hel i hi
      rw [Try.cells25, List.getElem?_eq_getElem (by omega)] at hb
      obtain ⟨cs', hcs, htr⟩ := Option.bind_eq_some_iff.1 hb
      have hmem : elems[i].1 ∈ elems.map (·.1) := List.mem_map_of_mem (List.getElem_mem _)
      obtain ⟨it, A', cap', he, hlies⟩ := ih n' (by omega) cs' _ htr (fun q hq => hw3 q (.inr (.inl (weightsAll_mem hmem hq))))
      have hsp : a.spot = none := by
        have hb0 := hel 0 (by omega)
        rw [Try.cells25, List.getElem?_eq_getElem (by omega)] at hb0
        obtain ⟨cs0, hcs0, _⟩ := Option.bind_eq_some_iff.1 hb0
        exact spot_of hcs0
      exact ⟨(it, _), at5_of hsp hcs he, hlies⟩
    obtain ⟨l, hl, hp⟩ := list_of _ len hel'
    have hll : (l.map (·.1)).length = len := by simp [hl]
    refine ⟨.mk k m.toNat s (l.map (·.1)) o, some a, cap, ?_, ?_⟩
    · simp only [cellsIt, It.kind, It.n, It.s, It.l, It.opn, hmn, hll]
    · refine .mk (.mk k m.toNat s (l.map (·.1)) o) (some a) cap (fun i => ((l[i]?).map (·.2)).getD (.bool false)) ⟨hk'.1, hk'.2, by simp only [It.n]; omega, hss, by simp only [It.l, hll]; exact hlen'⟩ ?_ ?_
      · intro i y hi
        simp only [It.l, List.getElem?_map, Option.map_eq_some_iff] at hi
        obtain ⟨q, hq, rfl⟩ := hi
        obtain ⟨⟨b, off, ha, hb, h5⟩, _⟩ := hp i q hq
        refine ⟨b, off, by rw [ha], hb, ?_⟩
        simpa [hq] using h5
      · intro i y hi
        simp only [It.l, List.getElem?_map, Option.map_eq_some_iff] at hi
        obtain ⟨q, hq, rfl⟩ := hi
        obtain ⟨_, hlies⟩ := hp i q hq
        simpa [hq] using hlies

end Go.Proofs.Ytmbmhblogjkflaa
