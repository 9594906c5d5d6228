/-
  Contracts of slices.Delete at one entry, and of table's remove. Conditions: the table is in order, and the entry is there.
-/
import Derived.Test.YtelgglnamojegaaTab
import Derived.Deep.RegionLaw
import Derived.Lib.SliceRun
import Derived.Deep.Upon
namespace Go.Proofs.Ytelgglnamojegaa.Ic
open Go.ChangeShapes Go.WideShapes Go.ChangeAt Go.RowKit
set_option linter.unusedVariables false

theorem infoEntry : (Try.prog.info? 75).map (fun i => (i.zero, i.size, i.bytes)) = some (some (.agg #[(.string ⟨#[]⟩), (.bool false)]), 2, 24) := by kernel_rfl
theorem zeroEntry (w : World) : (zeroValue 75).run Try.prog w = .ok (.agg #[(.string ⟨#[]⟩), (.bool false)]) w := by kernel_rfl

/-- clear at one entry. -/
theorem clear_one (w : World) (ty : TypeId) (b o c : Nat) (hc : ∀ j, j < 2 → (w.cell? ⟨b, o + j, none⟩).isSome = true) (hf : ∀ j, j < 2 → w.frozen? ⟨b, o + j, none⟩ = false) :
    (Builtin.clear_ #[66] ty #[.slice (some ⟨b, o, none⟩) 1 c]).run Try.prog w = .ok (.tuple #[]) (w.setCells b o [(.string ⟨#[]⟩), (.bool false)]) := by
  have hst := run_storeCells_cells (P := Try.prog) b o [(.string ⟨#[]⟩), (.bool false)] 0 w (by simpa using hc) (by simpa using hf) (by intro v hv'; simp at hv'; rcases hv' with rfl | rfl <;> rfl)
  simp only [Nat.add_zero] at hst
  have hzc : (Builtin.zeroCells (Value.agg #[(.string ⟨#[]⟩), (.bool false)]).cells 1).toList = [(.string ⟨#[]⟩), (.bool false)] := by kernel_rfl
  simp [Builtin.clear_, run_underlying Try.underlying66, hzc, hst]

set_option maxHeartbeats 2000000 in
set_option maxRecDepth 1000000 in
/-- slices.Delete at one entry. -/
theorem delete_any (g cap i m : Nat) (cur : Array Value) (w : World) (hg : w.heap[g]? = some (.cells cur 75 (0, 0))) (hsz : cur.size = cap * 2) (hi : i ≤ m) (hm : m + 1 ≤ cap) (hcap : cap ≤ 9223372036854775807)
    (h1 : ∀ u ∈ cur.toList.take ((m + 1) * 2), u.oneCell' = true) :
    Calls Try.prog 43 #[.slice (some ⟨g, 0, none⟩) (m + 1) cap, .int .i64 i, .int .i64 (i + 1 : Nat)] w fun e w' => e = .returned (.slice (some ⟨g, 0, none⟩) m cap) ∧
      w' = (w.drew.setCells g (i * 2) ((cur.toList.drop ((i + 1) * 2)).take ((m - i) * 2))).setCells g (m * 2) [(.string ⟨#[]⟩), (.bool false)] := by
  obtain ⟨i0, hi0, hz0, hz1, hz2⟩ := info_parts infoEntry
  obtain ⟨news, hnews⟩ : ∃ news, news = (cur.toList.drop ((i + 1) * 2)).take ((m - i) * 2) := ⟨_, rfl⟩
  rw [← hnews]
  have hlen : news.length = (m - i) * 2 := by rw [hnews]; simp; omega
  obtain ⟨A, hA, hsrc⟩ : ∃ A : Addr, (if cap = i + 1 then some (⟨g, 0, none⟩ : Addr) else some ⟨g, (i + 1) * 2, none⟩) = some A ∧ Hid (∀ t u, news[t]? = some u → w.drew.cell? (A.add t) = some u) := by
    by_cases h : cap = i + 1
    · refine ⟨⟨g, 0, none⟩, by simp [h], fun t u hu => ?_⟩
      have h0 : news.length = 0 := by rw [hlen]; omega
      rw [List.length_eq_zero_iff.1 h0] at hu
      simp at hu
    · refine ⟨⟨g, (i + 1) * 2, none⟩, by simp [h], fun t u hu => ?_⟩
      rw [Addr.add_lit]
      refine (cell_of_row w g _ _ _ _ hg).trans ?_
      rw [hnews, List.getElem?_take] at hu
      split at hu
      · rw [List.getElem?_drop] at hu
        simpa using hu
      · cases hu
  have s1 : Hid (news.length = (m - i) * 2) := hlen
  have s2 : Hid (∀ u ∈ news, u.oneCell' = true) := by
    intro u hu
    rw [hnews, show (m - i) * 2 = (m + 1) * 2 - (i + 1) * 2 by omega, ← List.drop_take] at hu
    exact h1 u (List.mem_of_mem_drop hu)
  have s3 : Hid (∀ t, t < news.length → (w.drew.cell? ⟨g, 0 + i * 2 + t, none⟩).isSome = true ∧ w.drew.frozen? ⟨g, 0 + i * 2 + t, none⟩ = false) := by
    intro t ht
    rw [hlen] at ht
    refine ⟨?_, free_of_block (w := w.drew) hg _⟩
    rw [cell_of_row w.drew g _ _ _ _ hg]
    rw [Array.getElem?_eq_getElem (by rw [hsz]; omega)]
    rfl
  obtain ⟨W1, hW1⟩ : ∃ W1, W1 = w.drew.setCells g (0 + i * 2) news := ⟨_, rfl⟩
  have hg1 : W1.heap[g]? = some (.cells (overs cur (0 + i * 2) news) 75 (0, 0)) := by rw [hW1]; exact setCells_block news w.drew _ _ hg
  have hcl : ∀ ty c, (Builtin.clear_ #[66] ty #[.slice (some ⟨g, m * 2, none⟩) 1 c]).run Try.prog W1 = .ok (.tuple #[]) (W1.setCells g (m * 2) [(.string ⟨#[]⟩), (.bool false)]) := fun ty c => clear_one W1 ty g (m * 2) c
    (fun j hj => by rw [cell_of_row _ _ _ _ _ _ hg1, Array.getElem?_eq_getElem (by rw [overs_size, hsz]; omega)]; rfl) (fun j hj => free_of_block hg1 _)
  have hW : Hid (W1 = w.drew.setCells g (0 + i * 2) news) := hW1
  have hic : i ≤ cap := by omega
  have hjc : i + 1 ≤ cap := by omega
  have hij : (i : Int) ≤ ((i + 1 : Nat) : Int) := by omega
  have hne : ((i : Int) == ((i + 1 : Nat) : Int)) = false := by simp; omega
  clear hW1 hg1 hnews hlen h1 hg hsz
  have e1 : m - i = m + 1 - (i + 1) := by omega
  rw [e1] at s1
  have e2 : m + 1 - m = 1 := by omega
  generalize hJ : i + 1 = j at *
  generalize hN : m + 1 = n at *
  have hjn : j ≤ n := by omega
  have hmn : m ≤ n := by omega
  have hel : i + (n - j) = m := by omega
  have hnc : n ≤ cap := by omega
  have hmz : (m : Int) ≤ (n : Int) := by omega
  have HJ := Lib.hid hJ; clear hJ
  have HN := Lib.hid hN; clear hN
  clear e1
  go_enter Try.func43, Try.ntmps43
  go_wp2_with fail
  go_region_law (refine step_append_room rfl (.tmp 22) (.tmp 25) 66 rfl 75 i0 2 Try.underlying66 hi0 hz1 g 0 i cap (by simp [Act.eval, Act.put]) A (n - j) (cap - j) news (by simp [Act.eval, Act.put]) s1.out hsrc.out s2.out (by omega) s3.out ?_; rw [← hW.out, hel])
  go_wp2
  go_ret
  refine ⟨rfl, ?_⟩
  rw [hW.out, Nat.zero_add]

/-- What is left of the entries' cells. -/
theorem left_cells {cap i m : Nat} {cur : Array Value} {es : List (ByteArray × Bool)} {z : List Value} (hsz : cur.size = cap * 2) (hi : i ≤ m) (hm : m + 1 ≤ cap) (hes : es.length = m + 1) (hz : z.length = 2)
    (ht : cur.toList.take ((m + 1) * 2) = flat Value.string Value.bool es) :
    (overs (overs cur (i * 2) ((cur.toList.drop ((i + 1) * 2)).take ((m - i) * 2))) (m * 2) z).toList.take (m * 2) = flat Value.string Value.bool (es.eraseIdx i) := by
  have hl : ((cur.toList.drop ((i + 1) * 2)).take ((m - i) * 2)).length = (m - i) * 2 := by simp; omega
  rw [overs_list _ _ _ (by rw [overs_size, hsz, hz]; omega), List.append_assoc, List.take_append_of_le_length (by rw [List.length_take, Array.length_toList, overs_size, hsz]; omega), List.take_take, Nat.min_self]
  rw [overs_list _ _ _ (by rw [hl, hsz]; omega), List.take_append_of_le_length (by rw [List.length_append, List.length_take, Array.length_toList, hl, hsz]; omega)]
  rw [List.take_of_length_le (by rw [List.length_append, List.length_take, Array.length_toList, hl, hsz]; omega)]
  rw [List.eraseIdx_eq_take_drop_succ, flat_append, flat_take, flat_drop, ← ht, List.take_take, List.drop_take, Nat.min_eq_left (by omega)]
  congr 2
  omega

theorem one_flat (es : List (ByteArray × Bool)) : ∀ u ∈ flat Value.string Value.bool es, u.oneCell' = true := by
  induction es with
  | nil => intro u hu; simp [flat] at hu
  | cons e r ih =>
    intro u hu
    simp only [flat, List.mem_cons] at hu
    rcases hu with rfl | rfl | hu
    · rfl
    · rfl
    · exact ih u hu

set_option maxHeartbeats 1000000 in
/-- (*Table).remove. -/
theorem remove_any (b : Nat) (v : Value) (most : Nat) (es : List (ByteArray × Bool)) (i : Nat) (w : World) (h : Tab 68 75 Value.string Value.bool w b v most es) (hi : i < es.length) :
    Calls Try.prog 29 #[.pointer (some ⟨b, 0, none⟩), .int .i64 i] w fun e w' => e = .returned (.tuple #[]) ∧ ∃ v', Tab 68 75 Value.string Value.bool w' b v' most (es.eraseIdx i) ∧ v'.ownBlock = v.ownBlock ∧ Chg (Own2 b v) w w' := by
  rcases h.form with ⟨rfl, rfl⟩ | ⟨g, cap, cur, rfl, hne, hg, hcap, hm, hsz, htake⟩
  · simp at hi
  · obtain ⟨m, hes⟩ : ∃ m, es.length = m + 1 := ⟨es.length - 1, by omega⟩
    have hdel := delete_any g cap i m cur w hg hsz (by omega) (by omega) hm (by rw [← hes, htake]; exact one_flat es)
    obtain ⟨w1, hw1⟩ : ∃ w1, w1 = (w.drew.setCells g (i * 2) ((cur.toList.drop ((i + 1) * 2)).take ((m - i) * 2))).setCells g (m * 2) [(.string ⟨#[]⟩), (.bool false)] := ⟨_, rfl⟩
    rw [← hw1] at hdel
    have hg1 : w1.heap[g]? = some (.cells (overs (overs cur (i * 2) ((cur.toList.drop ((i + 1) * 2)).take ((m - i) * 2))) (m * 2) [(.string ⟨#[]⟩), (.bool false)]) 75 (0, 0)) := by
      rw [hw1]
      exact setCells_block _ _ _ _ (setCells_block _ w.drew _ _ hg)
    have hch : Chg (fun k => k = g) w w1 := by
      rw [hw1]
      exact ((Chg.refl (fun k => k = g) w).drew.trans (setCells_chg _ _ _) (fun _ _ e => e)).trans (setCells_chg _ _ _) (fun _ _ e => e)
    have htab : w1.heap[b]? = some (.cells #[.int .i64 most, .slice (some ⟨g, 0, none⟩) es.length cap] 68 (0, 0)) := (hch.block b h.lt (fun e => hne e.symm)).trans h.tab
    have hlen : (es.eraseIdx i).length = m := by rw [List.length_eraseIdx_of_lt hi]; omega
    have hrow : w1.ownsRow 0 75 2 (.slice (some ⟨g, 0, none⟩) m cap) (es.eraseIdx i).length (flat Value.string Value.bool (es.eraseIdx i)) := by
      rw [hlen]
      refine ⟨by rw [flat_length, hlen], .inr ⟨g, cap, _, rfl, Nat.zero_le _, hg1, by omega, by unfold maxLen; omega, by rw [overs_size, overs_size, hsz], ?_⟩⟩
      exact left_cells hsz (by omega) (by omega) hes rfl (by rw [← hes]; exact htake)
    have hend := Tab.slice htab hrow (fun e => by simp [Value.ownBlock] at e; exact hne e) (by have := h.few; omega) h.cap
    have c1 := h.cell1
    have hch2 : Chg (Own2 b (.slice (some ⟨g, 0, none⟩) es.length cap)) w (w1.setCell ⟨b, 1, none⟩ (.slice (some ⟨g, 0, none⟩) m cap)) :=
      (hch.mono (S' := Own2 b (.slice (some ⟨g, 0, none⟩) es.length cap)) (fun k _ e => by subst e; exact .inr rfl)).set (fun _ => .inl rfl) 1 _
    have c1' : w1.cell? ⟨b, 1, none⟩ = some (.slice (some ⟨g, 0, none⟩) es.length cap) := cell_of_row _ _ 1 _ _ _ htab
    have f1' := free_of_block htab 1
    have hwr : IntKind.i64.wrap ((i : Int) + 1) = ((i + 1 : Nat) : Int) := by rw [IntKind.wrap_i64]; omega
    have hi2 : (i : Int) ≤ 9223372036854775806 := by omega
    rw [← hes] at hdel
    have HD := Lib.hid hdel; clear hdel
    have HE := Lib.hid hend; clear hend
    have HC := Lib.hid hch2; clear hch2
    clear hw1 hg1 hch htab hrow htake hsz h hg
    have HL := Lib.hid hlen; clear hlen
    generalize hN : es.length = n at *
    have HN := Lib.hid hN; clear hN
    have HS := Lib.hid hes; clear hes
    go_enter Try.func29, Try.ntmps29
    go_wp2_with fail
    refine HD.out.mono ?_
    rintro e w' ⟨rfl, rfl⟩
    go_wp2
    go_end0
    exact ⟨rfl, _, HE.out, rfl, HC.out⟩

end Go.Proofs.Ytelgglnamojegaa.Ic
