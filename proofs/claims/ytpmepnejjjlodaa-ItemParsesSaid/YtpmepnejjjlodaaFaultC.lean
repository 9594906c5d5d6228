/-
  Contract of dromondref02.Fault at arrays that are not open. Conditions: at most 800 bytes.
-/
import Derived.Test.YtpmepnejjjlodaaFault
namespace Go.Proofs.Ytpmepnejjjlodaa
open Go.ChangeShapes Go.WideShapes Go.ChangeAt Go.RowKit
open Plain
set_option linter.unusedVariables false

/-- Behind the head that was read. -/
structure GB (w w1 : World) (z n : Nat) (o : Bool) (wr : World) : Prop where
  box : wr.heap[w1.heap.size]? = some (.cells #[.int .i64 z, .int .i64 4, .int .u64 n, .bool o] 61 (0, 0))
  below : Below w.heap.size w wr

theorem GB.next {w w1 : World} {z n : Nat} {o : Bool} {wr w' : World} (h : GB w w1 z n o wr) (hb : Below wr.heap.size wr w') : GB w w1 z n o w' :=
  ⟨(hb.block _ (lt_of_some h.box)).trans h.box, h.below.trans (hb.mono h.below.size)⟩
theorem GB.c2 {w w1 : World} {z n : Nat} {o : Bool} {wr : World} (h : GB w w1 z n o wr) : wr.cell? ⟨w1.heap.size, 2, none⟩ = some (.int .u64 n) := cell_of_row wr _ 2 _ _ _ h.box
theorem GB.c3 {w w1 : World} {z n : Nat} {o : Bool} {wr : World} (h : GB w w1 z n o wr) : wr.cell? ⟨w1.heap.size, 3, none⟩ = some (.bool o) := cell_of_row wr _ 3 _ _ _ h.box

theorem err_code {d : Nat} {t : List UInt8} (ht : t.length ≤ 140737488355328) {a : Nat} {c : Int} (h : readItem d t = .err a c) : c ≠ 0 ∧ a ≤ t.length := by
  have := read_good d t ht
  rw [h] at this
  obtain ⟨h1, h2⟩ := this
  exact ⟨by omega, h1⟩

theorem ok_used {d : Nat} {t : List UInt8} (ht : t.length ≤ 140737488355328) {x : It} {u : Nat} (h : readItem d t = .ok x u) : u ≤ t.length := by
  have := read_good d t ht
  rw [h] at this
  exact this.1

set_option maxHeartbeats 4000000 in
set_option maxRecDepth 100000 in
theorem fault_closed (d : Nat) (s : ByteArray) (hs : s.size ≤ 800) (hd : d ≤ 8)
    (ih : ∀ (w : World) (p : Nat), p ≤ s.size → Calls Try.prog 16 #[.string s, .int .i64 p, .int .i64 d] w (FaultPost p (readItem d (s.data.toList.drop p)) w))
    (w : World) (p : Nat) (hp : p ≤ s.size) (x : Hd) (hx : headL (s.data.toList.drop p) = some x) (hm : x.major = 4) (hop : x.op = false) (hn : x.n ≤ 1000) :
    Calls Try.prog 16 #[.string s, .int .i64 p, .int .i64 ((d + 1 : Nat) : Int)] w (FaultPost p (arrayRes false x.size (readMany (readItem d) x.n (s.data.toList.drop (p + x.size)))) w) := by
  have hr := fun W => read_at s p hs W
  rw [hx] at hr
  obtain ⟨z1, z9, zl, z7, z64, zop⟩ := headL_size hx
  rw [List.length_drop, size_data] at zl
  have HR := Lib.hid hr; clear hr hx
  have hpI : (p : Int) ≤ (s.size : Int) := by omega
  have hsI : (s.size : Int) ≤ 800 := by omega
  have HZ := Lib.hid z64; clear z64 zop
  obtain ⟨m, n, o, z⟩ := x
  simp only [] at *
  subst hm hop
  generalize hR : readMany (readItem d) n (s.data.toList.drop (p + z)) = R at *
  have HRR := Lib.hid hR; clear hR
  have IH := Lib.hid ih; clear ih
  obtain ⟨D, hD⟩ : ∃ D : Nat, D = d + 1 := ⟨_, rfl⟩
  rw [← hD]
  have gD : (D : Int) - 1 = (d : Int) := by omega
  have gD0 : ((D : Int) == 0) = false := by simp; omega
  have gD1 : ¬ D = 0 := by omega
  have gDI : (D : Int) ≤ 9 := by omega
  have HD := Lib.hid hD; clear hD
  have gz : ((z : Int) == 0) = false := by simp; omega
  have gz' : ¬ z = 0 := by omega
  have gn : decide ((1000 : Int) < (n : Int)) = false := by simp; omega
  have hnI : (n : Int) ≤ 1000 := by omega
  have hszI : (z : Int) ≤ 9 := by omega
  unfold FaultPost
  go_enter Try.func16, Try.ntmps16
  go_wp2_with fail
  refine (HR.out _).mono ?_
  rintro e w1 ⟨rfl, hb1⟩
  simp only [gotV]
  have H1 := Lib.hid (hb1.alloc hb1.size (.cells #[.int .i64 z, .int .i64 4, .int .u64 n, .bool false] 61)); clear hb1
  go_wp2
  go_loopw [9, 10] (fun E K wr => ∃ (q u j : Nat) (xs : List It), j ≤ n ∧ K = .int .i64 (j : Int) ∧ E = .int .i64 (q : Int) ∧ q = p + z + u ∧ xs.length = j ∧ q ≤ s.size ∧ R = shiftL xs u (readMany (readItem d) (n - j) (s.data.toList.drop q)) ∧ GB w w1 z n false wr) (fun _ K _ => n - (intOf K).toNat)
  case atStart =>
    refine ⟨p + z, 0, 0, [], Nat.zero_le _, rfl, by simp, rfl, rfl, by omega, ?_, ⟨heap_alloc_new w1 _, H1.out⟩⟩
    rw [← HRR.out]
    simp only [Nat.sub_zero]
    cases readMany (readItem d) n (s.data.toList.drop (p + z)) <;> simp [shiftL]
  case round =>
    obtain ⟨q, u, j, xs, hj, rfl, rfl, hq, hxj, hle, hRu, hgb⟩ := hrel
    have c2 := hgb.c2
    have c3 := hgb.c3
    have hqI : (q : Int) ≤ 800 := by omega
    have HQ := Lib.hid (And.intro hq hxj); clear hq hxj
    have HGB := Lib.hid hgb; clear hgb
    have hxl : (j : Int) ≤ 1000 := by omega
    have HRU := Lib.hid hRu; clear hRu
    by_cases hlt : j < n
    · have hltI : (j : Int) < (n : Int) := by omega
      have hltD : decide ((j : Int) < (n : Int)) = true := by simpa using hltI
      have g1000 : ((j : Int) == 1000) = false := by simp; omega
      have g1000' : ¬ j = 1000 := by omega
      have hdl : (s.data.toList.drop q).length ≤ 140737488355328 := by rw [List.length_drop, size_data]; omega
      have hdl2 : (s.data.toList.drop q).length = s.size - q := by rw [List.length_drop, size_data]
      have hstep : R = match readItem d (s.data.toList.drop q) with | .err a c => .err (u + a) c | .ok y k => shiftL (xs ++ [y]) (u + k) (readMany (readItem d) (n - (j + 1)) ((s.data.toList.drop q).drop k)) := by
        rw [HRU.out, show n - j = (n - (j + 1)) + 1 by omega, many_step]
        cases readItem d (s.data.toList.drop q) <;> rfl
      cases hri : readItem d (s.data.toList.drop q) with
      | err a c =>
        obtain ⟨hc, hal⟩ := err_code hdl hri
        obtain ⟨q', hq'⟩ : ∃ q' : Nat, q' = q + a := ⟨_, rfl⟩
        have hcall : Calls Try.prog 16 #[.string s, .int .i64 q, .int .i64 d] wr fun e w' => e = .returned (.tuple #[.int .i64 q', .int .i64 c]) ∧ Below wr.heap.size wr w' := by
          have := IH.out wr q hle
          rw [hri] at this
          rw [hq']
          exact this
        rw [hri] at hstep
        have HCALL := Lib.hid hcall; clear hcall
        have HSTEP := Lib.hid (And.intro hstep hq'); clear hstep hri hdl hdl2 hq'
        have gc : (c != 0) = true := by simpa using hc
        go_wp2_with fail
        refine HCALL.out.mono ?_
        rintro e w2 ⟨rfl, hb2⟩
        have HG2 := Lib.hid (HGB.out.next hb2); clear hb2
        go_wp2
        go_ret2
        refine ⟨?_, HG2.out.below⟩
        rw [HSTEP.out.1]
        simp only [arrayRes, resOf]
        rw [show p + (z + (u + a)) = q' by have h1 := HSTEP.out.2; have h2 := HQ.out.1; omega]
        rfl
      | ok y k =>
        have hku := ok_used hdl hri
        obtain ⟨q', hq'⟩ : ∃ q' : Nat, q' = q + k := ⟨_, rfl⟩
        have hcall : Calls Try.prog 16 #[.string s, .int .i64 q, .int .i64 d] wr fun e w' => e = .returned (.tuple #[.int .i64 q', .int .i64 0]) ∧ Below wr.heap.size wr w' := by
          have := IH.out wr q hle
          rw [hri] at this
          rw [hq']
          exact this
        rw [hri] at hstep
        have hqk : q' ≤ s.size := by omega
        have HCALL := Lib.hid hcall; clear hcall
        have HSTEP := Lib.hid (And.intro hstep (And.intro hq' hqk)); clear hstep hri hdl hdl2 hq' hqk
        go_wp2_with fail
        refine HCALL.out.mono ?_
        rintro e w2 ⟨rfl, hb2⟩
        have HG2 := Lib.hid (HGB.out.next hb2); clear hb2
        go_wp2
        go_roundw
        case rel =>
          refine ⟨_, _, _, _, _, _, _, _, _, _, _, _, _, _, _, _, _, _, _, _, _, _, _, _, _, _, _, _, _, _, _, _, _, _, _, _, _, _, _, _, _, _, _, _, _, _, _, _, _, ?_, rfl⟩
          refine ⟨q', u + k, j + 1, xs ++ [y], by omega, by go_num, rfl, ?_, ?_, HSTEP.out.2.2, ?_, HG2.out⟩
          · have h1 := HSTEP.out.2.1; have h2 := HQ.out.1; omega
          · have h2 := HQ.out.2; simp; omega
          · have h1 := HSTEP.out.1
            simp only [List.drop_drop] at h1
            rw [← HSTEP.out.2.1] at h1
            exact h1
        case measure => simp [intOf]; omega
    · have hltI : ¬ (j : Int) < (n : Int) := by omega
      have hltD : decide ((j : Int) < (n : Int)) = false := by simpa using hltI
      go_wp2
      go_ret2
      refine ⟨?_, HGB.out.below⟩
      rw [HRU.out, show n - j = 0 by omega]
      simp only [readMany, shiftL, arrayRes, resOf]
      rw [show p + (z + (u + 0)) = q by have h2 := HQ.out.1; omega]
      rfl

end Go.Proofs.Ytpmepnejjjlodaa
