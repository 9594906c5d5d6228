/-
  The walk of ItemDeep. Conditions: none.
-/
import Derived.Test.YtpmepnejjjlodaaNest
namespace Go.Proofs.Ytpmepnejjjlodaa
open Go.ChangeShapes Go.WideShapes Go.ChangeAt Go.RowKit
open Plain
set_option linter.unusedVariables false

/-- The array in the making, in block xb; its slices in other blocks. -/
structure Nst (w : World) (xb : Nat) (x : It) (sl : Value) (wr : World) : Prop where
  box : wr.heap[xb]? = some (.cells #[.int .i64 x.kind, .int .u64 x.n, .string x.s, sl, .bool x.opn] 25 (0, 0))
  lies : LiesIn wr (fun k => k < wr.heap.size ∧ k ≠ xb) x (itV x sl)
  below : Below w.heap.size w wr
  old : w.heap.size ≤ xb

section
variable {w : World} {xb : Nat} {x : It} {sl : Value} {wr : World}
theorem Nst.lt (h : Nst w xb x sl wr) : xb < wr.heap.size := lt_of_some h.box
theorem Nst.c0 (h : Nst w xb x sl wr) : wr.cell? ⟨xb, 0, none⟩ = some (.int .i64 x.kind) := cell_of_row wr _ 0 _ _ _ h.box
theorem Nst.c1 (h : Nst w xb x sl wr) : wr.cell? ⟨xb, 1, none⟩ = some (.int .u64 x.n) := cell_of_row wr _ 1 _ _ _ h.box
theorem Nst.c2 (h : Nst w xb x sl wr) : wr.cell? ⟨xb, 2, none⟩ = some (.string x.s) := cell_of_row wr _ 2 _ _ _ h.box
theorem Nst.c3 (h : Nst w xb x sl wr) : wr.cell? ⟨xb, 3, none⟩ = some sl := cell_of_row wr _ 3 _ _ _ h.box
theorem Nst.c4 (h : Nst w xb x sl wr) : wr.cell? ⟨xb, 4, none⟩ = some (.bool x.opn) := cell_of_row wr _ 4 _ _ _ h.box
theorem Nst.cf (h : Nst w xb x sl wr) (i : Nat) : wr.frozen? ⟨xb, i, none⟩ = false := free5 h.box i
end

/-- One array more around it. -/
theorem Nst.wrap {w : World} {xb : Nat} {o : Bool} {j : Nat} {sl : Value} {wr F : World} (h : Nst w xb (nest o j) sl wr)
    (hF : F = ((((((wr.setCell ⟨xb, 0, none⟩ (.int .i64 4)).setCell ⟨xb, 1, none⟩ (.int .u64 0)).setCell ⟨xb, 2, none⟩ (.string ⟨#[]⟩)).setCell ⟨xb, 3, none⟩ (.slice (some ⟨wr.heap.size, 0, none⟩) 1 1)).setCell ⟨xb, 4, none⟩ (.bool o)).alloc (.cells #[.int .i64 (nest o j).kind, .int .u64 (nest o j).n, .string (nest o j).s, sl, .bool (nest o j).opn] 25))) :
    Nst w xb (nest o (j + 1)) (.slice (some ⟨wr.heap.size, 0, none⟩) 1 1) F := by
  generalize hG : ((((wr.setCell ⟨xb, 0, none⟩ (.int .i64 4)).setCell ⟨xb, 1, none⟩ (.int .u64 0)).setCell ⟨xb, 2, none⟩ (.string ⟨#[]⟩)).setCell ⟨xb, 3, none⟩ (.slice (some ⟨wr.heap.size, 0, none⟩) 1 1)).setCell ⟨xb, 4, none⟩ (.bool o) = G at *
  obtain ⟨_, hoth, hbel, hgb⟩ := set5_end h.box _ _ _ _ _ G hG.symm
  have hsz : G.heap.size = wr.heap.size := by rw [← hG]; simp [World.setCell]
  clear hG
  subst hF
  have hlt := h.lt
  have hnew := heap_alloc_new G (.cells #[.int .i64 (nest o j).kind, .int .u64 (nest o j).n, .string (nest o j).s, sl, .bool (nest o j).opn] 25)
  rw [hsz] at hnew
  have hkeep : ∀ k, k < wr.heap.size → k ≠ xb → (G.alloc (.cells #[.int .i64 (nest o j).kind, .int .u64 (nest o j).n, .string (nest o j).s, sl, .bool (nest o j).opn] 25)).heap[k]? = wr.heap[k]? := fun k h1 h2 => (Below.heap_alloc _ _ _ (by omega)).trans (hoth k h2)
  refine ⟨?_, ?_, ?_, h.old⟩
  · rw [Below.heap_alloc _ _ _ (by omega)]
    exact hgb
  · refine .mk (nest o (j + 1)) (some ⟨wr.heap.size, 0, none⟩) 1 (fun _ => sl) ⟨by simp only [nest, It.kind]; decide, by simp only [nest, It.kind]; decide, by simp only [nest, It.n]; decide, by simp only [nest, It.s]; decide, by simp [nest, It.l]⟩ ?_ ?_
    · intro i y hi
      cases i with
      | zero =>
        simp [nest, It.l] at hi
        subst hi
        refine ⟨wr.heap.size, 0, rfl, ⟨by simp [hsz], by omega⟩, ?_⟩
        exact ⟨cell_of_row _ _ 0 _ _ _ hnew, cell_of_row _ _ 1 _ _ _ hnew, cell_of_row _ _ 2 _ _ _ hnew, cell_of_row _ _ 3 _ _ _ hnew, cell_of_row _ _ 4 _ _ _ hnew⟩
      | succ i => simp [nest, It.l] at hi
    · intro i y hi
      cases i with
      | zero =>
        simp [nest, It.l] at hi
        subst hi
        refine h.lies.keep ?_
        rintro k ⟨k1, k2⟩
        exact ⟨hkeep k k1 k2, by simp [hsz]; omega, k2⟩
      | succ i => simp [nest, It.l] at hi
  · exact (h.below.trans (hbel _ h.old)).alloc (by rw [hsz]; exact h.below.size) _

theorem parse_nest_no (o : Bool) (j : Nat) (h8 : 8 ≤ j) (h20 : j ≤ 20) (w : World) :
    Calls Try.prog 14 #[.string ⟨(bytesOf (nest o j)).toArray⟩] w fun e w' => ∃ A cap, e = .returned (.tuple #[.agg #[.int .i64 0, .int .u64 0, .string ⟨#[]⟩, .slice A 0 cap, .bool false], .int .i64 8, .int .i64 3]) ∧ Below w.heap.size w w' := by
  have hsz : (⟨(bytesOf (nest o j)).toArray⟩ : ByteArray).size = (bytesOf (nest o j)).length := by show (bytesOf (nest o j)).toArray.size = _; simp
  have hl := nest_len o j
  refine (parse_all ⟨(bytesOf (nest o j)).toArray⟩ w (by rw [hsz]; omega)).mono ?_
  rintro e w' ⟨v, he, hl', hb⟩
  have hp : parseOf (⟨(bytesOf (nest o j)).toArray⟩ : ByteArray).data.toList = (zeroIt, 8, 3) := nest_parse_no o j h8
  rw [hp] at he hl'
  simp only [] at he hl'
  obtain ⟨A, cap, rfl, _⟩ := hl'.out
  exact ⟨A, cap, he, hb⟩

theorem parse_nest_yes (o : Bool) (j : Nat) (h8 : j < 8) (w : World) :
    Calls Try.prog 14 #[.string ⟨(bytesOf (nest o j)).toArray⟩] w fun e w' => ∃ A cap, e = .returned (.tuple #[.agg #[.int .i64 (nest o j).kind, .int .u64 (nest o j).n, .string (nest o j).s, .slice A (nest o j).l.length cap, .bool (nest o j).opn], .int .i64 (-1), .int .i64 0]) ∧ Below w.heap.size w w' := by
  have hsz : (⟨(bytesOf (nest o j)).toArray⟩ : ByteArray).size = (bytesOf (nest o j)).length := by show (bytesOf (nest o j)).toArray.size = _; simp
  have hl := nest_len o j
  refine (parse_all ⟨(bytesOf (nest o j)).toArray⟩ w (by rw [hsz]; omega)).mono ?_
  rintro e w' ⟨v, he, hl', hb⟩
  have hread := read_back (nest o j) 8 [] (nest_fit o j) (by rw [nest_valid]; simpa using h8)
  rw [List.append_nil] at hread
  have hp : parseOf (⟨(bytesOf (nest o j)).toArray⟩ : ByteArray).data.toList = (nest o j, -1, 0) := by
    show parseOf (bytesOf (nest o j)) = _
    unfold parseOf
    rw [hread]
    simp
  rw [hp] at he hl'
  simp only [] at he hl'
  obtain ⟨A, cap, rfl, _⟩ := hl'.out
  exact ⟨A, cap, he, hb⟩

set_option maxHeartbeats 4000000 in
set_option maxRecDepth 100000 in
theorem deep_walk_false (n : Nat) (hn : n < 256) (w : World) : Calls Try.prog 7 #[.int .u8 n, .bool false] w fun e w' => e = .returned (.bool true) ∧ Below w.heap.size w w' := by
  obtain ⟨k, hk⟩ : ∃ k, k = n % 20 := ⟨_, rfl⟩
  have hk20 : k < 20 := by omega
  have hkI : (n : Int) % 20 = (k : Int) := by omega
  have hkL : (k : Int) < 20 := by omega
  have HK := Lib.hid hk; clear hk
  have HNN := Lib.hid hn; clear hn
  go_enter Try.func7, Try.ntmps7
  go_wp2_with fail
  refine (awake_any _).mono ?_
  rintro e w1 ⟨rfl, hb1⟩
  have H1 := Lib.hid hb1; clear hb1
  go_wp2_with fail
  refine (num_any 7 _).mono ?_
  rintro e w2 ⟨rfl, hb2⟩
  have H2 := Lib.hid (H1.out.trans (hb2.mono H1.out.size)); clear hb2
  unfold leafV
  go_wp2
  go_loopw [7, 8] (fun S i wr => ∃ (j : Nat) (sl : Value), j ≤ k ∧ i = .int .i64 j ∧ S = .string ⟨(bytesOf (nest false j)).toArray⟩ ∧ Nst w w2.heap.size (nest false j) sl wr) (fun _ i _ => k - (intOf i).toNat)
  case atStart =>
    refine ⟨0, .slice none 0 0, Nat.zero_le _, rfl, rfl, ⟨heap_alloc_new w2 _, ?_, H2.out.alloc H2.out.size _, H2.out.size⟩⟩
    exact liesIn_leaf _ _ 0 7 ⟨#[]⟩ false (by decide) (by decide) (by decide)
  case round =>
    obtain ⟨j, sl, hj, rfl, rfl, hnst⟩ := hrel
    obtain ⟨A, cap, hslv⟩ := hnst.lies.slice
    simp only [itV, Value.agg.injEq, Array.mk.injEq, List.cons.injEq, true_and, and_true] at hslv
    subst hslv
    have c0 := hnst.c0
    have c1 := hnst.c1
    have c2 := hnst.c2
    have c3 := hnst.c3
    have c4 := hnst.c4
    have cf := hnst.cf
    have hlt := hnst.lt
    have hnl := nest_len false j
    have hsz : (⟨(bytesOf (nest false j)).toArray⟩ : ByteArray).size = (bytesOf (nest false j)).length := by show (bytesOf (nest false j)).toArray.size = _; simp
    by_cases hjk : j < k
    · have hjI : (j : Int) < (k : Int) := by omega
      have happ2 := bytes_append [129] (bytesOf (nest false j))
      rw [← nest_bytes_closed] at happ2
      have hs1 : (1 : Nat) + (⟨(bytesOf (nest false j)).toArray⟩ : ByteArray).size ≤ 9223372036854775807 := by rw [hsz]; omega
      have hszI : (⟨(bytesOf (nest false j)).toArray⟩ : ByteArray).size ≤ 100 := by rw [hsz]; omega
      have hwrap := hnst.wrap rfl
      have HWRAP := Lib.hid hwrap; clear hwrap
      have HNST := Lib.hid hnst; clear hnst
      have HSZ := Lib.hid (And.intro hnl hsz); clear hnl hsz
      have HAPP := Lib.hid happ2; clear happ2
      generalize (⟨(bytesOf (nest false j)).toArray⟩ : ByteArray) = S at *
      go_wp2
      go_roundw
      case rel =>
        refine ⟨j + 1, _, by omega, by go_num, ?_, HWRAP.out⟩
        rw [← HAPP.out]
      case measure => simp [intOf]; omega
    · obtain rfl : j = k := by omega
      by_cases h8 : j < 8
      · have hval : validB (nest false j) 8 = true := by rw [nest_valid]; simpa using h8
        have hbuild := build_yes (nest false j) wr wr.heap.size _ (Nat.le_refl _) (hnst.lies.lies (B := wr.heap.size) (fun k hk => hk.1)) hval (by omega)
        simp only [itV] at hbuild
        have hparse := fun W => parse_nest_yes false j h8 W
        have hrefl : ((⟨(bytesOf (nest false j)).toArray⟩ : ByteArray).toList == (⟨(bytesOf (nest false j)).toArray⟩ : ByteArray).toList) = true := by simp
        have h8I : (j : Int) < 8 := by omega
        have HBU := Lib.hid hbuild; clear hbuild
        have HPA := Lib.hid hparse; clear hparse
        have HNST := Lib.hid hnst; clear hnst
        have HSZ := Lib.hid (And.intro hnl hsz); clear hnl hsz
        generalize (⟨(bytesOf (nest false j)).toArray⟩ : ByteArray) = S at *
        go_wp2_with fail
        refine HBU.out.mono ?_
        rintro e w5 ⟨rfl, hb5⟩
        have H5 := Lib.hid (HNST.out.below.trans (hb5.mono HNST.out.below.size)); clear hb5
        go_wp2_with fail
        refine (HPA.out _).mono ?_
        rintro e w6 ⟨A6, cap6, rfl, hb6⟩
        have H6 := Lib.hid (H5.out.trans (hb6.mono H5.out.size)); clear hb6
        go_wp2
        go_ret
        exact ⟨rfl, H6.out.alloc H6.out.size _⟩
      · have hval : validB (nest false j) 8 = false := by rw [nest_valid]; simpa using h8
        have hbuild := build_no (nest false j) wr wr.heap.size _ (Nat.le_refl _) (hnst.lies.lies (B := wr.heap.size) (fun k hk => hk.1)) hval
        simp only [itV] at hbuild
        have hparse := fun W => parse_nest_no false j (by omega) (by omega) W
        have h8I : ¬ (j : Int) < 8 := by omega
        have HBU := Lib.hid hbuild; clear hbuild
        have HPA := Lib.hid hparse; clear hparse
        have HNST := Lib.hid hnst; clear hnst
        have HSZ := Lib.hid (And.intro hnl hsz); clear hnl hsz
        generalize (⟨(bytesOf (nest false j)).toArray⟩ : ByteArray) = S at *
        go_wp2_with fail
        refine HBU.out.mono ?_
        rintro e w5 ⟨rfl, hb5⟩
        have H5 := Lib.hid (HNST.out.below.trans (hb5.mono HNST.out.below.size)); clear hb5
        go_wp2_with fail
        refine (HPA.out _).mono ?_
        rintro e w6 ⟨A6, cap6, rfl, hb6⟩
        have H6 := Lib.hid (H5.out.trans (hb6.mono H5.out.size)); clear hb6
        go_wp2
        go_ret
        exact ⟨rfl, H6.out.alloc H6.out.size _⟩

set_option maxHeartbeats 4000000 in
set_option maxRecDepth 100000 in
theorem deep_walk_true (n : Nat) (hn : n < 256) (w : World) : Calls Try.prog 7 #[.int .u8 n, .bool true] w fun e w' => e = .returned (.bool true) ∧ Below w.heap.size w w' := by
  obtain ⟨k, hk⟩ : ∃ k, k = n % 20 := ⟨_, rfl⟩
  have hk20 : k < 20 := by omega
  have hkI : (n : Int) % 20 = (k : Int) := by omega
  have hkL : (k : Int) < 20 := by omega
  have HK := Lib.hid hk; clear hk
  have HNN := Lib.hid hn; clear hn
  go_enter Try.func7, Try.ntmps7
  go_wp2_with fail
  refine (awake_any _).mono ?_
  rintro e w1 ⟨rfl, hb1⟩
  have H1 := Lib.hid hb1; clear hb1
  go_wp2_with fail
  refine (num_any 7 _).mono ?_
  rintro e w2 ⟨rfl, hb2⟩
  have H2 := Lib.hid (H1.out.trans (hb2.mono H1.out.size)); clear hb2
  unfold leafV
  go_wp2
  go_loopw [7, 8] (fun S i wr => ∃ (j : Nat) (sl : Value), j ≤ k ∧ i = .int .i64 j ∧ S = .string ⟨(bytesOf (nest true j)).toArray⟩ ∧ Nst w w2.heap.size (nest true j) sl wr) (fun _ i _ => k - (intOf i).toNat)
  case atStart =>
    refine ⟨0, .slice none 0 0, Nat.zero_le _, rfl, rfl, ⟨heap_alloc_new w2 _, ?_, H2.out.alloc H2.out.size _, H2.out.size⟩⟩
    exact liesIn_leaf _ _ 0 7 ⟨#[]⟩ false (by decide) (by decide) (by decide)
  case round =>
    obtain ⟨j, sl, hj, rfl, rfl, hnst⟩ := hrel
    obtain ⟨A, cap, hslv⟩ := hnst.lies.slice
    simp only [itV, Value.agg.injEq, Array.mk.injEq, List.cons.injEq, true_and, and_true] at hslv
    subst hslv
    have c0 := hnst.c0
    have c1 := hnst.c1
    have c2 := hnst.c2
    have c3 := hnst.c3
    have c4 := hnst.c4
    have cf := hnst.cf
    have hlt := hnst.lt
    have hnl := nest_len true j
    have hsz : (⟨(bytesOf (nest true j)).toArray⟩ : ByteArray).size = (bytesOf (nest true j)).length := by show (bytesOf (nest true j)).toArray.size = _; simp
    by_cases hjk : j < k
    · have hjI : (j : Int) < (k : Int) := by omega
      have happ := bytes_append [159] (bytesOf (nest true j))
      have happ2 := bytes_append ([159] ++ bytesOf (nest true j)) [255]
      rw [← nest_bytes_open] at happ2
      have hs1 : (1 : Nat) + (⟨(bytesOf (nest true j)).toArray⟩ : ByteArray).size ≤ 9223372036854775807 := by rw [hsz]; omega
      have hs2 : (⟨([159] ++ bytesOf (nest true j)).toArray⟩ : ByteArray).size + 1 ≤ 9223372036854775807 := by
        show ([159] ++ bytesOf (nest true j)).toArray.size + 1 ≤ _
        simp only [List.size_toArray, List.length_append, List.length_cons, List.length_nil]
        omega
      rw [← happ] at hs2 happ2
      clear happ
      have hszI : (⟨(bytesOf (nest true j)).toArray⟩ : ByteArray).size ≤ 100 := by rw [hsz]; omega
      have hwrap := hnst.wrap rfl
      have HWRAP := Lib.hid hwrap; clear hwrap
      have HNST := Lib.hid hnst; clear hnst
      have HSZ := Lib.hid (And.intro hnl hsz); clear hnl hsz
      have HAPP := Lib.hid happ2; clear happ2
      generalize (⟨(bytesOf (nest true j)).toArray⟩ : ByteArray) = S at *
      go_wp2
      go_roundw
      case rel =>
        refine ⟨j + 1, _, by omega, by go_num, ?_, HWRAP.out⟩
        rw [← HAPP.out]
      case measure => simp [intOf]; omega
    · obtain rfl : j = k := by omega
      by_cases h8 : j < 8
      · have hval : validB (nest true j) 8 = true := by rw [nest_valid]; simpa using h8
        have hbuild := build_yes (nest true j) wr wr.heap.size _ (Nat.le_refl _) (hnst.lies.lies (B := wr.heap.size) (fun k hk => hk.1)) hval (by omega)
        simp only [itV] at hbuild
        have hparse := fun W => parse_nest_yes true j h8 W
        have hrefl : ((⟨(bytesOf (nest true j)).toArray⟩ : ByteArray).toList == (⟨(bytesOf (nest true j)).toArray⟩ : ByteArray).toList) = true := by simp
        have h8I : (j : Int) < 8 := by omega
        have HBU := Lib.hid hbuild; clear hbuild
        have HPA := Lib.hid hparse; clear hparse
        have HNST := Lib.hid hnst; clear hnst
        have HSZ := Lib.hid (And.intro hnl hsz); clear hnl hsz
        generalize (⟨(bytesOf (nest true j)).toArray⟩ : ByteArray) = S at *
        go_wp2_with fail
        refine HBU.out.mono ?_
        rintro e w5 ⟨rfl, hb5⟩
        have H5 := Lib.hid (HNST.out.below.trans (hb5.mono HNST.out.below.size)); clear hb5
        go_wp2_with fail
        refine (HPA.out _).mono ?_
        rintro e w6 ⟨A6, cap6, rfl, hb6⟩
        have H6 := Lib.hid (H5.out.trans (hb6.mono H5.out.size)); clear hb6
        go_wp2
        go_ret
        exact ⟨rfl, H6.out.alloc H6.out.size _⟩
      · have hval : validB (nest true j) 8 = false := by rw [nest_valid]; simpa using h8
        have hbuild := build_no (nest true j) wr wr.heap.size _ (Nat.le_refl _) (hnst.lies.lies (B := wr.heap.size) (fun k hk => hk.1)) hval
        simp only [itV] at hbuild
        have hparse := fun W => parse_nest_no true j (by omega) (by omega) W
        have h8I : ¬ (j : Int) < 8 := by omega
        have HBU := Lib.hid hbuild; clear hbuild
        have HPA := Lib.hid hparse; clear hparse
        have HNST := Lib.hid hnst; clear hnst
        have HSZ := Lib.hid (And.intro hnl hsz); clear hnl hsz
        generalize (⟨(bytesOf (nest true j)).toArray⟩ : ByteArray) = S at *
        go_wp2_with fail
        refine HBU.out.mono ?_
        rintro e w5 ⟨rfl, hb5⟩
        have H5 := Lib.hid (HNST.out.below.trans (hb5.mono HNST.out.below.size)); clear hb5
        go_wp2_with fail
        refine (HPA.out _).mono ?_
        rintro e w6 ⟨A6, cap6, rfl, hb6⟩
        have H6 := Lib.hid (H5.out.trans (hb6.mono H5.out.size)); clear hb6
        go_wp2
        go_ret
        exact ⟨rfl, H6.out.alloc H6.out.size _⟩

end Go.Proofs.Ytpmepnejjjlodaa
