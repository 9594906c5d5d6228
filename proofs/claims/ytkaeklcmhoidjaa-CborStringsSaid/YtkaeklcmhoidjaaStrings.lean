/-
  For every string and every number CborStrings returns true: a string's bytes are the standard's, and they are read back. Conditions: none.
-/
import Derived.Test.YtkaeklcmhoidjaaL
import Derived.Test.YtkaeklcmhoidjaaHeads
import Derived.ChangeMaps5
namespace Go.Proofs.Ytkaeklcmhoidjaa
open Go.ChangeShapes Go.WideShapes Go.ChangeAt Go.RowKit Go.ChangeMaps
open Plain
set_option linter.unusedVariables false

theorem bytes_ext {a b : ByteArray} (h : a.data.toList = b.data.toList) : a = b := by
  apply ByteArray.ext
  exact Array.toList_inj.1 h

/-- A string that is written is read back. -/
theorem strOf_again (m : Nat) (s : ByteArray) (hm : m ≤ 7) (hs : s.size ≤ 70000) : strOf (withHead m s) 0 0 m 80000 = (s, (withHead m s).size, 0) := by
  have hx := headL_headOf m s.size s.data.toList hm (by omega)
  rw [← withHead_list] at hx
  have hz := withHead_size m s
  unfold strOf peekOf
  simp only [ne_eq, not_true_eq_false, if_false, List.drop_zero, hx]
  rw [if_neg (by simp; omega), if_neg (by omega)]
  have e1 : (((withHead m s).extract (0 + (headOf m s.size).length) (withHead m s).size).extract 0 s.size) = s := by
    apply bytes_ext
    rw [Lib.extract_data, Lib.extract_to_end, withHead_list, Nat.zero_add, List.drop_left, List.drop_zero, Nat.sub_zero]
    exact List.take_of_length_le (by rw [size_list]; omega)
  rw [e1, hz]
  simp

theorem withHead_fits (m : Nat) (s : ByteArray) (hs : s.size ≤ 70000) : (withHead m s).size ≤ maxLen := by
  rw [withHead_size]
  have := headOf_len m s.size
  unfold maxLen
  omega

theorem Rd.new' (w : World) (s : ByteArray) {o : Obj} : Rd ((w.alloc o).alloc (.cells #[.string s, .int .i64 0, .int .i64 0] 54)) (w.heap.size + 1) s 0 0 := by
  have := Rd.new (w.alloc o) s
  rw [World.size_alloc] at this
  exact this

theorem doneOf_end (s : ByteArray) : doneOf s s.size 0 = true := by simp [doneOf]

theorem zeros_back (w : World) (base n : Nat) (h : w.ownsRow base 5 1 (.slice (some ⟨base, 0, none⟩) n n) n (madeCells #[Value.int .u8 0] n).toList) :
    (convert 23 9 (.slice (some ⟨base, 0, none⟩) n n)).run Try.prog w = .ok (.string ⟨(List.replicate n (0 : UInt8)).toArray⟩) w := by
  have hl : (List.replicate n (0 : UInt8)).length = n := by simp
  have := run_convert_bytes_back w 23 9 5 ⟨base, 0, none⟩ n (List.replicate n (0 : UInt8)) Try.underlying23 Try.underlying5 Try.underlying9 (fun j hj => ?_)
  · rw [hl] at this
    exact this
  · have hj' : j < n := by rw [hl] at hj; exact hj
    have hc := h.cells (g := base) rfl j (.int .u8 0) (by simp [madeCells, hj', Nat.mod_one])
    rw [hc]
    simp

set_option maxHeartbeats 2000000 in
theorem strings_walk (s : ByteArray) (n : Nat) (hs : s.size ≤ maxLen) (hn : n < 4294967296) (w : World) :
    Calls Try.prog 4 #[.string s, .int .u32 n] w fun e w' => e = .returned (.bool true) ∧ Below w.heap.size w w' := by
  unfold maxLen at hs
  by_cases hl : 70000 < s.size
  · have g : decide ((70000 : Int) < (s.size : Int)) = true := by simp; omega
    have HN := Lib.hid hn; clear hn
    have HL := Lib.hid hl; clear hl
    go_enter Try.func4, Try.ntmps4
    go_wp2_with fail
    refine (awake_any _).mono ?_
    rintro e w1 ⟨rfl, hb1⟩
    go_wp2_with fail
    refine (awake_any _).mono ?_
    rintro e w2 ⟨rfl, hb2⟩
    go_wp2
    go_ret
    exact ⟨rfl, below_chain hb1 hb2⟩
  · have g : decide ((70000 : Int) < (s.size : Int)) = false := by simp; omega
    have hs7 : s.size ≤ 70000 := by omega
    have HS7 := Lib.hid hs7; clear hs7
    have HN := Lib.hid hn; clear hn
    have HL := Lib.hid hl; clear hl
    have hn0 : (0 : Int) ≤ (n : Int) := by omega
    by_cases h7 : n % 7 = 0
    · have g7 : ((n : Int) % 7 == 0) = true := by simp; omega
      have H7 := Lib.hid h7; clear h7
      by_cases he : s.size = 0
      · have hemp : s.toList.isEmpty = true := by rw [Lib.toList_data, List.isEmpty_iff]; exact List.eq_nil_of_length_eq_zero (by rw [size_list]; exact he)
        have HE := Lib.hid he; clear he
        have HK := HS7
        go_enter Try.func4, Try.ntmps4
        go_wp2_with fail
        refine (awake_any _).mono ?_
        rintro e w1 ⟨rfl, hb1⟩
        have HB1 := Lib.hid hb1; clear hb1
        go_wp2_with fail
        refine (bytes_any s _ HK.out).mono ?_
        rintro e w2 ⟨rfl, hb2⟩
        have HB2 := Lib.hid hb2; clear hb2
        go_wp2_with fail
        refine (text_any s _ HK.out).mono ?_
        rintro e w3 ⟨rfl, hb3⟩
        have HB3 := Lib.hid hb3; clear hb3
        go_wp2_with fail
        refine (refBytes_any s _ HK.out).mono ?_
        rintro e w4 ⟨rfl, hb4⟩
        have HB4 := Lib.hid hb4; clear hb4
        go_wp2_with fail
        refine (refText_any s _ HK.out).mono ?_
        rintro e w5 ⟨rfl, hb5⟩
        have HB5 := Lib.hid hb5; clear hb5
        go_wp2_with fail
        refine (newReader_any _ _).mono ?_
        rintro e w6 ⟨rfl, rfl⟩
        go_wp2_with fail
        refine (newReader_any _ _).mono ?_
        rintro e w7 ⟨rfl, rfl⟩
        have hx0 : Ok ((w5.alloc (.cells #[.string (withHead 2 s), .int .i64 0, .int .i64 0] 54)).alloc (.cells #[.string (withHead 3 s), .int .i64 0, .int .i64 0] 54)) w5.heap.size (withHead 2 s) 0 0 := ⟨(Rd.new w5 _).alloc _, withHead_fits 2 s HK.out, Nat.zero_le _⟩
        have hy0 : Rd ((w5.alloc (.cells #[.string (withHead 2 s), .int .i64 0, .int .i64 0] 54)).alloc (.cells #[.string (withHead 3 s), .int .i64 0, .int .i64 0] 54)) (w5.heap.size + 1) (withHead 3 s) 0 0 := Rd.new' _ _
        have hb7 : Below w5.heap.size w5 ((w5.alloc (.cells #[.string (withHead 2 s), .int .i64 0, .int .i64 0] 54)).alloc (.cells #[.string (withHead 3 s), .int .i64 0, .int .i64 0] 54)) := below_chain (below_new w5 _) (below_new _ _)
        have hr8 := readBytes_any (most := 80000) hx0 (by omega) (by omega)
        rw [strOf_again 2 s (by omega) HK.out] at hr8
        have HR8 := Lib.hid hr8; clear hr8
        have HY0 := Lib.hid hy0; clear hy0
        have HX0 := Lib.hid hx0; clear hx0
        have HB7 := Lib.hid hb7; clear hb7
        go_wp2_with fail
        refine HR8.out.mono ?_
        rintro e w8 ⟨rfl, hrd8, ho8⟩
        have hok8 : Ok w8 w5.heap.size (withHead 2 s) (withHead 2 s).size 0 := ⟨hrd8, withHead_fits 2 s HK.out, Nat.le_refl _⟩
        have hy8 : Rd w8 (w5.heap.size + 1) (withHead 3 s) 0 0 := HY0.out.keep ho8 (by omega)
        have hb8 : Below w5.heap.size w5 w8 := HB7.out.trans (ho8.below (by simp; omega) (Nat.le_refl _))
        have HK8 := Lib.hid hok8; clear hok8 hrd8
        have HY8 := Lib.hid hy8; clear hy8 ho8
        have HB8 := Lib.hid hb8; clear hb8
        go_wp2_with fail
        refine (done_any HK8.out).mono ?_
        rw [doneOf_end]
        rintro e w9 ⟨rfl, hb9⟩
        have hy9 : Ok w9 (w5.heap.size + 1) (withHead 3 s) 0 0 := ⟨HY8.out.below hb9, withHead_fits 3 s HK.out, Nat.zero_le _⟩
        have hb9' : Below w5.heap.size w5 w9 := HB8.out.trans (hb9.mono HB8.out.size)
        have hr10 := readText_any (most := 80000) hy9 (by omega) (by omega)
        rw [strOf_again 3 s (by omega) HK.out] at hr10
        have HR10 := Lib.hid hr10; clear hr10
        have HB9 := Lib.hid hb9'; clear hb9'
        have HB9a := Lib.hid hb9.size; clear hb9 hy9
        go_wp2_with fail
        refine HR10.out.mono ?_
        rintro e w10 ⟨rfl, hrd10, ho10⟩
        have hok10 : Ok w10 (w5.heap.size + 1) (withHead 3 s) (withHead 3 s).size 0 := ⟨hrd10, withHead_fits 3 s HK.out, Nat.le_refl _⟩
        have hb10 : Below w5.heap.size w5 w10 := HB9.out.trans (ho10.below HB9.out.size (by omega))
        have HK10 := Lib.hid hok10; clear hok10 hrd10 ho10
        have HB10 := Lib.hid hb10; clear hb10
        go_wp2_with fail
        refine (done_any HK10.out).mono ?_
        rw [doneOf_end]
        rintro e w11 ⟨rfl, hb11⟩
        have HB11 := Lib.hid hb11; clear hb11
        go_wp2
        go_ret
        exact ⟨rfl, below_chain (below_chain (below_chain (below_chain (below_chain (below_chain HB1.out HB2.out) HB3.out) HB4.out) HB5.out) HB10.out) HB11.out⟩
      · have hemp : s.toList.isEmpty = false := by
          rw [Lib.toList_data, ← Bool.not_eq_true, List.isEmpty_iff]
          intro h
          have := size_list s
          rw [h] at this
          exact he this.symm
        have HE := Lib.hid he; clear he
        have hk : n % 70000 ≤ 69999 := by omega
        obtain ⟨i0, hi, hz0, hz1, hz2⟩ := info_parts Try.info5
        have hmod : ((n % 70000 : Nat) : Int) = (n : Int) % 70000 := by omega
        generalize n % 70000 = k at *
        have hkk : (⟨(List.replicate k (0 : UInt8)).toArray⟩ : ByteArray).size ≤ 70000 := by
          show (List.replicate k (0 : UInt8)).toArray.size ≤ 70000
          simp; omega
        have HK := Lib.hid hkk; clear hkk
        have HM := Lib.hid hmod; clear hmod
        go_enter Try.func4, Try.ntmps4
        go_wp2_with fail
        refine (awake_any _).mono ?_
        rintro e w1 ⟨rfl, hb1⟩
        go_wp2_with (refine wpList_make_full _ rfl _ _ 23 rfl w1.heap.size 5 i0 (.int .u8 0) 1 Try.underlying23 hi hz0 hz1 .i64 .i64 _ _ k rfl rfl ?m1 ?m2 ?m3 ?m4 (Nat.le_refl _) ?_)
        case m1 => exact HM.out.symm
        case m2 => exact HM.out.symm
        case m3 => rw [hz2]; omega
        case m4 => unfold maxLen; omega
        intro w1' hown hgrow
        have hcv := zeros_back w1' w1.heap.size k hown
        have hb1' : Below w.heap.size w w1' := hb1.grown hgrow hb1.size (fun g hg => nomatch hg)
        have HB1 := Lib.hid hb1'; clear hb1' hb1 hown hgrow
        generalize hz : (⟨(List.replicate k (0 : UInt8)).toArray⟩ : ByteArray) = z at *
        have HZ := Lib.hid hz; clear hz
        go_wp2_with fail
        refine (bytes_any z _ HK.out).mono ?_
        rintro e w2 ⟨rfl, hb2⟩
        have HB2 := Lib.hid hb2; clear hb2
        go_wp2_with fail
        refine (text_any z _ HK.out).mono ?_
        rintro e w3 ⟨rfl, hb3⟩
        have HB3 := Lib.hid hb3; clear hb3
        go_wp2_with fail
        refine (refBytes_any z _ HK.out).mono ?_
        rintro e w4 ⟨rfl, hb4⟩
        have HB4 := Lib.hid hb4; clear hb4
        go_wp2_with fail
        refine (refText_any z _ HK.out).mono ?_
        rintro e w5 ⟨rfl, hb5⟩
        have HB5 := Lib.hid hb5; clear hb5
        go_wp2_with fail
        refine (newReader_any _ _).mono ?_
        rintro e w6 ⟨rfl, rfl⟩
        go_wp2_with fail
        refine (newReader_any _ _).mono ?_
        rintro e w7 ⟨rfl, rfl⟩
        have hx0 : Ok ((w5.alloc (.cells #[.string (withHead 2 z), .int .i64 0, .int .i64 0] 54)).alloc (.cells #[.string (withHead 3 z), .int .i64 0, .int .i64 0] 54)) w5.heap.size (withHead 2 z) 0 0 := ⟨(Rd.new w5 _).alloc _, withHead_fits 2 z HK.out, Nat.zero_le _⟩
        have hy0 : Rd ((w5.alloc (.cells #[.string (withHead 2 z), .int .i64 0, .int .i64 0] 54)).alloc (.cells #[.string (withHead 3 z), .int .i64 0, .int .i64 0] 54)) (w5.heap.size + 1) (withHead 3 z) 0 0 := Rd.new' _ _
        have hb7 : Below w5.heap.size w5 ((w5.alloc (.cells #[.string (withHead 2 z), .int .i64 0, .int .i64 0] 54)).alloc (.cells #[.string (withHead 3 z), .int .i64 0, .int .i64 0] 54)) := below_chain (below_new w5 _) (below_new _ _)
        have hr8 := readBytes_any (most := 80000) hx0 (by omega) (by omega)
        rw [strOf_again 2 z (by omega) HK.out] at hr8
        have HR8 := Lib.hid hr8; clear hr8
        have HY0 := Lib.hid hy0; clear hy0
        have HX0 := Lib.hid hx0; clear hx0
        have HB7 := Lib.hid hb7; clear hb7
        go_wp2_with fail
        refine HR8.out.mono ?_
        rintro e w8 ⟨rfl, hrd8, ho8⟩
        have hok8 : Ok w8 w5.heap.size (withHead 2 z) (withHead 2 z).size 0 := ⟨hrd8, withHead_fits 2 z HK.out, Nat.le_refl _⟩
        have hy8 : Rd w8 (w5.heap.size + 1) (withHead 3 z) 0 0 := HY0.out.keep ho8 (by omega)
        have hb8 : Below w5.heap.size w5 w8 := HB7.out.trans (ho8.below (by simp; omega) (Nat.le_refl _))
        have HK8 := Lib.hid hok8; clear hok8 hrd8
        have HY8 := Lib.hid hy8; clear hy8 ho8
        have HB8 := Lib.hid hb8; clear hb8
        go_wp2_with fail
        refine (done_any HK8.out).mono ?_
        rw [doneOf_end]
        rintro e w9 ⟨rfl, hb9⟩
        have hy9 : Ok w9 (w5.heap.size + 1) (withHead 3 z) 0 0 := ⟨HY8.out.below hb9, withHead_fits 3 z HK.out, Nat.zero_le _⟩
        have hb9' : Below w5.heap.size w5 w9 := HB8.out.trans (hb9.mono HB8.out.size)
        have hr10 := readText_any (most := 80000) hy9 (by omega) (by omega)
        rw [strOf_again 3 z (by omega) HK.out] at hr10
        have HR10 := Lib.hid hr10; clear hr10
        have HB9 := Lib.hid hb9'; clear hb9'
        have HB9a := Lib.hid hb9.size; clear hb9 hy9
        go_wp2_with fail
        refine HR10.out.mono ?_
        rintro e w10 ⟨rfl, hrd10, ho10⟩
        have hok10 : Ok w10 (w5.heap.size + 1) (withHead 3 z) (withHead 3 z).size 0 := ⟨hrd10, withHead_fits 3 z HK.out, Nat.le_refl _⟩
        have hb10 : Below w5.heap.size w5 w10 := HB9.out.trans (ho10.below HB9.out.size (by omega))
        have HK10 := Lib.hid hok10; clear hok10 hrd10 ho10
        have HB10 := Lib.hid hb10; clear hb10
        go_wp2_with fail
        refine (done_any HK10.out).mono ?_
        rw [doneOf_end]
        rintro e w11 ⟨rfl, hb11⟩
        have HB11 := Lib.hid hb11; clear hb11
        go_wp2
        go_ret
        exact ⟨rfl, below_chain (below_chain (below_chain (below_chain (below_chain (below_chain HB1.out HB2.out) HB3.out) HB4.out) HB5.out) HB10.out) HB11.out⟩
    · have g7 : ((n : Int) % 7 == 0) = false := by simp; omega
      have H7 := Lib.hid h7; clear h7
      have HK := HS7
      go_enter Try.func4, Try.ntmps4
      go_wp2_with fail
      refine (awake_any _).mono ?_
      rintro e w1 ⟨rfl, hb1⟩
      have HB1 := Lib.hid hb1; clear hb1
      go_wp2_with fail
      refine (bytes_any s _ HK.out).mono ?_
      rintro e w2 ⟨rfl, hb2⟩
      have HB2 := Lib.hid hb2; clear hb2
      go_wp2_with fail
      refine (text_any s _ HK.out).mono ?_
      rintro e w3 ⟨rfl, hb3⟩
      have HB3 := Lib.hid hb3; clear hb3
      go_wp2_with fail
      refine (refBytes_any s _ HK.out).mono ?_
      rintro e w4 ⟨rfl, hb4⟩
      have HB4 := Lib.hid hb4; clear hb4
      go_wp2_with fail
      refine (refText_any s _ HK.out).mono ?_
      rintro e w5 ⟨rfl, hb5⟩
      have HB5 := Lib.hid hb5; clear hb5
      go_wp2_with fail
      refine (newReader_any _ _).mono ?_
      rintro e w6 ⟨rfl, rfl⟩
      go_wp2_with fail
      refine (newReader_any _ _).mono ?_
      rintro e w7 ⟨rfl, rfl⟩
      have hx0 : Ok ((w5.alloc (.cells #[.string (withHead 2 s), .int .i64 0, .int .i64 0] 54)).alloc (.cells #[.string (withHead 3 s), .int .i64 0, .int .i64 0] 54)) w5.heap.size (withHead 2 s) 0 0 := ⟨(Rd.new w5 _).alloc _, withHead_fits 2 s HK.out, Nat.zero_le _⟩
      have hy0 : Rd ((w5.alloc (.cells #[.string (withHead 2 s), .int .i64 0, .int .i64 0] 54)).alloc (.cells #[.string (withHead 3 s), .int .i64 0, .int .i64 0] 54)) (w5.heap.size + 1) (withHead 3 s) 0 0 := Rd.new' _ _
      have hb7 : Below w5.heap.size w5 ((w5.alloc (.cells #[.string (withHead 2 s), .int .i64 0, .int .i64 0] 54)).alloc (.cells #[.string (withHead 3 s), .int .i64 0, .int .i64 0] 54)) := below_chain (below_new w5 _) (below_new _ _)
      have hr8 := readBytes_any (most := 80000) hx0 (by omega) (by omega)
      rw [strOf_again 2 s (by omega) HK.out] at hr8
      have HR8 := Lib.hid hr8; clear hr8
      have HY0 := Lib.hid hy0; clear hy0
      have HX0 := Lib.hid hx0; clear hx0
      have HB7 := Lib.hid hb7; clear hb7
      go_wp2_with fail
      refine HR8.out.mono ?_
      rintro e w8 ⟨rfl, hrd8, ho8⟩
      have hok8 : Ok w8 w5.heap.size (withHead 2 s) (withHead 2 s).size 0 := ⟨hrd8, withHead_fits 2 s HK.out, Nat.le_refl _⟩
      have hy8 : Rd w8 (w5.heap.size + 1) (withHead 3 s) 0 0 := HY0.out.keep ho8 (by omega)
      have hb8 : Below w5.heap.size w5 w8 := HB7.out.trans (ho8.below (by simp; omega) (Nat.le_refl _))
      have HK8 := Lib.hid hok8; clear hok8 hrd8
      have HY8 := Lib.hid hy8; clear hy8 ho8
      have HB8 := Lib.hid hb8; clear hb8
      go_wp2_with fail
      refine (done_any HK8.out).mono ?_
      rw [doneOf_end]
      rintro e w9 ⟨rfl, hb9⟩
      have hy9 : Ok w9 (w5.heap.size + 1) (withHead 3 s) 0 0 := ⟨HY8.out.below hb9, withHead_fits 3 s HK.out, Nat.zero_le _⟩
      have hb9' : Below w5.heap.size w5 w9 := HB8.out.trans (hb9.mono HB8.out.size)
      have hr10 := readText_any (most := 80000) hy9 (by omega) (by omega)
      rw [strOf_again 3 s (by omega) HK.out] at hr10
      have HR10 := Lib.hid hr10; clear hr10
      have HB9 := Lib.hid hb9'; clear hb9'
      have HB9a := Lib.hid hb9.size; clear hb9 hy9
      go_wp2_with fail
      refine HR10.out.mono ?_
      rintro e w10 ⟨rfl, hrd10, ho10⟩
      have hok10 : Ok w10 (w5.heap.size + 1) (withHead 3 s) (withHead 3 s).size 0 := ⟨hrd10, withHead_fits 3 s HK.out, Nat.le_refl _⟩
      have hb10 : Below w5.heap.size w5 w10 := HB9.out.trans (ho10.below HB9.out.size (by omega))
      have HK10 := Lib.hid hok10; clear hok10 hrd10 ho10
      have HB10 := Lib.hid hb10; clear hb10
      go_wp2_with fail
      refine (done_any HK10.out).mono ?_
      rw [doneOf_end]
      rintro e w11 ⟨rfl, hb11⟩
      have HB11 := Lib.hid hb11; clear hb11
      go_wp2
      go_ret
      exact ⟨rfl, below_chain (below_chain (below_chain (below_chain (below_chain (below_chain HB1.out HB2.out) HB3.out) HB4.out) HB5.out) HB10.out) HB11.out⟩

theorem u32_nat {a : Int} (h : (Lit.int .u32 a).wf = true) : ∃ n : Nat, a = n ∧ n < 4294967296 := by
  have hx : 0 ≤ a ∧ a ≤ 4294967295 := by simpa [Lit.wf, IntKind.min, IntKind.max, IntKind.signed, IntKind.bits] using h
  exact ⟨a.toNat, by omega, by omega⟩

set_option maxRecDepth 100000 in
theorem strings_lifted (os : Os) (started : os.Started) (H : Type) (enc : TypeId × Value → H) :
    ReturnsInHanded {} Try.checked os 4 .any (Rows.cborStringsSpec.pre6 enc Try.prog Try.f4 Rows.cborStringsRow.domain false) (Rows.cborStringsSpec.post enc Try.prog Try.f4 false true false false) := by
  refine returnsInHanded_of_change (C := Try.checked) own started (by kernel_rfl) Try.func4
    (ChangeSpec.witness6 (enc := enc) (C := Try.checked) false ⟨#[], #[.string ⟨#[]⟩, .int .u32 0], []⟩ 8 (by kernel_rfl) (by kernel_rfl) (by kernel_rfl) (by kernel_rfl)) ?_
  intro W base args ds gs before hval0 hW hcnd _
  have hval : ∀ (j : Nat) t v, Try.f4.params[j]? = some t → args[j]? = some v → Value.okWide Try.prog W .any base t v := hval0
  have hW' := hW
  obtain ⟨p, q, hA0, hV, rfl, hfz, hnd⟩ := hW
  have hA : DataW.TrodAll enc Try.prog W 0 (fun _ => true) true Try.f4.params.toList args.toList ds p := hA0
  rw [Try.params4] at hA hval
  obtain ⟨v0, vs0, d0, ds0, p0, q0, hargs, rfl, rfl, h0, r0⟩ := trodAll_cons hA
  obtain ⟨v1, vs1, d1, ds1, p1, q1, rfl, rfl, rfl, h1, r1⟩ := trodAll_cons r0
  obtain ⟨rfl, rfl, rfl⟩ := trodAll_nil r1
  obtain rfl : args = #[v0, v1] := by cases args; simp_all
  obtain ⟨rfl, rfl⟩ := trodVars_none hV
  obtain ⟨s, rfl, rfl, rfl, hs⟩ := open_string Try.underlying9 (hval 0 9 v0 rfl rfl) h0
  obtain ⟨a1, rfl, rfl, rfl, w1⟩ := open_int Try.underlying28 (hval 1 28 v1 rfl rfl) h1
  clear hA0 hval0
  simp only [List.append_nil] at hW'
  obtain ⟨n, rfl, hn⟩ := u32_nat w1
  refine (strings_walk s n hs hn W).mono fun e W' ⟨he, hb⟩ => ?_
  subst he
  exact ⟨_, rfl, post_law (pa := []) (pv := []) hW' hb (trodAll_cons_mk (shut_bool Try.underlying4 _) trodAll_mk0) (trodAll_cons_mk (shut_string Try.underlying9 hs) (trodAll_cons_mk (shut_int Try.underlying28 w1) trodAll_mk0)) rfl⟩

/-- For every string and every number the law returns true. -/
theorem cborStrings_holds : Rows.CborStringsSaid :=
  OpenClaim.holds_of_wide 4 Try.f4 rfl rfl rfl rfl rfl rfl rfl ⟨rfl, rfl, rfl, rfl, rfl⟩ rfl rfl rfl rfl rfl (by kernel_rfl) Try.func4 (by kernel_rfl)
    (of_decide_eq_true (by kernel_rfl)) (by unfold Func.isWrapper; first | (rw [if_pos (by decide +kernel)]; kernel_rfl) | (rw [if_neg (by decide +kernel)]; exact ⟨rfl, rfl⟩))
    (fun os started H enc _ => strings_lifted os started H enc)

#print axioms cborStrings_holds
end Go.Proofs.Ytkaeklcmhoidjaa
