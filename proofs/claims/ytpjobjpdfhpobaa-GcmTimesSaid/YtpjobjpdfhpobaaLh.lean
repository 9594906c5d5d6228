/-
  The walk of GcmField. Conditions: the blocks' numbers are sixteen bytes.
-/
import Derived.Test.YtpjobjpdfhpobaaLa
namespace Go.Proofs.Ytpjobjpdfhpobaa
namespace Gcm
open Go.ChangeShapes Go.WideShapes Go.ChangeAt Go.RowKit Go.Great Go.ChangeMaps
open Gf Aes
set_option linter.unusedVariables false
set_option maxRecDepth 100000

/-- Three blocks that came in. -/
structure Th (w : World) (a b c : List Nat) (X : World) : Prop where
  ha : Wd .u8 22 w.heap.size a X
  hb : Wd .u8 22 (w.heap.size + 1) b X
  hc : Wd .u8 22 (w.heap.size + 1 + 1) c X
  below : Below w.heap.size w X

theorem numT_toB {l : List Nat} (hb : Small l) : numT (toB l) = big l := by unfold numT; rw [nums_toB _ hb]
theorem block_lt {l : List Nat} (hl : l.length = 16) (hb : Small l) : big l < 2 ^ 128 := hb.big hl
theorem numT_block {v : Nat} (h : v < 2 ^ 128) : numT (blockB v) = v := by unfold numT; rw [nums_blockB, big_bytes (show v < 256 ^ 16 from h)]
theorem block_inj {u v : Nat} (hu : u < 2 ^ 128) (hv : v < 2 ^ 128) (h : blockB u = blockB v) : u = v := by rw [← numT_block hu, ← numT_block hv, h]

theorem Times_blocks (u v : Nat) (w : World) (hu : u < 2 ^ 128) (hv : v < 2 ^ 128) :
    Calls Try.prog 13 #[.string (blockB u), .string (blockB v)] w fun e w' => e = .returned (.string (blockB (times128 u v))) ∧ Below w.heap.size w w' := by
  have := Times_any (blockB u) (blockB v) w (blockB_size _) (blockB_size _)
  rw [numT_block hu, numT_block hv] at this
  exact this

set_option maxHeartbeats 8000000 in
theorem walk_field (la lb lc : List Nat) (w : World) (la16 : la.length = 16) (las : ∀ c ∈ la, c < 256) (lb16 : lb.length = 16) (lbs : ∀ c ∈ lb, c < 256) (lc16 : lc.length = 16) (lcs : ∀ c ∈ lc, c < 256) :
    Calls Try.prog 4 #[.agg (valsK .u8 la), .agg (valsK .u8 lb), .agg (valsK .u8 lc)] w fun e w' => e = .returned (.bool true) ∧ Below w.heap.size w w' := by
  obtain ⟨PA, hPA⟩ : ∃ PA, PA = valsK .u8 la := ⟨_, rfl⟩
  obtain ⟨PB, hPB⟩ : ∃ PB, PB = valsK .u8 lb := ⟨_, rfl⟩
  obtain ⟨PC, hPC⟩ : ∃ PC, PC = valsK .u8 lc := ⟨_, rfl⟩
  have hth : Th w la lb lc (((w.alloc (.cells PA 22)).alloc (.cells PB 22)).alloc (.cells PC 22)) := by
    rw [hPA, hPB, hPC]
    exact ⟨keepAlloc (keepAlloc (heap_alloc_new w _) _) _, keepAlloc (second_new w _ _) _, third_new w _ _ _, below_alloc (below_alloc (below_alloc (Below.refl _ _) _) _) _⟩
  rw [← hPA, ← hPB, ← hPC]
  obtain ⟨u, hu⟩ : ∃ u, u = big la := ⟨_, rfl⟩
  obtain ⟨v, hv⟩ : ∃ v, v = big lb := ⟨_, rfl⟩
  obtain ⟨x, hx⟩ : ∃ x, x = big lc := ⟨_, rfl⟩
  have hul : u < 2 ^ 128 := by rw [hu]; exact block_lt la16 las
  have hvl : v < 2 ^ 128 := by rw [hv]; exact block_lt lb16 lbs
  have hxl : x < 2 ^ 128 := by rw [hx]; exact block_lt lc16 lcs
  have ea : toB la = blockB u := by rw [hu]; unfold blockB; rw [← la16, bytes_big la las]
  have eb : toB lb = blockB v := by rw [hv]; unfold blockB; rw [← lb16, bytes_big lb lbs]
  have ec : toB lc = blockB x := by rw [hx]; unfold blockB; rw [← lc16, bytes_big lc lcs]
  obtain ⟨A, hA⟩ : ∃ A, A = blockB u := ⟨_, rfl⟩
  obtain ⟨B, hB⟩ : ∃ B, B = blockB v := ⟨_, rfl⟩
  obtain ⟨C, hC⟩ : ∃ C, C = blockB x := ⟨_, rfl⟩
  obtain ⟨Z, hZ⟩ : ∃ Z, Z = toB (List.replicate 16 0) := ⟨_, rfl⟩
  have hZ0 : Z = blockB 0 := by rw [hZ]; rfl
  have m1 : times128 u v < 2 ^ 128 := times128_lt hul hvl
  have m2 : times128 v x < 2 ^ 128 := times128_lt hvl hxl
  have m3 : times128 u x < 2 ^ 128 := times128_lt hul hxl
  have m4 : v ^^^ x < 2 ^ 128 := Nat.xor_lt_two_pow hvl hxl
  obtain ⟨P, hP⟩ : ∃ P, P = blockB (times128 u v) := ⟨_, rfl⟩
  obtain ⟨Q, hQ⟩ : ∃ Q, Q = blockB (times128 v x) := ⟨_, rfl⟩
  obtain ⟨R, hR⟩ : ∃ R, R = blockB (times128 u x) := ⟨_, rfl⟩
  obtain ⟨S, hS⟩ : ∃ S, S = blockB (v ^^^ x) := ⟨_, rfl⟩
  obtain ⟨D, hD⟩ : ∃ D, D = blockB (times128 (times128 u v) x) := ⟨_, rfl⟩
  obtain ⟨M, hM⟩ : ∃ M, M = blockB (times128 u (v ^^^ x)) := ⟨_, rfl⟩
  have K1 : Hid (∀ X, Calls Try.prog 13 #[.string A, .string B] X fun e w' => e = .returned (.string P) ∧ Below X.heap.size X w') := Lib.hid (fun X => by rw [hA, hB, hP]; exact Times_blocks u v X hul hvl)
  have K2 : Hid (∀ X, Calls Try.prog 13 #[.string B, .string A] X fun e w' => e = .returned (.string P) ∧ Below X.heap.size X w') := Lib.hid (fun X => by rw [hA, hB, hP, times128_comm hul hvl]; exact Times_blocks v u X hvl hul)
  have K3 : Hid (∀ X, Calls Try.prog 13 #[.string P, .string C] X fun e w' => e = .returned (.string D) ∧ Below X.heap.size X w') := Lib.hid (fun X => by rw [hP, hC, hD]; exact Times_blocks _ x X m1 hxl)
  have K4 : Hid (∀ X, Calls Try.prog 13 #[.string B, .string C] X fun e w' => e = .returned (.string Q) ∧ Below X.heap.size X w') := Lib.hid (fun X => by rw [hB, hC, hQ]; exact Times_blocks v x X hvl hxl)
  have K5 : Hid (∀ X, Calls Try.prog 13 #[.string A, .string Q] X fun e w' => e = .returned (.string D) ∧ Below X.heap.size X w') := Lib.hid (fun X => by rw [hA, hQ, hD, times128_assoc hul hvl hxl]; exact Times_blocks u _ X hul m2)
  have K6 : Hid (∀ X, Calls Try.prog 15 #[.string B, .string C] X fun e w' => e = .returned (.string S) ∧ Below X.heap.size X w') := Lib.hid (fun X => by rw [hB, hC, hS, ← orB_block]; exact lor_any _ _ X (blockB_size _) (blockB_size _))
  have K7 : Hid (∀ X, Calls Try.prog 13 #[.string A, .string S] X fun e w' => e = .returned (.string M) ∧ Below X.heap.size X w') := Lib.hid (fun X => by rw [hA, hS, hM]; exact Times_blocks u _ X hul m4)
  have K8 : Hid (∀ X, Calls Try.prog 13 #[.string A, .string C] X fun e w' => e = .returned (.string R) ∧ Below X.heap.size X w') := Lib.hid (fun X => by rw [hA, hC, hR]; exact Times_blocks u x X hul hxl)
  have K9 : Hid (∀ X, Calls Try.prog 15 #[.string P, .string R] X fun e w' => e = .returned (.string M) ∧ Below X.heap.size X w') := Lib.hid (fun X => by rw [hP, hR, hM, times128_add hul hvl hxl, ← orB_block]; exact lor_any _ _ X (blockB_size _) (blockB_size _))
  have K10 : Hid (∀ X, Calls Try.prog 13 #[.string A, .string oneB] X fun e w' => e = .returned (.string A) ∧ Below X.heap.size X w') := Lib.hid (fun X => by
    have h := Times_any A oneB X (by rw [hA, blockB_size]) (by decide)
    rw [one_num, hA, numT_block hul] at h
    have h1 : times128 u (2 ^ 127) = u := times128_one hul
    rw [h1] at h
    rw [hA]; exact h)
  have hzero : P = Z ↔ (A = Z ∨ B = Z) := by
    rw [hP, hA, hB, hZ0]
    constructor
    · intro h
      rcases (times128_zero hul hvl).1 (block_inj m1 (by decide) h) with h | h
      · left; rw [h]
      · right; rw [h]
    · rintro (h | h)
      · rw [(times128_zero hul hvl).2 (.inl (block_inj hul (by decide) h))]
      · rw [(times128_zero hul hvl).2 (.inr (block_inj hvl (by decide) h))]
  have HZ := Lib.hid hzero
  have HTH := Lib.hid hth
  have HN := Lib.hid (And.intro ea (And.intro eb (And.intro ec (And.intro hA (And.intro hB (And.intro hC hZ))))))
  have HL := Lib.hid (And.intro la16 (And.intro las (And.intro lb16 (And.intro lbs (And.intro lc16 lcs)))))
  clear hPA hPB hPC hth hu hv hx hul hvl hxl ea eb ec hA hB hC hZ hZ0 m1 m2 m3 m4 hP hQ hR hS hD hM hzero la16 las lb16 lbs lc16 lcs
  go_enter Try.func4, Try.ntmps4
  go_wp2
  generalize (((w.alloc (Obj.cells PA 22)).alloc (Obj.cells PB 22)).alloc (Obj.cells PC 22)) = wq at *
  have cA := row_text wq.drew w.heap.size la HTH.out.ha HL.out.1 HL.out.2.1 16
  have cB := row_text wq.drew (w.heap.size + 1) lb HTH.out.hb HL.out.2.2.1 HL.out.2.2.2.1 16
  have cC := row_text wq.drew (w.heap.size + 1 + 1) lc HTH.out.hc HL.out.2.2.2.2.1 HL.out.2.2.2.2.2 16
  rw [HN.out.1, ← HN.out.2.2.2.1] at cA
  rw [HN.out.2.1, ← HN.out.2.2.2.2.1] at cB
  rw [HN.out.2.2.1, ← HN.out.2.2.2.2.2.1] at cC
  go_region
  generalize hwr : wq.drew = wr
  have HB := Lib.hid (show Below w.heap.size w wr by rw [← hwr]; exact HTH.out.below.drew)
  clear hwr cA cB cC HTH
  obtain ⟨L0, hL0⟩ : ∃ L0 : List Nat, L0 = List.replicate 16 0 := ⟨_, rfl⟩
  have hmk : (Instr.makeSlice 24 (.int .i64 16) (.int .i64 16)).run Try.prog wr = .ok (.slice (some ⟨wr.heap.size, 0, none⟩) 16 16) (wr.alloc (.cells (valsK .u8 L0) 5)) := by rw [hL0]; exact make_row 16 (by decide) wr
  have hcz : (convert 24 9 (.slice (some ⟨wr.heap.size, 0, none⟩) 16 16)).run Try.prog (wr.alloc (.cells (valsK .u8 L0) 5)) = .ok (.string Z) (wr.alloc (.cells (valsK .u8 L0) 5)) := by
    rw [HN.out.2.2.2.2.2.2, hL0]
    exact (rw_made wr wr (List.replicate 16 0) (Below.refl _ _)).back (small_zeros 16) 16 16 (by simp)
  have HB0 := Lib.hid (below_alloc HB.out (.cells (valsK .u8 L0) 5))
  clear hL0
  go_wp2_with fail
  refine (awake_any _).mono ?_
  rintro e w1 ⟨rfl, hb1⟩
  have H1 := Lib.hid (below_link HB0.out hb1)
  clear hb1 hmk hcz
  go_wp2_with fail
  refine (K1.out _).mono ?_
  rintro e w2 ⟨rfl, hb2⟩
  have H2 := Lib.hid (below_link H1.out hb2)
  clear hb2
  go_wp2_with fail
  refine (K2.out _).mono ?_
  rintro e w3 ⟨rfl, hb3⟩
  have H3 := Lib.hid (below_link H2.out hb3)
  clear hb3
  go_wp2_with fail
  refine (K1.out _).mono ?_
  rintro e w4 ⟨rfl, hb4⟩
  have H4 := Lib.hid (below_link H3.out hb4)
  clear hb4
  go_wp2_with fail
  refine (K3.out _).mono ?_
  rintro e w5 ⟨rfl, hb5⟩
  have H5 := Lib.hid (below_link H4.out hb5)
  clear hb5
  go_wp2_with fail
  refine (K4.out _).mono ?_
  rintro e w6 ⟨rfl, hb6⟩
  have H6 := Lib.hid (below_link H5.out hb6)
  clear hb6
  go_wp2_with fail
  refine (K5.out _).mono ?_
  rintro e w7 ⟨rfl, hb7⟩
  have H7 := Lib.hid (below_link H6.out hb7)
  clear hb7
  go_wp2_with fail
  refine (K6.out _).mono ?_
  rintro e w8 ⟨rfl, hb8⟩
  have H8 := Lib.hid (below_link H7.out hb8)
  clear hb8
  go_wp2_with fail
  refine (K7.out _).mono ?_
  rintro e w9 ⟨rfl, hb9⟩
  have H9 := Lib.hid (below_link H8.out hb9)
  clear hb9
  go_wp2_with fail
  refine (K1.out _).mono ?_
  rintro e w10 ⟨rfl, hb10⟩
  have H10 := Lib.hid (below_link H9.out hb10)
  clear hb10
  go_wp2_with fail
  refine (K8.out _).mono ?_
  rintro e w11 ⟨rfl, hb11⟩
  have H11 := Lib.hid (below_link H10.out hb11)
  clear hb11
  go_wp2_with fail
  refine (K9.out _).mono ?_
  rintro e w12 ⟨rfl, hb12⟩
  have H12 := Lib.hid (below_link H11.out hb12)
  clear hb12
  go_wp2_with fail
  unfold oneB at K10
  refine (K10.out _).mono ?_
  rintro e w13 ⟨rfl, hb13⟩
  have H13 := Lib.hid (below_link H12.out hb13)
  clear hb13
  go_wp2_with fail
  refine (K1.out _).mono ?_
  rintro e w14 ⟨rfl, hb14⟩
  have H14 := Lib.hid (below_link H13.out hb14)
  clear hb14 K1 K2 K3 K4 K5 K6 K7 K8 K9 K10 H1 H2 H3 H4 H5 H6 H7 H8 H9 H10 H11 H12 H13 HN HL
  by_cases zA : A = Z
  · have zP : P = Z := HZ.out.2 (.inl zA)
    rw [zA, zP]
    clear zA zP HZ
    go_wp2
    go_ret
    exact ⟨by simp, H14.out⟩
  · have nA := text_ne zA
    by_cases zB : B = Z
    · have zP : P = Z := HZ.out.2 (.inr zB)
      rw [zB, zP]
      clear zB zP HZ zA
      go_wp2
      go_ret
      exact ⟨by simp, H14.out⟩
    · have nB := text_ne zB
      have nP := text_ne (show P ≠ Z from fun h => (HZ.out.1 h).elim zA zB)
      clear zA zB HZ
      go_wp2
      go_ret
      exact ⟨by simp, H14.out⟩

end Gcm
end Go.Proofs.Ytpjobjpdfhpobaa
