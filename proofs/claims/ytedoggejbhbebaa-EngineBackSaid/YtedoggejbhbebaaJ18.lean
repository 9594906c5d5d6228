/-
  Joined: Sd. Conditions: as each part says.
-/
import Derived.Test.YtedoggejbhbebaaJ17

/-
  Contract of sha.rounds. Conditions: the block has sixteen words; the table of round constants holds eighty words.
-/
namespace Go.Proofs.Ytedoggejbhbebaa
namespace Dg
open Go.ChangeShapes Go.WideShapes Go.ChangeAt Go.RowKit Go.Great
open Sha
set_option linter.unusedVariables false
set_option maxRecDepth 100000

/-- A table of eighty words. -/
structure KTab where
  ks : List Nat
  len : ks.length = 80
  lt : ∀ k ∈ ks, k < 18446744073709551616
variable {KQ : KTab}
theorem ks_length : KQ.ks.length = 80 := KQ.len
/-- The constant of round i, for words of w bits. -/
def kAt (KQ : KTab) (w i : Nat) : Nat := KQ.ks.getD i 0 / 2 ^ (64 - w)
theorem ks_get (i : Nat) (h : i < 80) : KQ.ks[i]? = some (KQ.ks.getD i 0) := by
  rw [List.getD_eq_getElem?_getD, List.getElem?_eq_getElem (by rw [ks_length]; exact h)]
  rfl
theorem ks_at_lt (i : Nat) (h : i < 80) : KQ.ks.getD i 0 < 18446744073709551616 := KQ.lt _ (List.mem_of_getElem? (ks_get i h))

/-- The program's table of constants lies in memory, with these words. -/
def Kon (KQ : KTab) (w : World) : Prop := ∃ T fr, w.heap[0]? = some (.cells (valsK .u64 KQ.ks) T fr)
theorem Kon.of_heap {X Y : World} (h : Kon KQ X) (e : Y.heap[0]? = X.heap[0]?) : Kon KQ Y := by
  obtain ⟨T, fr, h⟩ := h
  exact ⟨T, fr, e.trans h⟩
theorem Kon.pos {X : World} (h : Kon KQ X) : 0 < X.heap.size := by
  obtain ⟨T, fr, h⟩ := h
  exact (Array.getElem?_eq_some_iff.1 h).1
theorem Kon.next {X Y : World} (h : Kon KQ X) (hb : Below X.heap.size X Y) : Kon KQ Y := h.of_heap (hb.block 0 h.pos)
theorem Kon.alloc {X : World} (h : Kon KQ X) (o : Obj) : Kon KQ (X.alloc o) := h.of_heap (heap_alloc_old _ _ h.pos)
theorem Kon.cell {X : World} (h : Kon KQ X) {i k : Nat} (hk : KQ.ks[i]? = some k) : X.cell? ⟨0, i, none⟩ = some (.int .u64 (k : Nat)) := by
  obtain ⟨T, fr, h⟩ := h
  rw [cell_of_row _ _ _ _ _ _ h]; exact valsK_get _ _ _ _ hk

theorem Wd.set {k : IntKind} {T : TypeId} {g : Nat} {l : List Nat} {w : World} (h : Wd k T g l w) (j v : Nat) : Wd k T g (l.set j v) (w.setCell ⟨g, j, none⟩ (.int k (v : Nat))) := by
  unfold Wd
  rw [heap_setCell_same _ _ _ _ _ _ h, valsK_set]

theorem ones_xor {w a : Nat} (ha : a < 2 ^ w) : (2 ^ w - 1) ^^^ a = 2 ^ w - 1 - a := by
  apply Nat.eq_of_testBit_eq
  intro i
  rw [Nat.testBit_xor, Nat.testBit_two_pow_sub_one, not_testBit ha]
  by_cases hi : i < w
  · simp [hi]
  · have : a.testBit i = false := Nat.testBit_lt_two_pow (Nat.lt_of_lt_of_le ha (Nat.pow_le_pow_right (by decide) (by omega)))
    simp [hi, this]

/-- The sums so far, the old words behind them. -/
def mixAt (w : Nat) (s v : St) (j : Nat) : List Nat := (s.add w v).list.take j ++ s.list.drop j
theorem mix_step (w : Nat) (s v : St) (j : Nat) (hj : j < 8) : ∃ x y, (mixAt w s v j)[j]? = some x ∧ v.list[j]? = some y ∧ (mixAt w s v j).set j ((x + y) % 2 ^ w) = mixAt w s v (j + 1) := by
  match j, hj with
  | 0, _ => exact ⟨_, _, rfl, rfl, rfl⟩
  | 1, _ => exact ⟨_, _, rfl, rfl, rfl⟩
  | 2, _ => exact ⟨_, _, rfl, rfl, rfl⟩
  | 3, _ => exact ⟨_, _, rfl, rfl, rfl⟩
  | 4, _ => exact ⟨_, _, rfl, rfl, rfl⟩
  | 5, _ => exact ⟨_, _, rfl, rfl, rfl⟩
  | 6, _ => exact ⟨_, _, rfl, rfl, rfl⟩
  | 7, _ => exact ⟨_, _, rfl, rfl, rfl⟩

theorem not_32 (a : Nat) (ha : a < 4294967296) : bits .xor .u32 IntKind.u32.max (a : Int) = ((4294967296 - 1 - a : Nat) : Int) := by
  have h := u32_xor_nat (4294967296 - 1) a (by decide) ha
  have e : (4294967296 - 1 : Nat) ^^^ a = 4294967296 - 1 - a := ones_xor (w := 32) ha
  rw [e] at h
  exact h

/-- Eight words stored one by one. -/
def put8_32 (w : World) (g : Nat) (s : St) : World :=
  (((((((w.setCell ⟨g, 0, none⟩ (.int .u32 (s.a : Nat))).setCell ⟨g, 1, none⟩ (.int .u32 (s.b : Nat))).setCell ⟨g, 2, none⟩ (.int .u32 (s.c : Nat))).setCell ⟨g, 3, none⟩ (.int .u32 (s.d : Nat))).setCell ⟨g, 4, none⟩ (.int .u32 (s.e : Nat))).setCell ⟨g, 5, none⟩ (.int .u32 (s.f : Nat))).setCell ⟨g, 6, none⟩ (.int .u32 (s.g : Nat))).setCell ⟨g, 7, none⟩ (.int .u32 (s.h : Nat))

theorem put8_same_32 {w : World} {g : Nat} {x0 x1 x2 x3 x4 x5 x6 x7 : Nat} {T : TypeId} (t : St) (h : Wd .u32 T g [x0, x1, x2, x3, x4, x5, x6, x7] w) : Wd .u32 T g t.list (put8_32 w g t) :=
  (((((((h.set 0 t.a).set 1 t.b).set 2 t.c).set 3 t.d).set 4 t.e).set 5 t.f).set 6 t.g).set 7 t.h
theorem put8_other_32 (w : World) (g k : Nat) (t : St) (h : k ≠ g) : (put8_32 w g t).heap[k]? = w.heap[k]? := by
  unfold put8_32
  rw [heap_setCell_other _ _ _ _ h, heap_setCell_other _ _ _ _ h, heap_setCell_other _ _ _ _ h, heap_setCell_other _ _ _ _ h, heap_setCell_other _ _ _ _ h, heap_setCell_other _ _ _ _ h, heap_setCell_other _ _ _ _ h, heap_setCell_other _ _ _ _ h]
theorem put8_below_32 {B : Nat} {a w : World} {g : Nat} (t : St) (h : Below B a w) (hg : B ≤ g) : Below B a (put8_32 w g t) :=
  (((((((h.setCell hg _).setCell hg _).setCell hg _).setCell hg _).setCell hg _).setCell hg _).setCell hg _).setCell hg _

/-- The memory of rounds. -/
structure Rn32 (KQ : KTab) (w : World) (Wb : Nat) (l hl : List Nat) (v : St) (X : World) : Prop where
  hp : X.heap[w.heap.size]? = some (.cells plan32 129 (0, 0))
  hh : Wd .u32 131 (w.heap.size + 1) hl X
  hr : Wd .u32 131 (w.heap.size + 1 + 1) [0, 0, 0, 0, 0, 0, 0, 0] X
  hw : Wd .u32 145 Wb l X
  hv : Wd .u32 131 (Wb + 1) v.list X
  hk : Kon KQ X
  lt : w.heap.size + 1 + 1 < Wb
  pos : 0 < w.heap.size
  below : Below w.heap.size w X

theorem Rn32.next {w X Y : World} {Wb : Nat} {l hl : List Nat} {v : St} (h : Rn32 KQ w Wb l hl v X) (hb : Below X.heap.size X Y) : Rn32 KQ w Wb l hl v Y :=
  ⟨keepBlock h.hp hb, keepBlock h.hh hb, keepBlock h.hr hb, keepBlock h.hw hb, keepBlock h.hv hb, h.hk.next hb, h.lt, h.pos, below_link h.below hb⟩
theorem Rn32.drew {w X : World} {Wb : Nat} {l hl : List Nat} {v : St} (h : Rn32 KQ w Wb l hl v X) : Rn32 KQ w Wb l hl v X.drew :=
  ⟨h.hp, h.hh, h.hr, h.hw, h.hv, h.hk, h.lt, h.pos, h.below.drew⟩
theorem Rn32.drewN {w X : World} {Wb : Nat} {l hl : List Nat} {v : St} (h : Rn32 KQ w Wb l hl v X) (n : Nat) : Rn32 KQ w Wb l hl v (X.drewN n) := h.next (below_drewN X n)
theorem Rn32.put {w X : World} {Wb : Nat} {l hl : List Nat} {v : St} (h : Rn32 KQ w Wb l hl v X) (t : St) : Rn32 KQ w Wb l hl t (put8_32 X (Wb + 1) t) where
  hp := by have := h.lt; rw [put8_other_32 _ _ _ _ (by omega)]; exact h.hp
  hh := by have := h.lt; unfold Wd; rw [put8_other_32 _ _ _ _ (by omega)]; exact h.hh
  hr := by have := h.lt; unfold Wd; rw [put8_other_32 _ _ _ _ (by omega)]; exact h.hr
  hw := by have := h.lt; unfold Wd; rw [put8_other_32 _ _ _ _ (by omega)]; exact h.hw
  hv := put8_same_32 t h.hv
  hk := h.hk.of_heap (by have := h.lt; exact put8_other_32 _ _ _ _ (by omega))
  lt := h.lt
  pos := h.pos
  below := put8_below_32 t h.below (by have := h.lt; omega)
theorem Rn32.plan {w X : World} {Wb : Nat} {l hl : List Nat} {v : St} (h : Rn32 KQ w Wb l hl v X) (j : Nat) : X.cell? ⟨w.heap.size, j, none⟩ = plan32[j]? := cell_of_row _ _ _ _ _ _ h.hp

theorem Rn32.look {w X : World} {Wb : Nat} {l hl : List Nat} {v : St} (q : Rn32 KQ w Wb l hl v X) {i x h : Nat} (hx : l[i]? = some x) (hh : v.h = h) :
    X.cell? ⟨w.heap.size, 0, none⟩ = some (.int .i64 32) ∧ X.cell? ⟨w.heap.size, 5, none⟩ = some (.int .i64 6) ∧ X.cell? ⟨w.heap.size, 6, none⟩ = some (.int .i64 11) ∧ X.cell? ⟨w.heap.size, 7, none⟩ = some (.int .i64 25) ∧ X.cell? ⟨Wb + 1, 7, none⟩ = some (.int .u32 (h : Nat)) ∧ X.cell? ⟨Wb, i, none⟩ = some (.int .u32 (x : Nat)) :=
  ⟨q.plan 0, q.plan 5, q.plan 6, q.plan 7, by rw [← hh]; exact q.hv.cell rfl, q.hw.cell hx⟩

theorem Rn32.stepH {w X : World} {Wb : Nat} {l hl : List Nat} {v : St} (h : Rn32 KQ w Wb l hl v X) (j x : Nat) : Rn32 KQ w Wb l (hl.set j x) v (X.setCell ⟨w.heap.size + 1, j, none⟩ (.int .u32 (x : Nat))) where
  hp := by have := h.lt; rw [heap_setCell_other _ _ _ _ (by simp only []; omega)]; exact h.hp
  hh := h.hh.set j x
  hr := by have := h.lt; unfold Wd; rw [heap_setCell_other _ _ _ _ (by simp only []; omega)]; exact h.hr
  hw := by have := h.lt; unfold Wd; rw [heap_setCell_other _ _ _ _ (by simp only []; omega)]; exact h.hw
  hv := by have := h.lt; unfold Wd; rw [heap_setCell_other _ _ _ _ (by simp only []; omega)]; exact h.hv
  hk := h.hk.of_heap (by have := h.lt; exact heap_setCell_other _ _ _ _ (by simp only []; omega))
  lt := h.lt
  pos := h.pos
  below := h.below.setCell (by simp only []; omega) _

/-- What one round reckons, step by step. -/
theorem round_parts_32 (k x : Nat) (s : St) (hs : s.Small 32) (hx : x < 4294967296) :
    ∃ n1 n2 n3 n4 m1 m2 m3 m4 m5 r1 r0 t1 t2 t3 t4 u y z : Nat,
      bits .and .u32 (s.e : Int) (s.f : Int) = (n1 : Int) ∧ bits .xor .u32 IntKind.u32.max (s.e : Int) = (n2 : Int) ∧ bits .and .u32 (n2 : Int) (s.g : Int) = (n3 : Int) ∧ bits .xor .u32 (n1 : Int) (n3 : Int) = (n4 : Int) ∧
      bits .and .u32 (s.a : Int) (s.b : Int) = (m1 : Int) ∧ bits .and .u32 (s.a : Int) (s.c : Int) = (m2 : Int) ∧ bits .and .u32 (s.b : Int) (s.c : Int) = (m3 : Int) ∧ bits .xor .u32 (m1 : Int) (m2 : Int) = (m4 : Int) ∧ bits .xor .u32 (m4 : Int) (m3 : Int) = (m5 : Int) ∧
      r1 = big 32 3 s.e ∧ r0 = big 32 0 s.a ∧
      IntKind.u32.wrap ((s.h : Int) + (r1 : Int)) = (t1 : Int) ∧ IntKind.u32.wrap ((t1 : Int) + (n4 : Int)) = (t2 : Int) ∧ IntKind.u32.wrap ((t2 : Int) + (k : Int)) = (t3 : Int) ∧ IntKind.u32.wrap ((t3 : Int) + (x : Int)) = (t4 : Int) ∧
      IntKind.u32.wrap ((r0 : Int) + (m5 : Int)) = (u : Int) ∧ IntKind.u32.wrap ((t4 : Int) + (u : Int)) = (y : Int) ∧ IntKind.u32.wrap ((s.d : Int) + (t4 : Int)) = (z : Int) ∧
      Sha.round 32 k x s = ⟨y, s.a, s.b, s.c, z, s.e, s.f, s.g⟩ := by
  have n2l : 4294967296 - 1 - s.e < 2 ^ 32 := Nat.lt_of_le_of_lt (Nat.sub_le _ _) (by decide)
  have e1 := u32_and_nat s.e s.f hs.e hs.f
  have e2 := not_32 s.e hs.e
  have e3 := u32_and_nat (4294967296 - 1 - s.e) s.g n2l hs.g
  have e4 := u32_xor_nat (s.e &&& s.f) ((4294967296 - 1 - s.e) &&& s.g) (Nat.and_lt_two_pow _ hs.f) (Nat.and_lt_two_pow _ hs.g)
  have f1 := u32_and_nat s.a s.b hs.a hs.b
  have f2 := u32_and_nat s.a s.c hs.a hs.c
  have f3 := u32_and_nat s.b s.c hs.b hs.c
  have f4 := u32_xor_nat (s.a &&& s.b) (s.a &&& s.c) (Nat.and_lt_two_pow _ hs.b) (Nat.and_lt_two_pow _ hs.c)
  have f5 := u32_xor_nat ((s.a &&& s.b) ^^^ (s.a &&& s.c)) (s.b &&& s.c) (Nat.xor_lt_two_pow (Nat.and_lt_two_pow _ hs.b) (Nat.and_lt_two_pow _ hs.c)) (Nat.and_lt_two_pow _ hs.c)
  have hch : (s.e &&& s.f) ^^^ ((4294967296 - 1 - s.e) &&& s.g) = ch 32 s.e s.f s.g := (ch_xor hs.e).symm
  have hmj : ((s.a &&& s.b) ^^^ (s.a &&& s.c)) ^^^ (s.b &&& s.c) = maj s.a s.b s.c := (maj_xor _ _ _).symm
  rw [hch] at e4
  rw [hmj] at f5
  have hw : ∀ p q : Nat, IntKind.u32.wrap ((p : Int) + (q : Int)) = (((p + q) % 4294967296 : Nat) : Int) := by intro p q; rw [IntKind.wrap_u32]; omega
  refine ⟨_, _, _, _, _, _, _, _, _, _, _, _, _, _, _, _, _, _, e1, e2, e3, e4, f1, f2, f3, f4, f5, rfl, rfl, hw _ _, hw _ _, hw _ _, hw _ _, hw _ _, hw _ _, hw _ _, ?_⟩
  unfold Sha.round Sha.t1 Sha.t2
  rw [show (2 : Nat) ^ 32 = 4294967296 by decide]
  generalize big 32 3 s.e = R1
  generalize big 32 0 s.a = R0
  generalize ch 32 s.e s.f s.g = C
  generalize maj s.a s.b s.c = J
  congr 1 <;> omega

theorem row8_size_32 : (Try.prog.info? 131).map (·.size) = some 8 := by kernel_rfl

set_option maxRecDepth 10000 in
set_option maxHeartbeats 4000000 in
theorem rounds_32 (b : ByteArray) (w : World) (s : St) (hs : s.Small 32) (hb : b.size = 64) (hk : Kon KQ w) :
    Calls Try.prog 88 #[.agg plan32, .agg (valsK .u32 s.list), .string b] w fun e w' =>
      e = .returned (.agg (valsK .u32 (Sha.block 32 (kAt KQ 32) s (nums b)).list)) ∧ Below w.heap.size w w' := by
  have hpos : 0 < w.heap.size := hk.pos
  obtain ⟨m, hm⟩ : ∃ m, m = wordsOf 32 (nums b) := ⟨_, rfl⟩
  have hml : ∀ j < 16, m j < 2 ^ 32 := by
    intro j _
    rw [hm]
    refine Nat.lt_of_lt_of_le (beVal_lt _ fun c hc => nums_lt b c (List.mem_of_mem_drop (List.mem_of_mem_take hc))) ?_
    rw [show (2 : Nat) ^ 32 = 256 ^ (32 / 8) by decide]
    exact Nat.pow_le_pow_right (by decide) (by rw [List.length_take]; omega)
  have HML := Lib.hid (fun i => word_lt hml i); clear hml
  have hsc := fun X => sched_32 b X hb
  rw [← hm] at hsc
  obtain ⟨l, hl⟩ : ∃ l, l = upTo 32 m 64 := ⟨_, rfl⟩
  rw [← hl] at hsc
  have HSC := Lib.hid hsc; clear hsc
  have HL := Lib.hid hl; clear hl
  have HM := Lib.hid hm; clear hm
  have HK := Lib.hid hk; clear hk
  have HPOS := Lib.hid hpos; clear hpos
  have HS := Lib.hid hs; clear hs
  have HB := Lib.hid hb; clear hb
  have hz := zero80_32.1
  have hne := zeros_ne_32
  have hsg : IntKind.u32.signed = false := rfl
  have hll : (valsK .u32 l).size = 80 := by rw [valsK_size, HL.out, upTo_length]
  unfold plan32
  go_enter Try.func88, Try.ntmps88
  go_wp2_with fail
  refine (HSC.out _).mono ?_
  rintro e w1 ⟨rfl, hb1⟩
  have b0 : w1.heap[w.heap.size]? = some (.cells plan32 129 (0, 0)) := keepBlock (keepAlloc (keepAlloc (heap_alloc_new w _) _) _) hb1
  have b1 : Wd .u32 131 (w.heap.size + 1) s.list w1 := by
    have := keepBlock (keepAlloc (heap_alloc_new (w.alloc (.cells plan32 129)) (.cells (valsK .u32 s.list) 131)) _) hb1
    rwa [alloc_size] at this
  have b2 : Wd .u32 131 (w.heap.size + 1 + 1) [0, 0, 0, 0, 0, 0, 0, 0] w1 := by
    have := keepBlock (heap_alloc_new ((w.alloc (.cells plan32 129)).alloc (.cells (valsK .u32 s.list) 131)) _) hb1
    rwa [alloc_size, alloc_size] at this
  have b3 : Kon KQ w1 := (((HK.out.alloc _).alloc _).alloc _).next hb1
  have b4 : Below w.heap.size w w1 := below_link (below_alloc (below_alloc ((Below.refl _ _).alloc (Nat.le_refl _) _) _) _) hb1
  have b5 : w.heap.size + 1 + 1 < w1.heap.size := (Array.getElem?_eq_some_iff.1 b2).1
  have st1 := storeNew w1 145 (valsK .u32 zeros80) (valsK .u32 l) (by rw [hll]; exact zero80_32.2) (by rw [hll]; rfl) (valsK_one _ _)
  have BB := Lib.hid (And.intro b0 (And.intro b1 (And.intro b2 (And.intro b3 (And.intro b4 b5)))))
  have hv1 : Wd .u32 131 (w.heap.size + 1) s.list (w1.alloc (.cells (valsK .u32 l) 145)) := keepAlloc b1 _
  have c0 := hv1.cell (j := 0) (x := s.a) rfl
  have c1 := hv1.cell (j := 1) (x := s.b) rfl
  have c2 := hv1.cell (j := 2) (x := s.c) rfl
  have c3 := hv1.cell (j := 3) (x := s.d) rfl
  have c4 := hv1.cell (j := 4) (x := s.e) rfl
  have c5 := hv1.cell (j := 5) (x := s.f) rfl
  have c6 := hv1.cell (j := 6) (x := s.g) rfl
  have c7 := hv1.cell (j := 7) (x := s.h) rfl
  clear hv1
  have hR0 : Rn32 KQ w w1.heap.size l s.list s ((w1.alloc (.cells (valsK .u32 l) 145)).alloc (.cells #[.int .u32 (s.a : Nat), .int .u32 (s.b : Nat), .int .u32 (s.c : Nat), .int .u32 (s.d : Nat), .int .u32 (s.e : Nat), .int .u32 (s.f : Nat), .int .u32 (s.g : Nat), .int .u32 (s.h : Nat)] 131)) :=
    ⟨keepAlloc (keepAlloc b0 _) _, keepAlloc (keepAlloc b1 _) _, keepAlloc (keepAlloc b2 _) _, keepAlloc (heap_alloc_new w1 _) _,
     by have := heap_alloc_new (w1.alloc (.cells (valsK .u32 l) 145)) (.cells (valsK .u32 s.list) 131); rw [alloc_size] at this; exact this,
     (b3.alloc _).alloc _, b5, HPOS.out, below_alloc (below_alloc b4 _) _⟩
  have cp : ((w1.alloc (.cells (valsK .u32 l) 145)).alloc (.cells #[.int .u32 (s.a : Nat), .int .u32 (s.b : Nat), .int .u32 (s.c : Nat), .int .u32 (s.d : Nat), .int .u32 (s.e : Nat), .int .u32 (s.f : Nat), .int .u32 (s.g : Nat), .int .u32 (s.h : Nat)] 131)).cell? ⟨w.heap.size, 1, none⟩ = some (.int .i64 64) := hR0.plan 1
  have HR0 := Lib.hid hR0; clear hR0
  clear b0 b1 b2 b3 b4 b5 hb1
  go_wp2_with fail
  clear c0 c1 c2 c3 c4 c5 c6 c7 st1 cp hz hne
  go_loopw [24] (fun x wr => ∃ i : Nat, i ≤ 64 ∧ x = .int .i64 (i : Nat) ∧ Rn32 KQ w w1.heap.size l s.list (Sha.rounds 32 (kAt KQ 32) m i s) wr) (fun x _ => 64 - (intOf x).toNat)
  case atStart => exact ⟨0, Nat.zero_le _, rfl, HR0.out⟩
  case round =>
    obtain ⟨i, hi, rfl, hR⟩ := hrel
    obtain ⟨Wb, hWb⟩ : ∃ Wb, Wb = w1.heap.size := ⟨_, rfl⟩
    rw [← hWb] at hR ⊢
    by_cases hlt : i < 64
    · obtain ⟨v, hv⟩ : ∃ v, v = Sha.rounds 32 (kAt KQ 32) m i s := ⟨_, rfl⟩
      have hsm : v.Small 32 := by rw [hv]; exact rounds_small i HS.out
      have hnx : Sha.rounds 32 (kAt KQ 32) m (i + 1) s = Sha.round 32 (kAt KQ 32 i) (word 32 m i) v := by rw [hv]; rfl
      rw [← hv] at hR
      clear hv
      obtain ⟨x, hx⟩ : ∃ x, x = word 32 m i := ⟨_, rfl⟩
      have hxl : x < 4294967296 := by rw [hx]; exact HML.out i
      have hxi : l[i]? = some x := by rw [HL.out, upTo_get _ _ _ _ (by omega), if_pos hlt, hx]
      rw [← hx] at hnx
      obtain ⟨kk, hkk⟩ : ∃ kk, kk = KQ.ks.getD i 0 := ⟨_, rfl⟩
      have hkc := hR.hk.cell (ks_get i (by omega))
      rw [← hkk] at hkc
      obtain ⟨kc, ekc⟩ : ∃ kc, kc = kAt KQ 32 i := ⟨_, rfl⟩
      rw [← ekc] at hnx
      have hkl : kk < 18446744073709551616 := by rw [hkk]; exact ks_at_lt i (by omega)
      have k1 : (kk : Int) / 4294967296 = (kc : Int) := by rw [ekc, kAt, ← hkk]; omega
      have k2 : IntKind.u32.wrap (kc : Int) = (kc : Int) := by
        have : kc < 4294967296 := by rw [ekc, kAt, ← hkk]; omega
        rw [IntKind.wrap_u32]; omega
      obtain ⟨n1, n2, n3, n4, m1, m2, m3, m4, m5, r1, r0, t1, t2, t3, t4, u, y, z, e1, e2, e3, e4, f1, f2, f3, f4, f5, g1, g0, p1, p2, p3, p4, p5, p6, p7, hrd⟩ := round_parts_32 kc x v hsm hxl
      rw [hrd] at hnx
      obtain ⟨a, b', c, d, e, f, g, h⟩ := v
      simp only at *
      have F1 : ∀ X, Calls Try.prog 102 #[.int .u32 (e : Nat), .agg #[.int .i64 6, .int .i64 11, .int .i64 25], .int .i64 32] X fun e' w' => e' = .returned (.int .u32 (r1 : Nat)) ∧ Below X.heap.size X w' := by
        intro X; rw [g1]; exact rotations_32 e 6 11 25 X hsm.e (by decide) (by decide) (by decide)
      have F0 : ∀ X, Calls Try.prog 102 #[.int .u32 (a : Nat), .agg #[.int .i64 2, .int .i64 13, .int .i64 22], .int .i64 32] X fun e' w' => e' = .returned (.int .u32 (r0 : Nat)) ∧ Below X.heap.size X w' := by
        intro X; rw [g0]; exact rotations_32 a 2 13 22 X hsm.a (by decide) (by decide) (by decide)
      have G1 := Lib.hid F1; clear F1
      have G0 := Lib.hid F0; clear F0
      have HNX := Lib.hid hnx; clear hnx
      have HR := Lib.hid (fun X (q : Rn32 KQ w Wb l s.list ⟨a, b', c, d, e, f, g, h⟩ X) => q.look (i := i) (x := x) (h := h) hxi rfl)
      have HWB := Lib.hid hWb
      have j1 : (i : Int) < 80 := by omega
      have v0 := hR.hv.cell (j := 0) (x := a) rfl
      have v1 := hR.hv.cell (j := 1) (x := b') rfl
      have v2 := hR.hv.cell (j := 2) (x := c) rfl
      have v3 := hR.hv.cell (j := 3) (x := d) rfl
      have v4 := hR.hv.cell (j := 4) (x := e) rfl
      have v5 := hR.hv.cell (j := 5) (x := f) rfl
      have v6 := hR.hv.cell (j := 6) (x := g) rfl
      have v7 := hR.hv.cell (j := 7) (x := h) rfl
      have q0 : wr.cell? ⟨w.heap.size, 0, none⟩ = some (.int .i64 32) := hR.plan 0
      have RR := Lib.hid hR; clear hR
      clear hWb hkk ekc hkl hx hxl hxi hsm hrd g1 g0
      go_wp2_with fail
      go_region
      go_wp2_with fail
      go_quiet (fail)
      go_wp2_with fail
      have hY := RR.out.drew.drewN nq
      obtain ⟨Y, eY⟩ : ∃ Y, Y = wr.drew.drewN nq := ⟨_, rfl⟩
      rw [← eY] at hY ⊢
      have hYd := hY.drew
      clear eY v0 v1 v2 v3 v4 v5 v6 v7 q0 hkc
      go_region_held3 (fun X => X.cell? ⟨w.heap.size, 0, none⟩ = some (.int .i64 32) ∧ X.cell? ⟨w.heap.size, 5, none⟩ = some (.int .i64 6) ∧ X.cell? ⟨w.heap.size, 6, none⟩ = some (.int .i64 11) ∧ X.cell? ⟨w.heap.size, 7, none⟩ = some (.int .i64 25) ∧ X.cell? ⟨Wb + 1, 7, none⟩ = some (.int .u32 (h : Nat)) ∧ X.cell? ⟨Wb, i, none⟩ = some (.int .u32 (x : Nat))) ((refine HR.out _ ?_; (with_reducible assumption)))
        (first | (go_at_call 102; with_reducible refine (G1.out _).mono ?_; rintro e' w' ⟨rfl, hbw⟩; have hbx' := Rn32.next (by with_reducible assumption) hbw))
      all_goals
        clear hY hYd
        have q0 : w'.cell? ⟨w.heap.size, 0, none⟩ = some (.int .i64 32) := hbx'.plan 0
        have q1 : w'.cell? ⟨w.heap.size, 2, none⟩ = some (.int .i64 2) := hbx'.plan 2
        have q2 : w'.cell? ⟨w.heap.size, 3, none⟩ = some (.int .i64 13) := hbx'.plan 3
        have q3 : w'.cell? ⟨w.heap.size, 4, none⟩ = some (.int .i64 22) := hbx'.plan 4
        have R2 := Lib.hid hbx'; clear hbx' hbw
        go_wp2_with fail
        refine (G0.out _).mono ?_
        rintro e' w2 ⟨rfl, hbw⟩
        have hbx' := R2.out.next hbw
        clear q0 q1 q2 q3 hbw
        have v0 := hbx'.hv.cell (j := 0) (x := a) rfl
        have v1 := hbx'.hv.cell (j := 1) (x := b') rfl
        have v2 := hbx'.hv.cell (j := 2) (x := c) rfl
        have v3 := hbx'.hv.cell (j := 3) (x := d) rfl
        have v4 := hbx'.hv.cell (j := 4) (x := e) rfl
        have v5 := hbx'.hv.cell (j := 5) (x := f) rfl
        have v6 := hbx'.hv.cell (j := 6) (x := g) rfl
        have v7 := hbx'.hv.cell (j := 7) (x := h) rfl
        have z0 := hbx'.hv.frozen 0
        have z1 := hbx'.hv.frozen 1
        have z2 := hbx'.hv.frozen 2
        have z3 := hbx'.hv.frozen 3
        have z4 := hbx'.hv.frozen 4
        have z5 := hbx'.hv.frozen 5
        have z6 := hbx'.hv.frozen 6
        have z7 := hbx'.hv.frozen 7
        have R3 := Lib.hid (hbx'.put ⟨y, a, b', c, z, e, f, g⟩); clear hbx'
        go_wp2
        go_roundw
        case rel => exact ⟨i + 1, by omega, by go_num, by rw [HNX.out]; exact R3.out⟩
        case measure => simp [intOf]; omega
    · obtain rfl : i = 64 := by omega
      obtain ⟨v, hv⟩ : ∃ v, v = Sha.rounds 32 (kAt KQ 32) m 64 s := ⟨_, rfl⟩
      rw [← hv] at hR
      have HV := Lib.hid hv; clear hv
      have HR := Lib.hid hR; clear hR
      have HWB := Lib.hid hWb; clear hWb
      go_wp2
      go_loopw [108] (fun x wr => ∃ j : Nat, j ≤ 8 ∧ x = .int .i64 (j : Nat) ∧ Rn32 KQ w Wb l (mixAt 32 s v j) v wr) (fun x _ => 8 - (intOf x).toNat)
      case atStart => exact ⟨0, Nat.zero_le _, rfl, HR.out⟩
      case round =>
        obtain ⟨j, hj, rfl, hR⟩ := hrel
        by_cases hlj : j < 8
        · obtain ⟨x, y, h1, h2, h3⟩ := mix_step 32 s v j hlj
          have c1 := hR.hh.cell h1
          have c2 := hR.hv.cell h2
          have c3 := hR.hh.frozen j
          obtain ⟨z, hz⟩ : ∃ z, z = (x + y) % 2 ^ 32 := ⟨_, rfl⟩
          rw [← hz] at h3
          have s1 : IntKind.u32.wrap ((x : Int) + (y : Int)) = (z : Int) := by rw [hz, IntKind.wrap_u32]; omega
          have j1 : (j : Int) < 8 := by omega
          have H3 := Lib.hid h3; clear h3 hz h1 h2
          have RR := Lib.hid hR; clear hR
          go_wp2
          go_region
          all_goals (go_wp2; go_roundw)
          all_goals first
            | exact ⟨j + 1, by omega, by go_num, by rw [← H3.out]; exact (RR.out.stepH j z).drew⟩
            | exact ⟨j + 1, by omega, by go_num, by rw [← H3.out]; exact RR.out.drew.stepH j z⟩
            | (simp [intOf]; omega)
        · obtain rfl : j = 8 := by omega
          obtain ⟨t, ht⟩ : ∃ t, t = s.add 32 v := ⟨_, rfl⟩
          have hm8 : mixAt 32 s v 8 = t.list := by rw [ht]; rfl
          rw [hm8] at hR
          have HT := Lib.hid ht; clear ht hm8
          have v0 := hR.hh.cell (j := 0) (x := t.a) rfl
          have v1 := hR.hh.cell (j := 1) (x := t.b) rfl
          have v2 := hR.hh.cell (j := 2) (x := t.c) rfl
          have v3 := hR.hh.cell (j := 3) (x := t.d) rfl
          have v4 := hR.hh.cell (j := 4) (x := t.e) rfl
          have v5 := hR.hh.cell (j := 5) (x := t.f) rfl
          have v6 := hR.hh.cell (j := 6) (x := t.g) rfl
          have v7 := hR.hh.cell (j := 7) (x := t.h) rfl
          have y0 := hR.hr.cell (j := 0) (x := 0) rfl
          have z0 := hR.hr.frozen 0
          have y1 := hR.hr.cell (j := 1) (x := 0) rfl
          have z1 := hR.hr.frozen 1
          have y2 := hR.hr.cell (j := 2) (x := 0) rfl
          have z2 := hR.hr.frozen 2
          have y3 := hR.hr.cell (j := 3) (x := 0) rfl
          have z3 := hR.hr.frozen 3
          have y4 := hR.hr.cell (j := 4) (x := 0) rfl
          have z4 := hR.hr.frozen 4
          have y5 := hR.hr.cell (j := 5) (x := 0) rfl
          have z5 := hR.hr.frozen 5
          have y6 := hR.hr.cell (j := 6) (x := 0) rfl
          have z6 := hR.hr.frozen 6
          have y7 := hR.hr.cell (j := 7) (x := 0) rfl
          have z7 := hR.hr.frozen 7
          have RR := Lib.hid hR; clear hR
          go_wp2
          refine bodyPost_ret (results_cell_row rfl _ _ (w.heap.size + 1 + 1) 131 (valsK .u32 t.list) (0, 0) _ rfl (put8_same_32 t RR.out.hr) Try.underlying131 rfl row8_size_32) rfl ⟨?_, put8_below_32 t RR.out.below (by omega)⟩
          rw [HT.out, HV.out, HM.out]
          rfl

theorem not_64 (a : Nat) (ha : a < 18446744073709551616) : bits .xor .u64 IntKind.u64.max (a : Int) = ((18446744073709551616 - 1 - a : Nat) : Int) := by
  have h := u64_xor_nat (18446744073709551616 - 1) a (by decide) ha
  have e : (18446744073709551616 - 1 : Nat) ^^^ a = 18446744073709551616 - 1 - a := ones_xor (w := 64) ha
  rw [e] at h
  exact h

/-- Eight words stored one by one. -/
def put8_64 (w : World) (g : Nat) (s : St) : World :=
  (((((((w.setCell ⟨g, 0, none⟩ (.int .u64 (s.a : Nat))).setCell ⟨g, 1, none⟩ (.int .u64 (s.b : Nat))).setCell ⟨g, 2, none⟩ (.int .u64 (s.c : Nat))).setCell ⟨g, 3, none⟩ (.int .u64 (s.d : Nat))).setCell ⟨g, 4, none⟩ (.int .u64 (s.e : Nat))).setCell ⟨g, 5, none⟩ (.int .u64 (s.f : Nat))).setCell ⟨g, 6, none⟩ (.int .u64 (s.g : Nat))).setCell ⟨g, 7, none⟩ (.int .u64 (s.h : Nat))

theorem put8_same_64 {w : World} {g : Nat} {x0 x1 x2 x3 x4 x5 x6 x7 : Nat} {T : TypeId} (t : St) (h : Wd .u64 T g [x0, x1, x2, x3, x4, x5, x6, x7] w) : Wd .u64 T g t.list (put8_64 w g t) :=
  (((((((h.set 0 t.a).set 1 t.b).set 2 t.c).set 3 t.d).set 4 t.e).set 5 t.f).set 6 t.g).set 7 t.h
theorem put8_other_64 (w : World) (g k : Nat) (t : St) (h : k ≠ g) : (put8_64 w g t).heap[k]? = w.heap[k]? := by
  unfold put8_64
  rw [heap_setCell_other _ _ _ _ h, heap_setCell_other _ _ _ _ h, heap_setCell_other _ _ _ _ h, heap_setCell_other _ _ _ _ h, heap_setCell_other _ _ _ _ h, heap_setCell_other _ _ _ _ h, heap_setCell_other _ _ _ _ h, heap_setCell_other _ _ _ _ h]
theorem put8_below_64 {B : Nat} {a w : World} {g : Nat} (t : St) (h : Below B a w) (hg : B ≤ g) : Below B a (put8_64 w g t) :=
  (((((((h.setCell hg _).setCell hg _).setCell hg _).setCell hg _).setCell hg _).setCell hg _).setCell hg _).setCell hg _

/-- The memory of rounds. -/
structure Rn64 (KQ : KTab) (w : World) (Wb : Nat) (l hl : List Nat) (v : St) (X : World) : Prop where
  hp : X.heap[w.heap.size]? = some (.cells plan64 129 (0, 0))
  hh : Wd .u64 136 (w.heap.size + 1) hl X
  hr : Wd .u64 136 (w.heap.size + 1 + 1) [0, 0, 0, 0, 0, 0, 0, 0] X
  hw : Wd .u64 147 Wb l X
  hv : Wd .u64 136 (Wb + 1) v.list X
  hk : Kon KQ X
  lt : w.heap.size + 1 + 1 < Wb
  pos : 0 < w.heap.size
  below : Below w.heap.size w X

theorem Rn64.next {w X Y : World} {Wb : Nat} {l hl : List Nat} {v : St} (h : Rn64 KQ w Wb l hl v X) (hb : Below X.heap.size X Y) : Rn64 KQ w Wb l hl v Y :=
  ⟨keepBlock h.hp hb, keepBlock h.hh hb, keepBlock h.hr hb, keepBlock h.hw hb, keepBlock h.hv hb, h.hk.next hb, h.lt, h.pos, below_link h.below hb⟩
theorem Rn64.drew {w X : World} {Wb : Nat} {l hl : List Nat} {v : St} (h : Rn64 KQ w Wb l hl v X) : Rn64 KQ w Wb l hl v X.drew :=
  ⟨h.hp, h.hh, h.hr, h.hw, h.hv, h.hk, h.lt, h.pos, h.below.drew⟩
theorem Rn64.drewN {w X : World} {Wb : Nat} {l hl : List Nat} {v : St} (h : Rn64 KQ w Wb l hl v X) (n : Nat) : Rn64 KQ w Wb l hl v (X.drewN n) := h.next (below_drewN X n)
theorem Rn64.put {w X : World} {Wb : Nat} {l hl : List Nat} {v : St} (h : Rn64 KQ w Wb l hl v X) (t : St) : Rn64 KQ w Wb l hl t (put8_64 X (Wb + 1) t) where
  hp := by have := h.lt; rw [put8_other_64 _ _ _ _ (by omega)]; exact h.hp
  hh := by have := h.lt; unfold Wd; rw [put8_other_64 _ _ _ _ (by omega)]; exact h.hh
  hr := by have := h.lt; unfold Wd; rw [put8_other_64 _ _ _ _ (by omega)]; exact h.hr
  hw := by have := h.lt; unfold Wd; rw [put8_other_64 _ _ _ _ (by omega)]; exact h.hw
  hv := put8_same_64 t h.hv
  hk := h.hk.of_heap (by have := h.lt; exact put8_other_64 _ _ _ _ (by omega))
  lt := h.lt
  pos := h.pos
  below := put8_below_64 t h.below (by have := h.lt; omega)
theorem Rn64.plan {w X : World} {Wb : Nat} {l hl : List Nat} {v : St} (h : Rn64 KQ w Wb l hl v X) (j : Nat) : X.cell? ⟨w.heap.size, j, none⟩ = plan64[j]? := cell_of_row _ _ _ _ _ _ h.hp

theorem Rn64.look {w X : World} {Wb : Nat} {l hl : List Nat} {v : St} (q : Rn64 KQ w Wb l hl v X) {i x h : Nat} (hx : l[i]? = some x) (hh : v.h = h) :
    X.cell? ⟨w.heap.size, 0, none⟩ = some (.int .i64 64) ∧ X.cell? ⟨w.heap.size, 5, none⟩ = some (.int .i64 14) ∧ X.cell? ⟨w.heap.size, 6, none⟩ = some (.int .i64 18) ∧ X.cell? ⟨w.heap.size, 7, none⟩ = some (.int .i64 41) ∧ X.cell? ⟨Wb + 1, 7, none⟩ = some (.int .u64 (h : Nat)) ∧ X.cell? ⟨Wb, i, none⟩ = some (.int .u64 (x : Nat)) :=
  ⟨q.plan 0, q.plan 5, q.plan 6, q.plan 7, by rw [← hh]; exact q.hv.cell rfl, q.hw.cell hx⟩

theorem Rn64.stepH {w X : World} {Wb : Nat} {l hl : List Nat} {v : St} (h : Rn64 KQ w Wb l hl v X) (j x : Nat) : Rn64 KQ w Wb l (hl.set j x) v (X.setCell ⟨w.heap.size + 1, j, none⟩ (.int .u64 (x : Nat))) where
  hp := by have := h.lt; rw [heap_setCell_other _ _ _ _ (by simp only []; omega)]; exact h.hp
  hh := h.hh.set j x
  hr := by have := h.lt; unfold Wd; rw [heap_setCell_other _ _ _ _ (by simp only []; omega)]; exact h.hr
  hw := by have := h.lt; unfold Wd; rw [heap_setCell_other _ _ _ _ (by simp only []; omega)]; exact h.hw
  hv := by have := h.lt; unfold Wd; rw [heap_setCell_other _ _ _ _ (by simp only []; omega)]; exact h.hv
  hk := h.hk.of_heap (by have := h.lt; exact heap_setCell_other _ _ _ _ (by simp only []; omega))
  lt := h.lt
  pos := h.pos
  below := h.below.setCell (by simp only []; omega) _

/-- What one round reckons, step by step. -/
theorem round_parts_64 (k x : Nat) (s : St) (hs : s.Small 64) (hx : x < 18446744073709551616) :
    ∃ n1 n2 n3 n4 m1 m2 m3 m4 m5 r1 r0 t1 t2 t3 t4 u y z : Nat,
      bits .and .u64 (s.e : Int) (s.f : Int) = (n1 : Int) ∧ bits .xor .u64 IntKind.u64.max (s.e : Int) = (n2 : Int) ∧ bits .and .u64 (n2 : Int) (s.g : Int) = (n3 : Int) ∧ bits .xor .u64 (n1 : Int) (n3 : Int) = (n4 : Int) ∧
      bits .and .u64 (s.a : Int) (s.b : Int) = (m1 : Int) ∧ bits .and .u64 (s.a : Int) (s.c : Int) = (m2 : Int) ∧ bits .and .u64 (s.b : Int) (s.c : Int) = (m3 : Int) ∧ bits .xor .u64 (m1 : Int) (m2 : Int) = (m4 : Int) ∧ bits .xor .u64 (m4 : Int) (m3 : Int) = (m5 : Int) ∧
      r1 = big 64 3 s.e ∧ r0 = big 64 0 s.a ∧
      IntKind.u64.wrap ((s.h : Int) + (r1 : Int)) = (t1 : Int) ∧ IntKind.u64.wrap ((t1 : Int) + (n4 : Int)) = (t2 : Int) ∧ IntKind.u64.wrap ((t2 : Int) + (k : Int)) = (t3 : Int) ∧ IntKind.u64.wrap ((t3 : Int) + (x : Int)) = (t4 : Int) ∧
      IntKind.u64.wrap ((r0 : Int) + (m5 : Int)) = (u : Int) ∧ IntKind.u64.wrap ((t4 : Int) + (u : Int)) = (y : Int) ∧ IntKind.u64.wrap ((s.d : Int) + (t4 : Int)) = (z : Int) ∧
      Sha.round 64 k x s = ⟨y, s.a, s.b, s.c, z, s.e, s.f, s.g⟩ := by
  have n2l : 18446744073709551616 - 1 - s.e < 2 ^ 64 := Nat.lt_of_le_of_lt (Nat.sub_le _ _) (by decide)
  have e1 := u64_and_nat s.e s.f hs.e hs.f
  have e2 := not_64 s.e hs.e
  have e3 := u64_and_nat (18446744073709551616 - 1 - s.e) s.g n2l hs.g
  have e4 := u64_xor_nat (s.e &&& s.f) ((18446744073709551616 - 1 - s.e) &&& s.g) (Nat.and_lt_two_pow _ hs.f) (Nat.and_lt_two_pow _ hs.g)
  have f1 := u64_and_nat s.a s.b hs.a hs.b
  have f2 := u64_and_nat s.a s.c hs.a hs.c
  have f3 := u64_and_nat s.b s.c hs.b hs.c
  have f4 := u64_xor_nat (s.a &&& s.b) (s.a &&& s.c) (Nat.and_lt_two_pow _ hs.b) (Nat.and_lt_two_pow _ hs.c)
  have f5 := u64_xor_nat ((s.a &&& s.b) ^^^ (s.a &&& s.c)) (s.b &&& s.c) (Nat.xor_lt_two_pow (Nat.and_lt_two_pow _ hs.b) (Nat.and_lt_two_pow _ hs.c)) (Nat.and_lt_two_pow _ hs.c)
  have hch : (s.e &&& s.f) ^^^ ((18446744073709551616 - 1 - s.e) &&& s.g) = ch 64 s.e s.f s.g := (ch_xor hs.e).symm
  have hmj : ((s.a &&& s.b) ^^^ (s.a &&& s.c)) ^^^ (s.b &&& s.c) = maj s.a s.b s.c := (maj_xor _ _ _).symm
  rw [hch] at e4
  rw [hmj] at f5
  have hw : ∀ p q : Nat, IntKind.u64.wrap ((p : Int) + (q : Int)) = (((p + q) % 18446744073709551616 : Nat) : Int) := by intro p q; rw [IntKind.wrap_u64]; omega
  refine ⟨_, _, _, _, _, _, _, _, _, _, _, _, _, _, _, _, _, _, e1, e2, e3, e4, f1, f2, f3, f4, f5, rfl, rfl, hw _ _, hw _ _, hw _ _, hw _ _, hw _ _, hw _ _, hw _ _, ?_⟩
  unfold Sha.round Sha.t1 Sha.t2
  rw [show (2 : Nat) ^ 64 = 18446744073709551616 by decide]
  generalize big 64 3 s.e = R1
  generalize big 64 0 s.a = R0
  generalize ch 64 s.e s.f s.g = C
  generalize maj s.a s.b s.c = J
  congr 1 <;> omega

theorem row8_size_64 : (Try.prog.info? 136).map (·.size) = some 8 := by kernel_rfl

set_option maxRecDepth 10000 in
set_option maxHeartbeats 4000000 in
theorem rounds_64 (b : ByteArray) (w : World) (s : St) (hs : s.Small 64) (hb : b.size = 128) (hk : Kon KQ w) :
    Calls Try.prog 91 #[.agg plan64, .agg (valsK .u64 s.list), .string b] w fun e w' =>
      e = .returned (.agg (valsK .u64 (Sha.block 64 (kAt KQ 64) s (nums b)).list)) ∧ Below w.heap.size w w' := by
  have hpos : 0 < w.heap.size := hk.pos
  obtain ⟨m, hm⟩ : ∃ m, m = wordsOf 64 (nums b) := ⟨_, rfl⟩
  have hml : ∀ j < 16, m j < 2 ^ 64 := by
    intro j _
    rw [hm]
    refine Nat.lt_of_lt_of_le (beVal_lt _ fun c hc => nums_lt b c (List.mem_of_mem_drop (List.mem_of_mem_take hc))) ?_
    rw [show (2 : Nat) ^ 64 = 256 ^ (64 / 8) by decide]
    exact Nat.pow_le_pow_right (by decide) (by rw [List.length_take]; omega)
  have HML := Lib.hid (fun i => word_lt hml i); clear hml
  have hsc := fun X => sched_64 b X hb
  rw [← hm] at hsc
  obtain ⟨l, hl⟩ : ∃ l, l = upTo 64 m 80 := ⟨_, rfl⟩
  rw [← hl] at hsc
  have HSC := Lib.hid hsc; clear hsc
  have HL := Lib.hid hl; clear hl
  have HM := Lib.hid hm; clear hm
  have HK := Lib.hid hk; clear hk
  have HPOS := Lib.hid hpos; clear hpos
  have HS := Lib.hid hs; clear hs
  have HB := Lib.hid hb; clear hb
  have hz := zero80_64.1
  have hne := zeros_ne_64
  have hsg : IntKind.u64.signed = false := rfl
  have hll : (valsK .u64 l).size = 80 := by rw [valsK_size, HL.out, upTo_length]
  unfold plan64
  go_enter Try.func91, Try.ntmps91
  go_wp2_with fail
  refine (HSC.out _).mono ?_
  rintro e w1 ⟨rfl, hb1⟩
  have b0 : w1.heap[w.heap.size]? = some (.cells plan64 129 (0, 0)) := keepBlock (keepAlloc (keepAlloc (heap_alloc_new w _) _) _) hb1
  have b1 : Wd .u64 136 (w.heap.size + 1) s.list w1 := by
    have := keepBlock (keepAlloc (heap_alloc_new (w.alloc (.cells plan64 129)) (.cells (valsK .u64 s.list) 136)) _) hb1
    rwa [alloc_size] at this
  have b2 : Wd .u64 136 (w.heap.size + 1 + 1) [0, 0, 0, 0, 0, 0, 0, 0] w1 := by
    have := keepBlock (heap_alloc_new ((w.alloc (.cells plan64 129)).alloc (.cells (valsK .u64 s.list) 136)) _) hb1
    rwa [alloc_size, alloc_size] at this
  have b3 : Kon KQ w1 := (((HK.out.alloc _).alloc _).alloc _).next hb1
  have b4 : Below w.heap.size w w1 := below_link (below_alloc (below_alloc ((Below.refl _ _).alloc (Nat.le_refl _) _) _) _) hb1
  have b5 : w.heap.size + 1 + 1 < w1.heap.size := (Array.getElem?_eq_some_iff.1 b2).1
  have st1 := storeNew w1 147 (valsK .u64 zeros80) (valsK .u64 l) (by rw [hll]; exact zero80_64.2) (by rw [hll]; rfl) (valsK_one _ _)
  have BB := Lib.hid (And.intro b0 (And.intro b1 (And.intro b2 (And.intro b3 (And.intro b4 b5)))))
  have hv1 : Wd .u64 136 (w.heap.size + 1) s.list (w1.alloc (.cells (valsK .u64 l) 147)) := keepAlloc b1 _
  have c0 := hv1.cell (j := 0) (x := s.a) rfl
  have c1 := hv1.cell (j := 1) (x := s.b) rfl
  have c2 := hv1.cell (j := 2) (x := s.c) rfl
  have c3 := hv1.cell (j := 3) (x := s.d) rfl
  have c4 := hv1.cell (j := 4) (x := s.e) rfl
  have c5 := hv1.cell (j := 5) (x := s.f) rfl
  have c6 := hv1.cell (j := 6) (x := s.g) rfl
  have c7 := hv1.cell (j := 7) (x := s.h) rfl
  clear hv1
  have hR0 : Rn64 KQ w w1.heap.size l s.list s ((w1.alloc (.cells (valsK .u64 l) 147)).alloc (.cells #[.int .u64 (s.a : Nat), .int .u64 (s.b : Nat), .int .u64 (s.c : Nat), .int .u64 (s.d : Nat), .int .u64 (s.e : Nat), .int .u64 (s.f : Nat), .int .u64 (s.g : Nat), .int .u64 (s.h : Nat)] 136)) :=
    ⟨keepAlloc (keepAlloc b0 _) _, keepAlloc (keepAlloc b1 _) _, keepAlloc (keepAlloc b2 _) _, keepAlloc (heap_alloc_new w1 _) _,
     by have := heap_alloc_new (w1.alloc (.cells (valsK .u64 l) 147)) (.cells (valsK .u64 s.list) 136); rw [alloc_size] at this; exact this,
     (b3.alloc _).alloc _, b5, HPOS.out, below_alloc (below_alloc b4 _) _⟩
  have cp : ((w1.alloc (.cells (valsK .u64 l) 147)).alloc (.cells #[.int .u64 (s.a : Nat), .int .u64 (s.b : Nat), .int .u64 (s.c : Nat), .int .u64 (s.d : Nat), .int .u64 (s.e : Nat), .int .u64 (s.f : Nat), .int .u64 (s.g : Nat), .int .u64 (s.h : Nat)] 136)).cell? ⟨w.heap.size, 1, none⟩ = some (.int .i64 80) := hR0.plan 1
  have HR0 := Lib.hid hR0; clear hR0
  clear b0 b1 b2 b3 b4 b5 hb1
  go_wp2_with fail
  clear c0 c1 c2 c3 c4 c5 c6 c7 st1 cp hz hne
  go_loopw [24] (fun x wr => ∃ i : Nat, i ≤ 80 ∧ x = .int .i64 (i : Nat) ∧ Rn64 KQ w w1.heap.size l s.list (Sha.rounds 64 (kAt KQ 64) m i s) wr) (fun x _ => 80 - (intOf x).toNat)
  case atStart => exact ⟨0, Nat.zero_le _, rfl, HR0.out⟩
  case round =>
    obtain ⟨i, hi, rfl, hR⟩ := hrel
    obtain ⟨Wb, hWb⟩ : ∃ Wb, Wb = w1.heap.size := ⟨_, rfl⟩
    rw [← hWb] at hR ⊢
    by_cases hlt : i < 80
    · obtain ⟨v, hv⟩ : ∃ v, v = Sha.rounds 64 (kAt KQ 64) m i s := ⟨_, rfl⟩
      have hsm : v.Small 64 := by rw [hv]; exact rounds_small i HS.out
      have hnx : Sha.rounds 64 (kAt KQ 64) m (i + 1) s = Sha.round 64 (kAt KQ 64 i) (word 64 m i) v := by rw [hv]; rfl
      rw [← hv] at hR
      clear hv
      obtain ⟨x, hx⟩ : ∃ x, x = word 64 m i := ⟨_, rfl⟩
      have hxl : x < 18446744073709551616 := by rw [hx]; exact HML.out i
      have hxi : l[i]? = some x := by rw [HL.out, upTo_get _ _ _ _ (by omega), if_pos hlt, hx]
      rw [← hx] at hnx
      obtain ⟨kk, hkk⟩ : ∃ kk, kk = KQ.ks.getD i 0 := ⟨_, rfl⟩
      have hkc := hR.hk.cell (ks_get i (by omega))
      rw [← hkk] at hkc
      obtain ⟨kc, ekc⟩ : ∃ kc, kc = kAt KQ 64 i := ⟨_, rfl⟩
      rw [← ekc] at hnx
      have hkl : kk < 18446744073709551616 := by rw [hkk]; exact ks_at_lt i (by omega)
      have k1 : (kk : Int) / 1 = (kc : Int) := by rw [ekc, kAt, ← hkk]; simp
      have k2 : IntKind.u64.wrap (kc : Int) = (kc : Int) := by
        have : kc < 18446744073709551616 := by rw [ekc, kAt, ← hkk]; simpa using hkl
        rw [IntKind.wrap_u64]; omega
      obtain ⟨n1, n2, n3, n4, m1, m2, m3, m4, m5, r1, r0, t1, t2, t3, t4, u, y, z, e1, e2, e3, e4, f1, f2, f3, f4, f5, g1, g0, p1, p2, p3, p4, p5, p6, p7, hrd⟩ := round_parts_64 kc x v hsm hxl
      rw [hrd] at hnx
      obtain ⟨a, b', c, d, e, f, g, h⟩ := v
      simp only at *
      have F1 : ∀ X, Calls Try.prog 104 #[.int .u64 (e : Nat), .agg #[.int .i64 14, .int .i64 18, .int .i64 41], .int .i64 64] X fun e' w' => e' = .returned (.int .u64 (r1 : Nat)) ∧ Below X.heap.size X w' := by
        intro X; rw [g1]; exact rotations_64 e 14 18 41 X hsm.e (by decide) (by decide) (by decide)
      have F0 : ∀ X, Calls Try.prog 104 #[.int .u64 (a : Nat), .agg #[.int .i64 28, .int .i64 34, .int .i64 39], .int .i64 64] X fun e' w' => e' = .returned (.int .u64 (r0 : Nat)) ∧ Below X.heap.size X w' := by
        intro X; rw [g0]; exact rotations_64 a 28 34 39 X hsm.a (by decide) (by decide) (by decide)
      have G1 := Lib.hid F1; clear F1
      have G0 := Lib.hid F0; clear F0
      have HNX := Lib.hid hnx; clear hnx
      have HR := Lib.hid (fun X (q : Rn64 KQ w Wb l s.list ⟨a, b', c, d, e, f, g, h⟩ X) => q.look (i := i) (x := x) (h := h) hxi rfl)
      have HWB := Lib.hid hWb
      have j1 : (i : Int) < 80 := by omega
      have v0 := hR.hv.cell (j := 0) (x := a) rfl
      have v1 := hR.hv.cell (j := 1) (x := b') rfl
      have v2 := hR.hv.cell (j := 2) (x := c) rfl
      have v3 := hR.hv.cell (j := 3) (x := d) rfl
      have v4 := hR.hv.cell (j := 4) (x := e) rfl
      have v5 := hR.hv.cell (j := 5) (x := f) rfl
      have v6 := hR.hv.cell (j := 6) (x := g) rfl
      have v7 := hR.hv.cell (j := 7) (x := h) rfl
      have q0 : wr.cell? ⟨w.heap.size, 0, none⟩ = some (.int .i64 64) := hR.plan 0
      have RR := Lib.hid hR; clear hR
      clear hWb hkk ekc hkl hx hxl hxi hsm hrd g1 g0
      go_wp2_with fail
      go_region
      go_wp2_with fail
      go_quiet (fail)
      go_wp2_with fail
      have hY := RR.out.drew.drewN nq
      obtain ⟨Y, eY⟩ : ∃ Y, Y = wr.drew.drewN nq := ⟨_, rfl⟩
      rw [← eY] at hY ⊢
      have hYd := hY.drew
      clear eY v0 v1 v2 v3 v4 v5 v6 v7 q0 hkc
      go_region_held3 (fun X => X.cell? ⟨w.heap.size, 0, none⟩ = some (.int .i64 64) ∧ X.cell? ⟨w.heap.size, 5, none⟩ = some (.int .i64 14) ∧ X.cell? ⟨w.heap.size, 6, none⟩ = some (.int .i64 18) ∧ X.cell? ⟨w.heap.size, 7, none⟩ = some (.int .i64 41) ∧ X.cell? ⟨Wb + 1, 7, none⟩ = some (.int .u64 (h : Nat)) ∧ X.cell? ⟨Wb, i, none⟩ = some (.int .u64 (x : Nat))) ((refine HR.out _ ?_; (with_reducible assumption)))
        (first | (go_at_call 104; with_reducible refine (G1.out _).mono ?_; rintro e' w' ⟨rfl, hbw⟩; have hbx' := Rn64.next (by with_reducible assumption) hbw))
      all_goals
        clear hY hYd
        have q0 : w'.cell? ⟨w.heap.size, 0, none⟩ = some (.int .i64 64) := hbx'.plan 0
        have q1 : w'.cell? ⟨w.heap.size, 2, none⟩ = some (.int .i64 28) := hbx'.plan 2
        have q2 : w'.cell? ⟨w.heap.size, 3, none⟩ = some (.int .i64 34) := hbx'.plan 3
        have q3 : w'.cell? ⟨w.heap.size, 4, none⟩ = some (.int .i64 39) := hbx'.plan 4
        have R2 := Lib.hid hbx'; clear hbx' hbw
        go_wp2_with fail
        refine (G0.out _).mono ?_
        rintro e' w2 ⟨rfl, hbw⟩
        have hbx' := R2.out.next hbw
        clear q0 q1 q2 q3 hbw
        have v0 := hbx'.hv.cell (j := 0) (x := a) rfl
        have v1 := hbx'.hv.cell (j := 1) (x := b') rfl
        have v2 := hbx'.hv.cell (j := 2) (x := c) rfl
        have v3 := hbx'.hv.cell (j := 3) (x := d) rfl
        have v4 := hbx'.hv.cell (j := 4) (x := e) rfl
        have v5 := hbx'.hv.cell (j := 5) (x := f) rfl
        have v6 := hbx'.hv.cell (j := 6) (x := g) rfl
        have v7 := hbx'.hv.cell (j := 7) (x := h) rfl
        have z0 := hbx'.hv.frozen 0
        have z1 := hbx'.hv.frozen 1
        have z2 := hbx'.hv.frozen 2
        have z3 := hbx'.hv.frozen 3
        have z4 := hbx'.hv.frozen 4
        have z5 := hbx'.hv.frozen 5
        have z6 := hbx'.hv.frozen 6
        have z7 := hbx'.hv.frozen 7
        have R3 := Lib.hid (hbx'.put ⟨y, a, b', c, z, e, f, g⟩); clear hbx'
        go_wp2
        go_roundw
        case rel => exact ⟨i + 1, by omega, by go_num, by rw [HNX.out]; exact R3.out⟩
        case measure => simp [intOf]; omega
    · obtain rfl : i = 80 := by omega
      obtain ⟨v, hv⟩ : ∃ v, v = Sha.rounds 64 (kAt KQ 64) m 80 s := ⟨_, rfl⟩
      rw [← hv] at hR
      have HV := Lib.hid hv; clear hv
      have HR := Lib.hid hR; clear hR
      have HWB := Lib.hid hWb; clear hWb
      go_wp2
      go_loopw [107] (fun x wr => ∃ j : Nat, j ≤ 8 ∧ x = .int .i64 (j : Nat) ∧ Rn64 KQ w Wb l (mixAt 64 s v j) v wr) (fun x _ => 8 - (intOf x).toNat)
      case atStart => exact ⟨0, Nat.zero_le _, rfl, HR.out⟩
      case round =>
        obtain ⟨j, hj, rfl, hR⟩ := hrel
        by_cases hlj : j < 8
        · obtain ⟨x, y, h1, h2, h3⟩ := mix_step 64 s v j hlj
          have c1 := hR.hh.cell h1
          have c2 := hR.hv.cell h2
          have c3 := hR.hh.frozen j
          obtain ⟨z, hz⟩ : ∃ z, z = (x + y) % 2 ^ 64 := ⟨_, rfl⟩
          rw [← hz] at h3
          have s1 : IntKind.u64.wrap ((x : Int) + (y : Int)) = (z : Int) := by rw [hz, IntKind.wrap_u64]; omega
          have j1 : (j : Int) < 8 := by omega
          have H3 := Lib.hid h3; clear h3 hz h1 h2
          have RR := Lib.hid hR; clear hR
          go_wp2
          go_region
          all_goals (go_wp2; go_roundw)
          all_goals first
            | exact ⟨j + 1, by omega, by go_num, by rw [← H3.out]; exact (RR.out.stepH j z).drew⟩
            | exact ⟨j + 1, by omega, by go_num, by rw [← H3.out]; exact RR.out.drew.stepH j z⟩
            | (simp [intOf]; omega)
        · obtain rfl : j = 8 := by omega
          obtain ⟨t, ht⟩ : ∃ t, t = s.add 64 v := ⟨_, rfl⟩
          have hm8 : mixAt 64 s v 8 = t.list := by rw [ht]; rfl
          rw [hm8] at hR
          have HT := Lib.hid ht; clear ht hm8
          have v0 := hR.hh.cell (j := 0) (x := t.a) rfl
          have v1 := hR.hh.cell (j := 1) (x := t.b) rfl
          have v2 := hR.hh.cell (j := 2) (x := t.c) rfl
          have v3 := hR.hh.cell (j := 3) (x := t.d) rfl
          have v4 := hR.hh.cell (j := 4) (x := t.e) rfl
          have v5 := hR.hh.cell (j := 5) (x := t.f) rfl
          have v6 := hR.hh.cell (j := 6) (x := t.g) rfl
          have v7 := hR.hh.cell (j := 7) (x := t.h) rfl
          have y0 := hR.hr.cell (j := 0) (x := 0) rfl
          have z0 := hR.hr.frozen 0
          have y1 := hR.hr.cell (j := 1) (x := 0) rfl
          have z1 := hR.hr.frozen 1
          have y2 := hR.hr.cell (j := 2) (x := 0) rfl
          have z2 := hR.hr.frozen 2
          have y3 := hR.hr.cell (j := 3) (x := 0) rfl
          have z3 := hR.hr.frozen 3
          have y4 := hR.hr.cell (j := 4) (x := 0) rfl
          have z4 := hR.hr.frozen 4
          have y5 := hR.hr.cell (j := 5) (x := 0) rfl
          have z5 := hR.hr.frozen 5
          have y6 := hR.hr.cell (j := 6) (x := 0) rfl
          have z6 := hR.hr.frozen 6
          have y7 := hR.hr.cell (j := 7) (x := 0) rfl
          have z7 := hR.hr.frozen 7
          have RR := Lib.hid hR; clear hR
          go_wp2
          refine bodyPost_ret (results_cell_row rfl _ _ (w.heap.size + 1 + 1) 136 (valsK .u64 t.list) (0, 0) _ rfl (put8_same_64 t RR.out.hr) Try.underlying136 rfl row8_size_64) rfl ⟨?_, put8_below_64 t RR.out.below (by omega)⟩
          rw [HT.out, HV.out, HM.out]
          rfl

end Dg
end Go.Proofs.Ytedoggejbhbebaa
