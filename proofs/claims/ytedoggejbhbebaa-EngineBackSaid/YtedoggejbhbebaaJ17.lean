/-
  Joined: Sc. Conditions: as each part says.
-/
import Derived.Test.YtedoggejbhbebaaJ16

/-
  Contract of sha.schedule: the block's words and what is made of them. Conditions: the block has sixteen words.
-/
namespace Go.Proofs.Ytedoggejbhbebaa
namespace Dg
open Go.ChangeShapes Go.WideShapes Go.ChangeAt Go.RowKit Go.Great
open Sha
set_option linter.unusedVariables false

/-- A text's bytes. -/
def nums (b : ByteArray) : List Nat := b.data.toList.map UInt8.toNat
theorem nums_length (b : ByteArray) : (nums b).length = b.size := by simp [nums]
theorem nums_get (b : ByteArray) (k : Nat) (h : k < b.size) : (nums b)[k]? = some b[k].toNat := by
  rw [List.getElem?_eq_getElem (by rw [nums_length]; exact h)]
  simp [nums]
  rfl
theorem nums_lt (b : ByteArray) : ∀ c ∈ nums b, c < 256 := by
  intro c hc
  obtain ⟨x, -, rfl⟩ := List.mem_map.1 hc
  exact x.toNat_lt

theorem storeNew (w : World) (t : TypeId) (c c' : Array Value) (hi : (Try.prog.info? t).map (·.size) = some c'.size) (ho : c.size = c'.size) (h1 : c'.all (·.oneCell') = true) :
    (storeCells ⟨w.heap.size, 0, none⟩ c'.toList).run Try.prog (w.alloc (.cells c t)) = .ok () (w.alloc (.cells c' t)) := run_storeCells_new w t c c' hi ho h1

theorem storeOld (w : World) (g : Nat) (t : TypeId) (c c' : Array Value) (hg : w.heap[g]? = some (.cells c t (0, 0))) (ho : c.size = c'.size) (h1 : c'.all (·.oneCell') = true) :
    (storeCells ⟨g, 0, none⟩ c'.toList).run Try.prog w = .ok () (w.setRow g c') := by
  have := run_storeCells_from (P := Try.prog) g t c'.toList 0 c w hg (by simp; omega) (fun v hv => (Array.all_eq_true_iff_forall_mem.1 h1) v (by simpa using hv))
  simpa using this

theorem below_setRow {B : Nat} {w w' : World} (hb : Below B w w') {g : Nat} (hg : B ≤ g) (c : Array Value) : Below B w (w'.setRow g c) := by
  refine hb.trans ⟨rfl, rfl, rfl, by simp, fun k hk => setRow_other _ _ _ _ (by omega)⟩

/-- What lies at a place. -/
def peek (X : World) (p : Addr) : Value := (X.cell? p).getD undef
theorem peek_some {X : World} {p : Addr} {v : Value} (h : X.cell? p = some v) : X.cell? p = some (peek X p) := by
  unfold peek; rw [h]; rfl

theorem zero80_32 : (∀ w, (zeroValue 145).run Try.prog w = .ok (.agg (valsK .u32 zeros80)) w) ∧ (Try.prog.info? 145).map (·.size) = some 80 :=
  zero_of_info (P := Try.prog) (t := 145) (v := .agg (valsK .u32 zeros80)) (n := 80) (by kernel_rfl)
theorem under80_32 : Try.prog.underlying 145 = some (.array 80 66) := by kernel_rfl
theorem zeros_ne_32 : ¬ valsK .u32 zeros80 = #[] := by intro h; have := congrArg Array.size h; rw [valsK_size] at this; simp [zeros80] at this

/-- The memory of schedule. -/
structure Sch32 (w : World) (l : List Nat) (wr : World) : Prop where
  hp : wr.heap[w.heap.size]? = some (.cells plan32 129 (0, 0))
  hr : Wd .u32 145 (w.heap.size + 1) zeros80 wr
  hs : Wd .u32 145 (w.heap.size + 1 + 1) l wr
  below : Below w.heap.size w wr

theorem Sch32.start (w : World) : Sch32 w zeros80 (((w.alloc (.cells plan32 129)).alloc (.cells (valsK .u32 zeros80) 145)).alloc (.cells (valsK .u32 zeros80) 145)) where
  hp := keepAlloc (keepAlloc (heap_alloc_new w _) _) _
  hr := by
    have := keepAlloc (heap_alloc_new (w.alloc (.cells plan32 129)) (.cells (valsK .u32 zeros80) 145)) (.cells (valsK .u32 zeros80) 145)
    rwa [alloc_size] at this
  hs := by
    have := heap_alloc_new ((w.alloc (.cells plan32 129)).alloc (.cells (valsK .u32 zeros80) 145)) (.cells (valsK .u32 zeros80) 145)
    rwa [alloc_size, alloc_size] at this
  below := below_alloc (below_alloc ((Below.refl _ _).alloc (Nat.le_refl _) _) _) _

theorem Sch32.next {w X Y : World} {l : List Nat} (h : Sch32 w l X) (hb : Below X.heap.size X Y) : Sch32 w l Y :=
  ⟨keepBlock h.hp hb, keepBlock h.hr hb, keepBlock h.hs hb, below_link h.below hb⟩
theorem Sch32.drew {w X : World} {l : List Nat} (h : Sch32 w l X) : Sch32 w l X.drew := ⟨h.hp, h.hr, h.hs, h.below.drew⟩
theorem Sch32.drewN {w X : World} {l : List Nat} (h : Sch32 w l X) (n : Nat) : Sch32 w l (X.drewN n) := h.next (below_drewN X n)
theorem Sch32.step {w X : World} {l : List Nat} (h : Sch32 w l X) (j v : Nat) : Sch32 w (l.set j v) (X.setCell ⟨w.heap.size + 1 + 1, j, none⟩ (.int .u32 (v : Nat))) where
  hp := by rw [heap_setCell_other _ _ _ _ (by simp only []; omega)]; exact h.hp
  hr := by unfold Wd; rw [heap_setCell_other _ _ _ _ (by simp only []; omega)]; exact h.hr
  hs := by unfold Wd; rw [heap_setCell_same _ _ _ _ _ _ h.hs, valsK_set]
  below := h.below.setCell (by simp only []; omega) _

theorem Sch32.plan {w X : World} {l : List Nat} (h : Sch32 w l X) (j : Nat) : X.cell? ⟨w.heap.size, j, none⟩ = plan32[j]? := cell_of_row _ _ _ _ _ _ h.hp

theorem Sch32.look {w X : World} {l : List Nat} (h : Sch32 w l X) {a b c d i A B C D : Nat} (ha : l[a]? = some A) (hb : l[b]? = some B) (hc : l[c]? = some C) (hd : l[d]? = some D) (hi : i < l.length) :
    X.cell? ⟨w.heap.size, 0, none⟩ = some (.int .i64 32) ∧ X.cell? ⟨w.heap.size, 8, none⟩ = some (.int .i64 7) ∧ X.cell? ⟨w.heap.size, 9, none⟩ = some (.int .i64 18) ∧ X.cell? ⟨w.heap.size, 10, none⟩ = some (.int .i64 3) ∧ X.cell? ⟨w.heap.size, 11, none⟩ = some (.int .i64 17) ∧ X.cell? ⟨w.heap.size, 12, none⟩ = some (.int .i64 19) ∧ X.cell? ⟨w.heap.size, 13, none⟩ = some (.int .i64 10) ∧ X.cell? ⟨w.heap.size + 1 + 1, a, none⟩ = some (.int .u32 (A : Nat)) ∧ X.cell? ⟨w.heap.size + 1 + 1, b, none⟩ = some (.int .u32 (B : Nat)) ∧ X.cell? ⟨w.heap.size + 1 + 1, c, none⟩ = some (.int .u32 (C : Nat)) ∧ X.cell? ⟨w.heap.size + 1 + 1, d, none⟩ = some (.int .u32 (D : Nat)) ∧ X.cell? ⟨w.heap.size + 1 + 1, i, none⟩ = some (peek X ⟨w.heap.size + 1 + 1, i, none⟩) ∧ X.frozen? ⟨w.heap.size + 1 + 1, i, none⟩ = false :=
  ⟨h.plan 0, h.plan 8, h.plan 9, h.plan 10, h.plan 11, h.plan 12, h.plan 13, h.hs.cell ha, h.hs.cell hb, h.hs.cell hc, h.hs.cell hd,
   peek_some (h.hs.cell (List.getElem?_eq_getElem hi)), h.hs.frozen i⟩

set_option maxRecDepth 10000 in
set_option maxHeartbeats 2000000 in
theorem sched_32 (b : ByteArray) (w : World) (hb : b.size = 64) :
    Calls Try.prog 101 #[.agg plan32, .string b] w fun e w' => e = .returned (.agg (valsK .u32 (upTo 32 (wordsOf 32 (nums b)) 64))) ∧ Below w.heap.size w w' := by
  have hz := zero80_32.1
  have hne := zeros_ne_32
  have HS := Lib.hid (Sch32.start w)
  unfold plan32
  have g0 : (b.size : Int) = 64 := by omega
  have HB := Lib.hid hb; clear hb
  go_enter Try.func101, Try.ntmps101
  go_wp2_with fail
  go_loopw [11] (fun x wr => ∃ i : Nat, i ≤ 64 ∧ x = .int .i64 (i : Nat) ∧ Sch32 w (partL 4 (nums b) i) wr) (fun x _ => 64 - (intOf x).toNat)
  case atStart => exact ⟨0, Nat.zero_le _, rfl, by rw [partL_zero]; exact HS.out⟩
  case round =>
    obtain ⟨i, hi, rfl, hS⟩ := hrel
    by_cases hlt : i < 64
    · obtain ⟨a, ha⟩ : ∃ a, a = i / 4 := ⟨_, rfl⟩
      obtain ⟨v, hv⟩ : ∃ v, v = part 4 (nums b) i a := ⟨_, rfl⟩
      have hib : i < b.size := by have := HB.out; omega
      have hc := nums_get b i hib
      obtain ⟨c, ec⟩ : ∃ c, c = b[i].toNat := ⟨_, rfl⟩
      have hcl : c < 256 := by rw [ec]; exact b[i].toNat_lt
      have hvl : v < 16777216 := by rw [hv, ha]; exact part_lt (by decide) _ (nums_lt b) i
      have hst := partL_next (s := 4) (by decide) (nums b) i c (by rw [ec]; exact hc)
      rw [← ha, ← hv] at hst
      have q1 : Int.tdiv (i : Int) 4 = (a : Int) := by rw [Int.tdiv_eq_ediv_of_nonneg (by omega)]; omega
      have q2 : (i : Int) / 4 = (a : Int) := by omega
      have q3 : (a : Int) < 80 := by omega
      have q4 : IntKind.u32.wrap ((v : Int) * 256) = ((v * 256 : Nat) : Int) := by rw [IntKind.wrap_u32]; omega
      have q5 : IntKind.u32.wrap (c : Int) = (c : Int) := by rw [IntKind.wrap_u32]; omega
      have q6 := u32_or_nat (v * 256) c (by omega) (by omega)
      have q7 : v * 256 ||| c = v * 256 + c := by rw [Nat.mul_comm]; exact (Nat.two_pow_add_eq_or_of_lt (i := 8) hcl v).symm
      rw [q7] at q6
      have q6' : bits BinOp.or IntKind.u32 ((v : Int) * 256) (c : Int) = ((v * 256 + c : Nat) : Int) := by rw [← q6]; rfl
      have hpc : wr.cell? ⟨w.heap.size, 0, none⟩ = some (.int .i64 32) := hS.plan 0
      have hcell := hS.hs.cell (partL_get 4 (nums b) i a (by omega))
      rw [← hv] at hcell
      have hf := hS.hs.frozen a
      have HQ := Lib.hid hS; clear hS
      have HST := Lib.hid hst; clear hst
      have EC := Lib.hid ec
      have q8 : (b[i].toNat : Int) = (c : Int) := by rw [ec]
      clear hv ha ec hc q7 hcl hvl
      generalize v * 256 + c = z at *
      clear q6
      go_wp2
      go_region
      all_goals (go_wp2; go_roundw)
      all_goals first
        | exact ⟨i + 1, by omega, by go_num, by rw [← HST.out]; exact (HQ.out.step a z).drew⟩
        | exact ⟨i + 1, by omega, by go_num, by rw [← HST.out]; exact HQ.out.drew.step a z⟩
        | (simp [intOf]; omega)
    · obtain rfl : i = 64 := by omega
      have hS' : Sch32 w (upTo 32 (wordsOf 32 (nums b)) 16) wr := by
        rw [← partL_all 32 4 rfl (by decide) (nums b) (by rw [nums_length]; exact HB.out)]
        exact hS
      have HQ := Lib.hid hS'; clear hS hS'
      go_wp2
      go_loopw [8] (fun x wr => ∃ i : Nat, 16 ≤ i ∧ i ≤ 64 ∧ x = .int .i64 (i : Nat) ∧ Sch32 w (upTo 32 (wordsOf 32 (nums b)) i) wr) (fun x _ => 64 - (intOf x).toNat)
      case atStart => exact ⟨16, by omega, by omega, rfl, HQ.out⟩
      case round =>
        obtain ⟨i, hi16, hi, rfl, hS⟩ := hrel
        have hpr : wr.cell? ⟨w.heap.size, 1, none⟩ = some (.int .i64 64) := hS.plan 1
        by_cases hlt : i < 64
        · obtain ⟨m, hm⟩ : ∃ m, m = wordsOf 32 (nums b) := ⟨_, rfl⟩
          rw [← hm] at hS
          have hml : ∀ j < 16, m j < 2 ^ 32 := by
            intro j _
            rw [hm]
            refine Nat.lt_of_lt_of_le (beVal_lt _ fun c hc => nums_lt b c (List.mem_of_mem_drop (List.mem_of_mem_take hc))) ?_
            rw [show (2 : Nat) ^ 32 = 256 ^ (32 / 8) by decide]
            exact Nat.pow_le_pow_right (by decide) (by rw [List.length_take]; omega)
          have hw := fun j => word_lt hml j
          have hwi := word_high 32 m i hi16
          obtain ⟨a, ea⟩ : ∃ a, a = i - 16 := ⟨_, rfl⟩
          obtain ⟨e, ee⟩ : ∃ e, e = i - 15 := ⟨_, rfl⟩
          obtain ⟨c, ec⟩ : ∃ c, c = i - 7 := ⟨_, rfl⟩
          obtain ⟨d, ed⟩ : ∃ d, d = i - 2 := ⟨_, rfl⟩
          rw [← ea, ← ee, ← ec, ← ed] at hwi
          have ga : (upTo 32 m i)[a]? = some (word 32 m a) := by rw [upTo_get _ _ _ _ (by omega), if_pos (by omega)]
          have ge : (upTo 32 m i)[e]? = some (word 32 m e) := by rw [upTo_get _ _ _ _ (by omega), if_pos (by omega)]
          have gc : (upTo 32 m i)[c]? = some (word 32 m c) := by rw [upTo_get _ _ _ _ (by omega), if_pos (by omega)]
          have gd : (upTo 32 m i)[d]? = some (word 32 m d) := by rw [upTo_get _ _ _ _ (by omega), if_pos (by omega)]
          obtain ⟨A, eA⟩ : ∃ A, A = word 32 m a := ⟨_, rfl⟩
          obtain ⟨B, eB⟩ : ∃ B, B = word 32 m e := ⟨_, rfl⟩
          obtain ⟨C, eC⟩ : ∃ C, C = word 32 m c := ⟨_, rfl⟩
          obtain ⟨D, eD⟩ : ∃ D, D = word 32 m d := ⟨_, rfl⟩
          have lA : A < 2 ^ 32 := by rw [eA]; exact hw a
          have lB : B < 2 ^ 32 := by rw [eB]; exact hw e
          have lC : C < 2 ^ 32 := by rw [eC]; exact hw c
          have lD : D < 2 ^ 32 := by rw [eD]; exact hw d
          rw [← eA] at ga hwi
          rw [← eB] at ge hwi
          rw [← eC] at gc hwi
          rw [← eD] at gd hwi
          obtain ⟨S0, eS0⟩ : ∃ S0, S0 = little 32 6 B := ⟨_, rfl⟩
          obtain ⟨S1, eS1⟩ : ∃ S1, S1 = little 32 9 D := ⟨_, rfl⟩
          rw [← eS0, ← eS1] at hwi
          have F0 : ∀ X, Calls Try.prog 107 #[.int .u32 (B : Nat), .agg #[.int .i64 7, .int .i64 18, .int .i64 3], .int .i64 32] X fun e w' => e = .returned (.int .u32 (S0 : Nat)) ∧ Below X.heap.size X w' := by
            intro X; rw [eS0]; exact shifts_32 B 7 18 3 X lB (by decide) (by decide) (by decide)
          have F1 : ∀ X, Calls Try.prog 107 #[.int .u32 (D : Nat), .agg #[.int .i64 17, .int .i64 19, .int .i64 10], .int .i64 32] X fun e w' => e = .returned (.int .u32 (S1 : Nat)) ∧ Below X.heap.size X w' := by
            intro X; rw [eS1]; exact shifts_32 D 17 19 10 X lD (by decide) (by decide) (by decide)
          obtain ⟨t1, et1⟩ : ∃ t, t = (A + S0) % 4294967296 := ⟨_, rfl⟩
          obtain ⟨t2, et2⟩ : ∃ t, t = (t1 + C) % 4294967296 := ⟨_, rfl⟩
          obtain ⟨t3, et3⟩ : ∃ t, t = (t2 + S1) % 4294967296 := ⟨_, rfl⟩
          have s1 : IntKind.u32.wrap ((A : Int) + (S0 : Int)) = (t1 : Int) := by rw [IntKind.wrap_u32]; omega
          have s2 : IntKind.u32.wrap ((t1 : Int) + (C : Int)) = (t2 : Int) := by rw [IntKind.wrap_u32]; omega
          have s3 : IntKind.u32.wrap ((t2 : Int) + (S1 : Int)) = (t3 : Int) := by rw [IntKind.wrap_u32]; omega
          have hwt : word 32 m i = t3 := by rw [hwi, et3, et2, et1, show (2 : Nat) ^ 32 = 4294967296 by decide]; omega
          have hst := upTo_next 32 m i
          rw [hwt] at hst
          have i1 : IntKind.i64.wrap ((i : Int) - 16) = (a : Int) := by rw [IntKind.wrap_i64]; omega
          have i2 : IntKind.i64.wrap ((i : Int) - 15) = (e : Int) := by rw [IntKind.wrap_i64]; omega
          have i3 : IntKind.i64.wrap ((i : Int) - 7) = (c : Int) := by rw [IntKind.wrap_i64]; omega
          have i4 : IntKind.i64.wrap ((i : Int) - 2) = (d : Int) := by rw [IntKind.wrap_i64]; omega
          have j1 : (a : Int) < 80 := by omega
          have j2 : (e : Int) < 80 := by omega
          have j3 : (c : Int) < 80 := by omega
          have j4 : (d : Int) < 80 := by omega
          have j5 : (i : Int) < 80 := by omega
          obtain ⟨l, el⟩ : ∃ l, l = upTo 32 m i := ⟨_, rfl⟩
          have hll : i < l.length := by rw [el, upTo_length]; omega
          have hne2 : a ≠ i ∧ e ≠ i ∧ c ≠ i ∧ d ≠ i := by omega
          rw [← el] at ga ge gc gd hst hS
          have HR := Lib.hid (fun X (h : Sch32 w l X) => h.look (i := i) ga ge gc gd hll)
          have HR2 := Lib.hid (fun X v (h : Sch32 w l X) => (h.step i v).look (i := i) (a := a) (b := e) (c := c) (d := d) (A := A) (B := B) (C := C) (D := D) (by rw [List.getElem?_set_ne (fun x => hne2.1 x.symm)]; exact ga) (by rw [List.getElem?_set_ne (fun x => hne2.2.1 x.symm)]; exact ge) (by rw [List.getElem?_set_ne (fun x => hne2.2.2.1 x.symm)]; exact gc) (by rw [List.getElem?_set_ne (fun x => hne2.2.2.2 x.symm)]; exact gd) (by rw [List.length_set]; exact hll))
          have HST := Lib.hid hst; clear hst
          have G0 := Lib.hid F0; clear F0
          have G1 := Lib.hid F1; clear F1
          have HM := Lib.hid hm
          clear hwt hwi et1 et2 et3 eS0 eS1 lA lB lC lD eA eB eC eD ga ge gc gd hw hml hll hne2 ea ee ec ed el hm hz hne
          have hSd := hS.drew
          go_wp2
          go_region_held3 (fun X => X.cell? ⟨w.heap.size, 0, none⟩ = some (.int .i64 32) ∧ X.cell? ⟨w.heap.size, 8, none⟩ = some (.int .i64 7) ∧ X.cell? ⟨w.heap.size, 9, none⟩ = some (.int .i64 18) ∧ X.cell? ⟨w.heap.size, 10, none⟩ = some (.int .i64 3) ∧ X.cell? ⟨w.heap.size, 11, none⟩ = some (.int .i64 17) ∧ X.cell? ⟨w.heap.size, 12, none⟩ = some (.int .i64 19) ∧ X.cell? ⟨w.heap.size, 13, none⟩ = some (.int .i64 10) ∧ X.cell? ⟨w.heap.size + 1 + 1, a, none⟩ = some (.int .u32 (A : Nat)) ∧ X.cell? ⟨w.heap.size + 1 + 1, e, none⟩ = some (.int .u32 (B : Nat)) ∧ X.cell? ⟨w.heap.size + 1 + 1, c, none⟩ = some (.int .u32 (C : Nat)) ∧ X.cell? ⟨w.heap.size + 1 + 1, d, none⟩ = some (.int .u32 (D : Nat)) ∧ X.cell? ⟨w.heap.size + 1 + 1, i, none⟩ = some (peek X ⟨w.heap.size + 1 + 1, i, none⟩) ∧ X.frozen? ⟨w.heap.size + 1 + 1, i, none⟩ = false) (first | (refine HR.out _ ?_; (with_reducible assumption)) | (refine HR2.out _ _ ?_; (with_reducible assumption)))
              (first | (go_at_call 107; with_reducible refine (G0.out _).mono ?_; rintro e w' ⟨rfl, hbw⟩; have hbx' := Sch32.next (by with_reducible assumption) hbw) | (go_at_call 107; with_reducible refine (G1.out _).mono ?_; rintro e w' ⟨rfl, hbw⟩; have hbx' := Sch32.next (by with_reducible assumption) hbw))
          all_goals (go_wp2; go_roundw)
          all_goals first
            | (refine ⟨_, _, _, _, _, _, _, _, _, _, _, _, _, _, _, _, _, _, _, _, _, _, _, _, _, _, _, _, _, _, _, _, _, _, _, _, _, _, ?_, rfl⟩; exact ⟨i + 1, by omega, by omega, by go_num, by rw [← HM.out, ← HST.out]; exact Sch32.step (by with_reducible assumption) i t3⟩)
            | (simp [intOf]; omega)
        · obtain rfl : i = 64 := by omega
          have st := storeOld wr (w.heap.size + 1) 145 (valsK .u32 zeros80) (valsK .u32 (upTo 32 (wordsOf 32 (nums b)) 64)) hS.hr (by rw [valsK_size, valsK_size, upTo_length]; rfl) (valsK_one _ _)
          have HQ := Lib.hid hS; clear hS
          go_wp2
          refine wp_load_row 145 _ rfl (w.heap.size + 1 + 1) rfl 145 _ (0, 0) _ HQ.out.hs under80_32 rfl (by rw [valsK_size, upTo_length]; exact zero80_32.2) ?_
          simp only [Act.put, List.setIfInBounds_toArray, List.set_cons_zero, List.set_cons_succ]
          go_wp2
          refine bodyPost_ret (results_cell_row rfl _ _ (w.heap.size + 1) 145 (valsK .u32 (upTo 32 (wordsOf 32 (nums b)) 64)) (0, 0) _ rfl (setRow_heap _ _ _ _ _ _ HQ.out.hr) under80_32 rfl (by rw [valsK_size, upTo_length]; exact zero80_32.2)) rfl ⟨rfl, below_setRow HQ.out.below (by omega) _⟩

theorem zero80_64 : (∀ w, (zeroValue 147).run Try.prog w = .ok (.agg (valsK .u64 zeros80)) w) ∧ (Try.prog.info? 147).map (·.size) = some 80 :=
  zero_of_info (P := Try.prog) (t := 147) (v := .agg (valsK .u64 zeros80)) (n := 80) (by kernel_rfl)
theorem under80_64 : Try.prog.underlying 147 = some (.array 80 80) := by kernel_rfl
theorem zeros_ne_64 : ¬ valsK .u64 zeros80 = #[] := by intro h; have := congrArg Array.size h; rw [valsK_size] at this; simp [zeros80] at this

/-- The memory of schedule. -/
structure Sch64 (w : World) (l : List Nat) (wr : World) : Prop where
  hp : wr.heap[w.heap.size]? = some (.cells plan64 129 (0, 0))
  hr : Wd .u64 147 (w.heap.size + 1) zeros80 wr
  hs : Wd .u64 147 (w.heap.size + 1 + 1) l wr
  below : Below w.heap.size w wr

theorem Sch64.start (w : World) : Sch64 w zeros80 (((w.alloc (.cells plan64 129)).alloc (.cells (valsK .u64 zeros80) 147)).alloc (.cells (valsK .u64 zeros80) 147)) where
  hp := keepAlloc (keepAlloc (heap_alloc_new w _) _) _
  hr := by
    have := keepAlloc (heap_alloc_new (w.alloc (.cells plan64 129)) (.cells (valsK .u64 zeros80) 147)) (.cells (valsK .u64 zeros80) 147)
    rwa [alloc_size] at this
  hs := by
    have := heap_alloc_new ((w.alloc (.cells plan64 129)).alloc (.cells (valsK .u64 zeros80) 147)) (.cells (valsK .u64 zeros80) 147)
    rwa [alloc_size, alloc_size] at this
  below := below_alloc (below_alloc ((Below.refl _ _).alloc (Nat.le_refl _) _) _) _

theorem Sch64.next {w X Y : World} {l : List Nat} (h : Sch64 w l X) (hb : Below X.heap.size X Y) : Sch64 w l Y :=
  ⟨keepBlock h.hp hb, keepBlock h.hr hb, keepBlock h.hs hb, below_link h.below hb⟩
theorem Sch64.drew {w X : World} {l : List Nat} (h : Sch64 w l X) : Sch64 w l X.drew := ⟨h.hp, h.hr, h.hs, h.below.drew⟩
theorem Sch64.drewN {w X : World} {l : List Nat} (h : Sch64 w l X) (n : Nat) : Sch64 w l (X.drewN n) := h.next (below_drewN X n)
theorem Sch64.step {w X : World} {l : List Nat} (h : Sch64 w l X) (j v : Nat) : Sch64 w (l.set j v) (X.setCell ⟨w.heap.size + 1 + 1, j, none⟩ (.int .u64 (v : Nat))) where
  hp := by rw [heap_setCell_other _ _ _ _ (by simp only []; omega)]; exact h.hp
  hr := by unfold Wd; rw [heap_setCell_other _ _ _ _ (by simp only []; omega)]; exact h.hr
  hs := by unfold Wd; rw [heap_setCell_same _ _ _ _ _ _ h.hs, valsK_set]
  below := h.below.setCell (by simp only []; omega) _

theorem Sch64.plan {w X : World} {l : List Nat} (h : Sch64 w l X) (j : Nat) : X.cell? ⟨w.heap.size, j, none⟩ = plan64[j]? := cell_of_row _ _ _ _ _ _ h.hp

theorem Sch64.look {w X : World} {l : List Nat} (h : Sch64 w l X) {a b c d i A B C D : Nat} (ha : l[a]? = some A) (hb : l[b]? = some B) (hc : l[c]? = some C) (hd : l[d]? = some D) (hi : i < l.length) :
    X.cell? ⟨w.heap.size, 0, none⟩ = some (.int .i64 64) ∧ X.cell? ⟨w.heap.size, 8, none⟩ = some (.int .i64 1) ∧ X.cell? ⟨w.heap.size, 9, none⟩ = some (.int .i64 8) ∧ X.cell? ⟨w.heap.size, 10, none⟩ = some (.int .i64 7) ∧ X.cell? ⟨w.heap.size, 11, none⟩ = some (.int .i64 19) ∧ X.cell? ⟨w.heap.size, 12, none⟩ = some (.int .i64 61) ∧ X.cell? ⟨w.heap.size, 13, none⟩ = some (.int .i64 6) ∧ X.cell? ⟨w.heap.size + 1 + 1, a, none⟩ = some (.int .u64 (A : Nat)) ∧ X.cell? ⟨w.heap.size + 1 + 1, b, none⟩ = some (.int .u64 (B : Nat)) ∧ X.cell? ⟨w.heap.size + 1 + 1, c, none⟩ = some (.int .u64 (C : Nat)) ∧ X.cell? ⟨w.heap.size + 1 + 1, d, none⟩ = some (.int .u64 (D : Nat)) ∧ X.cell? ⟨w.heap.size + 1 + 1, i, none⟩ = some (peek X ⟨w.heap.size + 1 + 1, i, none⟩) ∧ X.frozen? ⟨w.heap.size + 1 + 1, i, none⟩ = false :=
  ⟨h.plan 0, h.plan 8, h.plan 9, h.plan 10, h.plan 11, h.plan 12, h.plan 13, h.hs.cell ha, h.hs.cell hb, h.hs.cell hc, h.hs.cell hd,
   peek_some (h.hs.cell (List.getElem?_eq_getElem hi)), h.hs.frozen i⟩

set_option maxRecDepth 10000 in
set_option maxHeartbeats 2000000 in
theorem sched_64 (b : ByteArray) (w : World) (hb : b.size = 128) :
    Calls Try.prog 103 #[.agg plan64, .string b] w fun e w' => e = .returned (.agg (valsK .u64 (upTo 64 (wordsOf 64 (nums b)) 80))) ∧ Below w.heap.size w w' := by
  have hz := zero80_64.1
  have hne := zeros_ne_64
  have HS := Lib.hid (Sch64.start w)
  unfold plan64
  have g0 : (b.size : Int) = 128 := by omega
  have HB := Lib.hid hb; clear hb
  go_enter Try.func103, Try.ntmps103
  go_wp2_with fail
  go_loopw [11] (fun x wr => ∃ i : Nat, i ≤ 128 ∧ x = .int .i64 (i : Nat) ∧ Sch64 w (partL 8 (nums b) i) wr) (fun x _ => 128 - (intOf x).toNat)
  case atStart => exact ⟨0, Nat.zero_le _, rfl, by rw [partL_zero]; exact HS.out⟩
  case round =>
    obtain ⟨i, hi, rfl, hS⟩ := hrel
    by_cases hlt : i < 128
    · obtain ⟨a, ha⟩ : ∃ a, a = i / 8 := ⟨_, rfl⟩
      obtain ⟨v, hv⟩ : ∃ v, v = part 8 (nums b) i a := ⟨_, rfl⟩
      have hib : i < b.size := by have := HB.out; omega
      have hc := nums_get b i hib
      obtain ⟨c, ec⟩ : ∃ c, c = b[i].toNat := ⟨_, rfl⟩
      have hcl : c < 256 := by rw [ec]; exact b[i].toNat_lt
      have hvl : v < 72057594037927936 := by rw [hv, ha]; exact part_lt (by decide) _ (nums_lt b) i
      have hst := partL_next (s := 8) (by decide) (nums b) i c (by rw [ec]; exact hc)
      rw [← ha, ← hv] at hst
      have q1 : Int.tdiv (i : Int) 8 = (a : Int) := by rw [Int.tdiv_eq_ediv_of_nonneg (by omega)]; omega
      have q2 : (i : Int) / 8 = (a : Int) := by omega
      have q3 : (a : Int) < 80 := by omega
      have q4 : IntKind.u64.wrap ((v : Int) * 256) = ((v * 256 : Nat) : Int) := by rw [IntKind.wrap_u64]; omega
      have q5 : IntKind.u64.wrap (c : Int) = (c : Int) := by rw [IntKind.wrap_u64]; omega
      have q6 := u64_or_nat (v * 256) c (by omega) (by omega)
      have q7 : v * 256 ||| c = v * 256 + c := by rw [Nat.mul_comm]; exact (Nat.two_pow_add_eq_or_of_lt (i := 8) hcl v).symm
      rw [q7] at q6
      have q6' : bits BinOp.or IntKind.u64 ((v : Int) * 256) (c : Int) = ((v * 256 + c : Nat) : Int) := by rw [← q6]; rfl
      have hpc : wr.cell? ⟨w.heap.size, 0, none⟩ = some (.int .i64 64) := hS.plan 0
      have hcell := hS.hs.cell (partL_get 8 (nums b) i a (by omega))
      rw [← hv] at hcell
      have hf := hS.hs.frozen a
      have HQ := Lib.hid hS; clear hS
      have HST := Lib.hid hst; clear hst
      have EC := Lib.hid ec
      have q8 : (b[i].toNat : Int) = (c : Int) := by rw [ec]
      clear hv ha ec hc q7 hcl hvl
      generalize v * 256 + c = z at *
      clear q6
      go_wp2
      go_region
      all_goals (go_wp2; go_roundw)
      all_goals first
        | exact ⟨i + 1, by omega, by go_num, by rw [← HST.out]; exact (HQ.out.step a z).drew⟩
        | exact ⟨i + 1, by omega, by go_num, by rw [← HST.out]; exact HQ.out.drew.step a z⟩
        | (simp [intOf]; omega)
    · obtain rfl : i = 128 := by omega
      have hS' : Sch64 w (upTo 64 (wordsOf 64 (nums b)) 16) wr := by
        rw [← partL_all 64 8 rfl (by decide) (nums b) (by rw [nums_length]; exact HB.out)]
        exact hS
      have HQ := Lib.hid hS'; clear hS hS'
      go_wp2
      go_loopw [8] (fun x wr => ∃ i : Nat, 16 ≤ i ∧ i ≤ 80 ∧ x = .int .i64 (i : Nat) ∧ Sch64 w (upTo 64 (wordsOf 64 (nums b)) i) wr) (fun x _ => 80 - (intOf x).toNat)
      case atStart => exact ⟨16, by omega, by omega, rfl, HQ.out⟩
      case round =>
        obtain ⟨i, hi16, hi, rfl, hS⟩ := hrel
        have hpr : wr.cell? ⟨w.heap.size, 1, none⟩ = some (.int .i64 80) := hS.plan 1
        by_cases hlt : i < 80
        · obtain ⟨m, hm⟩ : ∃ m, m = wordsOf 64 (nums b) := ⟨_, rfl⟩
          rw [← hm] at hS
          have hml : ∀ j < 16, m j < 2 ^ 64 := by
            intro j _
            rw [hm]
            refine Nat.lt_of_lt_of_le (beVal_lt _ fun c hc => nums_lt b c (List.mem_of_mem_drop (List.mem_of_mem_take hc))) ?_
            rw [show (2 : Nat) ^ 64 = 256 ^ (64 / 8) by decide]
            exact Nat.pow_le_pow_right (by decide) (by rw [List.length_take]; omega)
          have hw := fun j => word_lt hml j
          have hwi := word_high 64 m i hi16
          obtain ⟨a, ea⟩ : ∃ a, a = i - 16 := ⟨_, rfl⟩
          obtain ⟨e, ee⟩ : ∃ e, e = i - 15 := ⟨_, rfl⟩
          obtain ⟨c, ec⟩ : ∃ c, c = i - 7 := ⟨_, rfl⟩
          obtain ⟨d, ed⟩ : ∃ d, d = i - 2 := ⟨_, rfl⟩
          rw [← ea, ← ee, ← ec, ← ed] at hwi
          have ga : (upTo 64 m i)[a]? = some (word 64 m a) := by rw [upTo_get _ _ _ _ (by omega), if_pos (by omega)]
          have ge : (upTo 64 m i)[e]? = some (word 64 m e) := by rw [upTo_get _ _ _ _ (by omega), if_pos (by omega)]
          have gc : (upTo 64 m i)[c]? = some (word 64 m c) := by rw [upTo_get _ _ _ _ (by omega), if_pos (by omega)]
          have gd : (upTo 64 m i)[d]? = some (word 64 m d) := by rw [upTo_get _ _ _ _ (by omega), if_pos (by omega)]
          obtain ⟨A, eA⟩ : ∃ A, A = word 64 m a := ⟨_, rfl⟩
          obtain ⟨B, eB⟩ : ∃ B, B = word 64 m e := ⟨_, rfl⟩
          obtain ⟨C, eC⟩ : ∃ C, C = word 64 m c := ⟨_, rfl⟩
          obtain ⟨D, eD⟩ : ∃ D, D = word 64 m d := ⟨_, rfl⟩
          have lA : A < 2 ^ 64 := by rw [eA]; exact hw a
          have lB : B < 2 ^ 64 := by rw [eB]; exact hw e
          have lC : C < 2 ^ 64 := by rw [eC]; exact hw c
          have lD : D < 2 ^ 64 := by rw [eD]; exact hw d
          rw [← eA] at ga hwi
          rw [← eB] at ge hwi
          rw [← eC] at gc hwi
          rw [← eD] at gd hwi
          obtain ⟨S0, eS0⟩ : ∃ S0, S0 = little 64 6 B := ⟨_, rfl⟩
          obtain ⟨S1, eS1⟩ : ∃ S1, S1 = little 64 9 D := ⟨_, rfl⟩
          rw [← eS0, ← eS1] at hwi
          have F0 : ∀ X, Calls Try.prog 109 #[.int .u64 (B : Nat), .agg #[.int .i64 1, .int .i64 8, .int .i64 7], .int .i64 64] X fun e w' => e = .returned (.int .u64 (S0 : Nat)) ∧ Below X.heap.size X w' := by
            intro X; rw [eS0]; exact shifts_64 B 1 8 7 X lB (by decide) (by decide) (by decide)
          have F1 : ∀ X, Calls Try.prog 109 #[.int .u64 (D : Nat), .agg #[.int .i64 19, .int .i64 61, .int .i64 6], .int .i64 64] X fun e w' => e = .returned (.int .u64 (S1 : Nat)) ∧ Below X.heap.size X w' := by
            intro X; rw [eS1]; exact shifts_64 D 19 61 6 X lD (by decide) (by decide) (by decide)
          obtain ⟨t1, et1⟩ : ∃ t, t = (A + S0) % 18446744073709551616 := ⟨_, rfl⟩
          obtain ⟨t2, et2⟩ : ∃ t, t = (t1 + C) % 18446744073709551616 := ⟨_, rfl⟩
          obtain ⟨t3, et3⟩ : ∃ t, t = (t2 + S1) % 18446744073709551616 := ⟨_, rfl⟩
          have s1 : IntKind.u64.wrap ((A : Int) + (S0 : Int)) = (t1 : Int) := by rw [IntKind.wrap_u64]; omega
          have s2 : IntKind.u64.wrap ((t1 : Int) + (C : Int)) = (t2 : Int) := by rw [IntKind.wrap_u64]; omega
          have s3 : IntKind.u64.wrap ((t2 : Int) + (S1 : Int)) = (t3 : Int) := by rw [IntKind.wrap_u64]; omega
          have hwt : word 64 m i = t3 := by rw [hwi, et3, et2, et1, show (2 : Nat) ^ 64 = 18446744073709551616 by decide]; omega
          have hst := upTo_next 64 m i
          rw [hwt] at hst
          have i1 : IntKind.i64.wrap ((i : Int) - 16) = (a : Int) := by rw [IntKind.wrap_i64]; omega
          have i2 : IntKind.i64.wrap ((i : Int) - 15) = (e : Int) := by rw [IntKind.wrap_i64]; omega
          have i3 : IntKind.i64.wrap ((i : Int) - 7) = (c : Int) := by rw [IntKind.wrap_i64]; omega
          have i4 : IntKind.i64.wrap ((i : Int) - 2) = (d : Int) := by rw [IntKind.wrap_i64]; omega
          have j1 : (a : Int) < 80 := by omega
          have j2 : (e : Int) < 80 := by omega
          have j3 : (c : Int) < 80 := by omega
          have j4 : (d : Int) < 80 := by omega
          have j5 : (i : Int) < 80 := by omega
          obtain ⟨l, el⟩ : ∃ l, l = upTo 64 m i := ⟨_, rfl⟩
          have hll : i < l.length := by rw [el, upTo_length]; omega
          have hne2 : a ≠ i ∧ e ≠ i ∧ c ≠ i ∧ d ≠ i := by omega
          rw [← el] at ga ge gc gd hst hS
          have HR := Lib.hid (fun X (h : Sch64 w l X) => h.look (i := i) ga ge gc gd hll)
          have HR2 := Lib.hid (fun X v (h : Sch64 w l X) => (h.step i v).look (i := i) (a := a) (b := e) (c := c) (d := d) (A := A) (B := B) (C := C) (D := D) (by rw [List.getElem?_set_ne (fun x => hne2.1 x.symm)]; exact ga) (by rw [List.getElem?_set_ne (fun x => hne2.2.1 x.symm)]; exact ge) (by rw [List.getElem?_set_ne (fun x => hne2.2.2.1 x.symm)]; exact gc) (by rw [List.getElem?_set_ne (fun x => hne2.2.2.2 x.symm)]; exact gd) (by rw [List.length_set]; exact hll))
          have HST := Lib.hid hst; clear hst
          have G0 := Lib.hid F0; clear F0
          have G1 := Lib.hid F1; clear F1
          have HM := Lib.hid hm
          clear hwt hwi et1 et2 et3 eS0 eS1 lA lB lC lD eA eB eC eD ga ge gc gd hw hml hll hne2 ea ee ec ed el hm hz hne
          have hSd := hS.drew
          go_wp2
          go_region_held3 (fun X => X.cell? ⟨w.heap.size, 0, none⟩ = some (.int .i64 64) ∧ X.cell? ⟨w.heap.size, 8, none⟩ = some (.int .i64 1) ∧ X.cell? ⟨w.heap.size, 9, none⟩ = some (.int .i64 8) ∧ X.cell? ⟨w.heap.size, 10, none⟩ = some (.int .i64 7) ∧ X.cell? ⟨w.heap.size, 11, none⟩ = some (.int .i64 19) ∧ X.cell? ⟨w.heap.size, 12, none⟩ = some (.int .i64 61) ∧ X.cell? ⟨w.heap.size, 13, none⟩ = some (.int .i64 6) ∧ X.cell? ⟨w.heap.size + 1 + 1, a, none⟩ = some (.int .u64 (A : Nat)) ∧ X.cell? ⟨w.heap.size + 1 + 1, e, none⟩ = some (.int .u64 (B : Nat)) ∧ X.cell? ⟨w.heap.size + 1 + 1, c, none⟩ = some (.int .u64 (C : Nat)) ∧ X.cell? ⟨w.heap.size + 1 + 1, d, none⟩ = some (.int .u64 (D : Nat)) ∧ X.cell? ⟨w.heap.size + 1 + 1, i, none⟩ = some (peek X ⟨w.heap.size + 1 + 1, i, none⟩) ∧ X.frozen? ⟨w.heap.size + 1 + 1, i, none⟩ = false) (first | (refine HR.out _ ?_; (with_reducible assumption)) | (refine HR2.out _ _ ?_; (with_reducible assumption)))
              (first | (go_at_call 109; with_reducible refine (G0.out _).mono ?_; rintro e w' ⟨rfl, hbw⟩; have hbx' := Sch64.next (by with_reducible assumption) hbw) | (go_at_call 109; with_reducible refine (G1.out _).mono ?_; rintro e w' ⟨rfl, hbw⟩; have hbx' := Sch64.next (by with_reducible assumption) hbw))
          all_goals (go_wp2; go_roundw)
          all_goals first
            | (refine ⟨_, _, _, _, _, _, _, _, _, _, _, _, _, _, _, _, _, _, _, _, _, _, _, _, _, _, _, _, _, _, _, _, _, _, _, _, _, _, ?_, rfl⟩; exact ⟨i + 1, by omega, by omega, by go_num, by rw [← HM.out, ← HST.out]; exact Sch64.step (by with_reducible assumption) i t3⟩)
            | (simp [intOf]; omega)
        · obtain rfl : i = 80 := by omega
          have st := storeOld wr (w.heap.size + 1) 147 (valsK .u64 zeros80) (valsK .u64 (upTo 64 (wordsOf 64 (nums b)) 80)) hS.hr (by rw [valsK_size, valsK_size, upTo_length]; rfl) (valsK_one _ _)
          have HQ := Lib.hid hS; clear hS
          go_wp2
          refine wp_load_row 147 _ rfl (w.heap.size + 1 + 1) rfl 147 _ (0, 0) _ HQ.out.hs under80_64 rfl (by rw [valsK_size, upTo_length]; exact zero80_64.2) ?_
          simp only [Act.put, List.setIfInBounds_toArray, List.set_cons_zero, List.set_cons_succ]
          go_wp2
          refine bodyPost_ret (results_cell_row rfl _ _ (w.heap.size + 1) 147 (valsK .u64 (upTo 64 (wordsOf 64 (nums b)) 80)) (0, 0) _ rfl (setRow_heap _ _ _ _ _ _ HQ.out.hr) under80_64 rfl (by rw [valsK_size, upTo_length]; exact zero80_64.2)) rfl ⟨rfl, below_setRow HQ.out.below (by omega) _⟩

end Dg
end Go.Proofs.Ytedoggejbhbebaa
