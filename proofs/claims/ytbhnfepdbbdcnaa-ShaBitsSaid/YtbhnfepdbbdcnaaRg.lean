/-
  For every i and p ShaRoots returns true. Conditions: none.
-/
import Derived.Test.YtbhnfepdbbdcnaaRe
import Derived.Test.YtbhnfepdbbdcnaaRf
import Derived.Deep.RegionHeld3
import Derived.Deep.DeepCutAuto
namespace Go.Proofs.Ytbhnfepdbbdcnaa
open Go.ChangeShapes Go.WideShapes Go.ChangeAt Go.RowKit
set_option linter.unusedVariables false

/-- The first primes. -/
def primes : List Nat := [2, 3, 5, 7, 11, 13, 17, 19, 23, 29, 31, 37, 41, 43, 47, 53]

theorem kRefB (w : World) : Calls Try.prog 9 #[] w fun e w' => e = .returned (.agg (vals ks)) ∧ Below w.heap.size w w' :=
  (kRef w).mono (by rintro e w' ⟨rfl, rfl⟩; exact ⟨rfl, (Below.refl _ _).alloc (Nat.le_refl _) _⟩)
theorem hRef5B (w : World) : Calls Try.prog 8 #[.int .i64 512] w fun e w' => e = .returned (.agg (vals hs5)) ∧ Below w.heap.size w w' :=
  (hRef5 w).mono (by rintro e w' ⟨rfl, rfl⟩; exact ⟨rfl, (Below.refl _ _).alloc (Nat.le_refl _) _⟩)
theorem hRef3B (w : World) : Calls Try.prog 8 #[.int .i64 384] w fun e w' => e = .returned (.agg (vals hs3)) ∧ Below w.heap.size w w' :=
  (hRef3 w).mono (by rintro e w' ⟨rfl, rfl⟩; exact ⟨rfl, (Below.refl _ _).alloc (Nat.le_refl _) _⟩)

theorem hs5_size : (vals hs5).size = 8 := by decide
theorem hs5_one : (vals hs5).all (·.oneCell') = true := by kernel_rfl
theorem hs3_size : (vals hs3).size = 8 := by decide
theorem hs3_one : (vals hs3).all (·.oneCell') = true := by kernel_rfl

theorem zero8 : ∃ zs : Array Value, zs.size = 8 ∧ (∀ w, (zeroValue 28).run Try.prog w = .ok (.agg zs) w) := by
  obtain ⟨h1, h2⟩ := zero_of_info (P := Try.prog) (t := 28) (v := .agg (Array.replicate 8 (.int .u64 0))) (n := 8) (by kernel_rfl)
  exact ⟨_, by simp, h1⟩

theorem keepBlock {g : Nat} {o : Obj} {w w' : World} (h : w.heap[g]? = some o) (hb : Below w.heap.size w w') : w'.heap[g]? = some o := by
  rw [hb.block g (Array.getElem?_eq_some_iff.1 h).1]; exact h
theorem keepAlloc {g : Nat} {o : Obj} {w : World} (h : w.heap[g]? = some o) (x : Obj) : (w.alloc x).heap[g]? = some o := by
  rw [heap_alloc_old _ _ (Array.getElem?_eq_some_iff.1 h).1]; exact h
theorem below_alloc {w w' : World} (hb : Below w.heap.size w w') (x : Obj) : Below w.heap.size w (w'.alloc x) := hb.alloc hb.size _

theorem storeNew (w : World) (t : TypeId) (c c' : Array Value) (hi : (Try.prog.info? t).map (·.size) = some c'.size) (ho : c.size = c'.size) (h1 : c'.all (·.oneCell') = true) :
    (storeCells ⟨w.heap.size, 0, none⟩ c'.toList).run Try.prog (w.alloc (.cells c t)) = .ok () (w.alloc (.cells c' t)) := run_storeCells_new w t c c' hi ho h1

theorem storeOld (w : World) (g : Nat) (t : TypeId) (c c' : Array Value) (hg : w.heap[g]? = some (.cells c t (0, 0))) (ho : c.size = c'.size) (h1 : c'.all (·.oneCell') = true) :
    (storeCells ⟨g, 0, none⟩ c'.toList).run Try.prog w = .ok () (w.setRow g c') := by
  have := run_storeCells_from (P := Try.prog) g t c'.toList 0 c w hg (by simp; omega) (fun v hv => (Array.all_eq_true_iff_forall_mem.1 h1) v (by simpa using hv))
  simpa using this

theorem below_setRow {B : Nat} {w w' : World} (hb : Below B w w') {g : Nat} (hg : B ≤ g) (c : Array Value) : Below B w (w'.setRow g c) := by
  refine hb.trans ⟨rfl, rfl, rfl, by simp, fun k hk => setRow_other _ _ _ _ (by omega)⟩

def prime (m : Nat) : Nat := primes.getD m 0
def kOf (m : Nat) : Nat := ks.getD m 0
def hOf (m : Nat) : Nat := if m < 8 then hs5.getD m 0 else hs3.getD (m - 8) 0

theorem prime_ok : ∀ m < 16, 2 ≤ prime m ∧ prime m ≤ 1000 ∧ primes[m]? = some (prime m) ∧ ks[m]? = some (kOf m) := by decide
theorem cube_ok : ∀ m < 16, Sha.IsR (prime m) (kOf m) 3 (Sha.wholeTo (prime m) 3 40) := by decide +kernel
theorem square_ok : ∀ m < 16, Sha.IsR (prime m) (hOf m) 2 (Sha.wholeTo (prime m) 2 40) := by decide +kernel
theorem hOf_low : ∀ m < 8, hs5[m]? = some (hOf m) := by decide
theorem hOf_high : ∀ m < 8, hs3[m]? = some (hOf (m + 8)) := by decide

theorem root_prime3 (m : Nat) (h : m < 16) (w : World) :
    Calls Try.prog 7 #[.int .u64 (prime m : Nat), .bool true] w fun x w' => x = .returned (.int .u64 (kOf m : Nat)) ∧ Below w.heap.size w w' := by
  have h1 := prime_ok m h
  have h2 := Sha.whole_3 (prime m) (by omega)
  exact root_known3 _ _ _ h1.1 h1.2.1 h2.1 h2.2.1 (cube_ok m h) w
theorem root_prime2 (m : Nat) (h : m < 16) (w : World) :
    Calls Try.prog 7 #[.int .u64 (prime m : Nat), .bool false] w fun x w' => x = .returned (.int .u64 (hOf m : Nat)) ∧ Below w.heap.size w w' := by
  have h1 := prime_ok m h
  have h2 := Sha.whole_2 (prime m) (by omega)
  exact root_known2 _ _ _ h1.1 h1.2.1 h2.1 h2.2.1 (square_ok m h) w

theorem cellOf {w : World} {g : Nat} {l : List Nat} {t : TypeId} (h : w.heap[g]? = some (.cells (vals l) t (0, 0))) {k n : Nat} (hn : l[k]? = some n) : w.cell? ⟨g, k, none⟩ = some (.int .u64 (n : Nat)) := by
  rw [cell_of_row _ _ _ _ _ _ h]; exact vals_get l k n hn

/-- The memory behind the tables. -/
structure Roots (w : World) (H T m q : Nat) (X : World) : Prop where
  k : X.heap[w.heap.size]? = some (.cells (vals primes) 27 (0, 0))
  h : ∃ l : List Nat, X.heap[H]? = some (.cells (vals l) 28 (0, 0)) ∧ l[q]? = some (hOf m)
  t : X.heap[T]? = some (.cells (vals ks) 30 (0, 0))
  below : Below w.heap.size w X
  lt : m < 16

theorem Roots.next {w : World} {H T m q : Nat} {X Y : World} (r : Roots w H T m q X) (hb : Below X.heap.size X Y) : Roots w H T m q Y := by
  obtain ⟨l, h1, h2⟩ := r.h
  exact ⟨keepBlock r.k hb, ⟨l, keepBlock h1 hb, h2⟩, keepBlock r.t hb, below_link r.below hb, r.lt⟩
theorem Roots.drew {w : World} {H T m q : Nat} {X : World} (r : Roots w H T m q X) : Roots w H T m q X.drew :=
  ⟨r.k, r.h, r.t, r.below.drew, r.lt⟩
theorem Roots.cells {w : World} {H T m q : Nat} {X : World} (r : Roots w H T m q X) :
    X.cell? ⟨w.heap.size, m, none⟩ = some (.int .u64 (prime m : Nat)) ∧ X.cell? ⟨H, q, none⟩ = some (.int .u64 (hOf m : Nat)) ∧ X.cell? ⟨T, m, none⟩ = some (.int .u64 (kOf m : Nat)) := by
  obtain ⟨l, h1, h2⟩ := r.h
  exact ⟨cellOf r.k (prime_ok m r.lt).2.2.1, cellOf h1 h2, cellOf r.t (prime_ok m r.lt).2.2.2⟩

set_option maxHeartbeats 2000000 in
theorem roots_low (n m : Nat) (hn : n < 256) (hm : m = n % 16) (hl : m < 8) (p : Nat) (w : World) :
    Calls Try.prog 4 #[.int .u8 n, .int .u64 p] w fun e w' => e = .returned (.bool true) ∧ Below w.heap.size w w' := by
  obtain ⟨zs, hs, hz, hi⟩ := zero80
  have hne : ¬ zs = #[] := by rintro rfl; simp at hs
  have hm16 : m < 16 := by omega
  have m1 : (n : Int) % 16 = (m : Int) := by omega
  have b1 : (m : Int) < 16 := by omega
  have b2 : (m : Int) < 80 := by omega
  have g7 : decide ((7 : Int) < (m : Int)) = false := by simp; omega
  obtain ⟨q, hq⟩ : ∃ q, q = m % 8 := ⟨_, rfl⟩
  have m2 : (m : Int) % 8 = (q : Int) := by omega
  have m3 : Int.tmod (m : Int) 8 = (q : Int) := by rw [Int.tmod_eq_emod_of_nonneg (by omega)]; exact m2
  have b3 : (q : Int) < 8 := by omega
  have HM := Lib.hid hm16; clear hm16
  have HP := Lib.hid (show (2 ≤ p ∧ p ≤ 1000) ∨ (p < 2 ∨ 1000 < p) by omega)
  have HL := Lib.hid hl; clear hl
  have HQ := Lib.hid hq; clear hq hm hn
  go_enter Try.func4, Try.ntmps4
  go_wp2_with fail
  refine (hRef5B _).mono ?_
  rintro e w1 ⟨rfl, hb1⟩
  have k1 := keepBlock (heap_alloc_new w (.cells (vals primes) 27)) hb1
  have HB1 := Lib.hid (below_link ((Below.refl _ _).alloc (Nat.le_refl _) _) hb1); clear hb1
  have HK1 := Lib.hid k1; clear k1
  have st1 := storeNew w1 28 #[.int .u64 0, .int .u64 0, .int .u64 0, .int .u64 0, .int .u64 0, .int .u64 0, .int .u64 0, .int .u64 0] (vals hs5) row8_size rfl hs5_one
  go_wp2_with fail
  refine (kRefB _).mono ?_
  rintro e w3 ⟨rfl, hb3⟩
  have k3 := keepBlock (keepAlloc HK1.out _) hb3
  have h3 := keepBlock (heap_alloc_new w1 (.cells (vals hs5) 28)) hb3
  have HB3 := Lib.hid (below_link (below_alloc HB1.out _) hb3); clear hb3
  have HK3 := Lib.hid k3; clear k3
  have H3 := Lib.hid h3; clear h3
  have st3 := storeNew w3 30 zs (vals ks) (row80_size.trans (congrArg some ks_size.symm)) (hs.trans ks_size.symm) ks_one
  have r4 : Roots w w1.heap.size w3.heap.size m q (w3.alloc (.cells (vals ks) 30)) :=
    ⟨keepAlloc HK3.out _, ⟨_, keepAlloc H3.out _, by rw [show q = m by have := HQ.out; have := HL.out; omega]; exact hOf_low m HL.out⟩, heap_alloc_new w3 _, below_alloc HB3.out _, HM.out⟩
  have rd := r4.drew
  have HR := Lib.hid (fun X h => Roots.cells (w := w) (H := w1.heap.size) (T := w3.heap.size) (m := m) (q := q) (X := X) h)
  go_upto_region 7 with fail
  go_cut [40] (fun s wc => s = .bool false ∧ Roots w w1.heap.size w3.heap.size m q wc)
  case first =>
    go_region_held3 (fun X => X.cell? ⟨w.heap.size, m, none⟩ = some (.int .u64 (prime m : Nat)) ∧ X.cell? ⟨w1.heap.size, q, none⟩ = some (.int .u64 (hOf m : Nat)) ∧ X.cell? ⟨w3.heap.size, m, none⟩ = some (.int .u64 (kOf m : Nat))) ((refine HR.out _ ?_; (with_reducible assumption)))
      (first | (go_at_call 5; with_reducible refine (awake_any _).mono ?_; rintro e w' ⟨rfl, hbw⟩; have hbx' := Roots.next (by with_reducible assumption) hbw) | (go_at_call 7; with_reducible refine (root_prime3 m HM.out _).mono ?_; rintro e w' ⟨rfl, hbw⟩; have hbx' := Roots.next (by with_reducible assumption) hbw) | (go_at_call 7; with_reducible refine (root_prime2 m HM.out _).mono ?_; rintro e w' ⟨rfl, hbw⟩; have hbx' := Roots.next (by with_reducible assumption) hbw))
    all_goals (go_wp2_with fail; go_meet)
    all_goals exact ⟨rfl, by with_reducible assumption⟩
  case rest =>
    obtain ⟨rfl, hbx⟩ := hcut
    have HBX := Lib.hid hbx.below; clear hbx
    rcases HP.out with hp | hp
    · have d1 : decide ((2 : Int) ≤ (p : Int)) = true := by simp; omega
      have d2 : decide ((p : Int) ≤ 1000) = true := by simp; omega
      clear hp
      go_wp2
      go_ret
      exact ⟨rfl, HBX.out⟩
    · have HN := Lib.hid hp
      rcases hp with hp | hp
      · have d1 : decide ((2 : Int) ≤ (p : Int)) = false := by simp; omega
        clear hp
        go_wp2_with fail
        refine (root_none3 p HN.out _).mono ?_
        rintro e w' ⟨rfl, rfl⟩
        go_wp2_with fail
        refine (root_none2 p HN.out _).mono ?_
        rintro e w' ⟨rfl, rfl⟩
        go_wp2
        go_ret
        exact ⟨rfl, HBX.out⟩
      · have d1 : decide ((2 : Int) ≤ (p : Int)) = true := by simp; omega
        have d2 : decide ((p : Int) ≤ 1000) = false := by simp; omega
        clear hp
        go_wp2_with fail
        refine (root_none3 p HN.out _).mono ?_
        rintro e w' ⟨rfl, rfl⟩
        go_wp2_with fail
        refine (root_none2 p HN.out _).mono ?_
        rintro e w' ⟨rfl, rfl⟩
        go_wp2
        go_ret
        exact ⟨rfl, HBX.out⟩

set_option maxHeartbeats 2000000 in
theorem roots_high (n m : Nat) (hn : n < 256) (hm : m = n % 16) (hl : 8 ≤ m) (p : Nat) (w : World) :
    Calls Try.prog 4 #[.int .u8 n, .int .u64 p] w fun e w' => e = .returned (.bool true) ∧ Below w.heap.size w w' := by
  obtain ⟨zs, hs, hz, hi⟩ := zero80
  have hne : ¬ zs = #[] := by rintro rfl; simp at hs
  have hm16 : m < 16 := by omega
  have m1 : (n : Int) % 16 = (m : Int) := by omega
  have b1 : (m : Int) < 16 := by omega
  have b2 : (m : Int) < 80 := by omega
  have g7 : decide ((7 : Int) < (m : Int)) = true := by simp; omega
  obtain ⟨q, hq⟩ : ∃ q, q = m % 8 := ⟨_, rfl⟩
  have m2 : (m : Int) % 8 = (q : Int) := by omega
  have m3 : Int.tmod (m : Int) 8 = (q : Int) := by rw [Int.tmod_eq_emod_of_nonneg (by omega)]; exact m2
  have b3 : (q : Int) < 8 := by omega
  have HM := Lib.hid hm16; clear hm16
  have HP := Lib.hid (show (2 ≤ p ∧ p ≤ 1000) ∨ (p < 2 ∨ 1000 < p) by omega)
  have HL := Lib.hid hl; clear hl
  have HQ := Lib.hid hq; clear hq hm hn
  go_enter Try.func4, Try.ntmps4
  go_wp2_with fail
  refine (hRef5B _).mono ?_
  rintro e w1 ⟨rfl, hb1⟩
  have k1 := keepBlock (heap_alloc_new w (.cells (vals primes) 27)) hb1
  have HB1 := Lib.hid (below_link ((Below.refl _ _).alloc (Nat.le_refl _) _) hb1); clear hb1
  have HK1 := Lib.hid k1; clear k1
  have st1 := storeNew w1 28 #[.int .u64 0, .int .u64 0, .int .u64 0, .int .u64 0, .int .u64 0, .int .u64 0, .int .u64 0, .int .u64 0] (vals hs5) row8_size rfl hs5_one
  go_wp2_with fail
  refine (hRef3B _).mono ?_
  rintro e w2 ⟨rfl, hb2⟩
  have k2 := keepBlock (keepAlloc HK1.out _) hb2
  have h2 := keepBlock (heap_alloc_new w1 (.cells (vals hs5) 28)) hb2
  have HB2 := Lib.hid (below_link (below_alloc HB1.out _) hb2); clear hb2
  have st2 := storeOld w2 w1.heap.size 28 (vals hs5) (vals hs3) h2 rfl hs3_one
  have H2 := Lib.hid h2; clear h2
  have HK2 := Lib.hid k2; clear k2
  go_wp2_with fail
  refine (kRefB _).mono ?_
  rintro e w3 ⟨rfl, hb3⟩
  have hs1 : w.heap.size ≤ w1.heap.size := HB1.out.size
  have hlt : w.heap.size < w1.heap.size := (Array.getElem?_eq_some_iff.1 HK1.out).1
  have k3 := keepBlock (w := w2.setRow w1.heap.size (vals hs3)) ((setRow_other w2 w1.heap.size w.heap.size (vals hs3) (by omega)).trans HK2.out) hb3
  have h3 := keepBlock (w := w2.setRow w1.heap.size (vals hs3)) (setRow_heap _ _ _ (vals hs3) _ _ H2.out) hb3
  have HB3 := Lib.hid (below_link (below_setRow HB2.out hs1 _) hb3); clear hb3 hs1 hlt
  have HK3 := Lib.hid k3; clear k3
  have H3 := Lib.hid h3; clear h3
  have st3 := storeNew w3 30 zs (vals ks) (row80_size.trans (congrArg some ks_size.symm)) (hs.trans ks_size.symm) ks_one
  have r4 : Roots w w1.heap.size w3.heap.size m q (w3.alloc (.cells (vals ks) 30)) :=
    ⟨keepAlloc HK3.out _, ⟨_, keepAlloc H3.out _, by have e := hOf_high q (by have := HQ.out; omega); rw [show q + 8 = m by have := HQ.out; have := HL.out; have := HM.out; omega] at e; exact e⟩, heap_alloc_new w3 _, below_alloc HB3.out _, HM.out⟩
  have rd := r4.drew
  have HR := Lib.hid (fun X h => Roots.cells (w := w) (H := w1.heap.size) (T := w3.heap.size) (m := m) (q := q) (X := X) h)
  go_upto_region 7 with fail
  go_cut [40] (fun s wc => s = .bool false ∧ Roots w w1.heap.size w3.heap.size m q wc)
  case first =>
    go_region_held3 (fun X => X.cell? ⟨w.heap.size, m, none⟩ = some (.int .u64 (prime m : Nat)) ∧ X.cell? ⟨w1.heap.size, q, none⟩ = some (.int .u64 (hOf m : Nat)) ∧ X.cell? ⟨w3.heap.size, m, none⟩ = some (.int .u64 (kOf m : Nat))) ((refine HR.out _ ?_; (with_reducible assumption)))
      (first | (go_at_call 5; with_reducible refine (awake_any _).mono ?_; rintro e w' ⟨rfl, hbw⟩; have hbx' := Roots.next (by with_reducible assumption) hbw) | (go_at_call 7; with_reducible refine (root_prime3 m HM.out _).mono ?_; rintro e w' ⟨rfl, hbw⟩; have hbx' := Roots.next (by with_reducible assumption) hbw) | (go_at_call 7; with_reducible refine (root_prime2 m HM.out _).mono ?_; rintro e w' ⟨rfl, hbw⟩; have hbx' := Roots.next (by with_reducible assumption) hbw))
    all_goals (go_wp2_with fail; go_meet)
    all_goals exact ⟨rfl, by with_reducible assumption⟩
  case rest =>
    obtain ⟨rfl, hbx⟩ := hcut
    have HBX := Lib.hid hbx.below; clear hbx
    rcases HP.out with hp | hp
    · have d1 : decide ((2 : Int) ≤ (p : Int)) = true := by simp; omega
      have d2 : decide ((p : Int) ≤ 1000) = true := by simp; omega
      clear hp
      go_wp2
      go_ret
      exact ⟨rfl, HBX.out⟩
    · have HN := Lib.hid hp
      rcases hp with hp | hp
      · have d1 : decide ((2 : Int) ≤ (p : Int)) = false := by simp; omega
        clear hp
        go_wp2_with fail
        refine (root_none3 p HN.out _).mono ?_
        rintro e w' ⟨rfl, rfl⟩
        go_wp2_with fail
        refine (root_none2 p HN.out _).mono ?_
        rintro e w' ⟨rfl, rfl⟩
        go_wp2
        go_ret
        exact ⟨rfl, HBX.out⟩
      · have d1 : decide ((2 : Int) ≤ (p : Int)) = true := by simp; omega
        have d2 : decide ((p : Int) ≤ 1000) = false := by simp; omega
        clear hp
        go_wp2_with fail
        refine (root_none3 p HN.out _).mono ?_
        rintro e w' ⟨rfl, rfl⟩
        go_wp2_with fail
        refine (root_none2 p HN.out _).mono ?_
        rintro e w' ⟨rfl, rfl⟩
        go_wp2
        go_ret
        exact ⟨rfl, HBX.out⟩

end Go.Proofs.Ytbhnfepdbbdcnaa
