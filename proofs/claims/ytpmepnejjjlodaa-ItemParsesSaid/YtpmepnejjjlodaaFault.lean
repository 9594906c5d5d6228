/-
  Contract of dromondref02.Fault. Conditions: at most 800 bytes.
-/
import Derived.Test.YtpmepnejjjlodaaSound
import Derived.Test.YtpmepnejjjlodaaKind
import Derived.Test.YtpmepnejjjlodaaList
import Derived.Test.YtpmepnejjjlodaaO
namespace Go.Proofs.Ytpmepnejjjlodaa
open Go.ChangeShapes Go.WideShapes Go.ChangeAt Go.RowKit
open Plain
set_option linter.unusedVariables false

/-- The place and the code of a result, read from a place on. -/
def resOf {α : Type} (p : Nat) : Res α → Nat × Int
  | .ok _ u => (p + u, 0)
  | .err a c => (p + a, c)

def FaultPost {α : Type} (p : Nat) (R : Res α) (w : World) (e : Ending) (w' : World) : Prop :=
  e = .returned (.tuple #[.int .i64 (resOf p R).1, .int .i64 (resOf p R).2]) ∧ Below w.heap.size w w'

theorem read_at (s : ByteArray) (p : Nat) (hs : s.size ≤ 800) (w : World) : Calls Try.prog 33 #[.string (s.extract p s.size)] w fun e w' => e = .returned (gotV (headL (s.data.toList.drop p))) ∧ Below w.heap.size w w' := by
  have := read_any (s.extract p s.size) w (by rw [extract_size]; unfold maxLen; omega)
  rw [drop_extract] at this
  exact this

set_option maxHeartbeats 1000000 in
set_option maxRecDepth 100000 in
theorem fault_none (s : ByteArray) (p : Nat) (d : Nat) (w : World) (hs : s.size ≤ 800) (hp : p ≤ s.size) (hx : headL (s.data.toList.drop p) = none) : Calls Try.prog 16 #[.string s, .int .i64 p, .int .i64 d] w fun e w' => e = .returned (.tuple #[.int .i64 p, .int .i64 2]) ∧ Below w.heap.size w w' := by
  have hr := fun W => read_at s p hs W
  rw [hx] at hr
  have HR := Lib.hid hr; clear hr hx
  have hpI : (p : Int) ≤ (s.size : Int) := by omega
  have hsI : (s.size : Int) ≤ 800 := by omega
  go_enter Try.func16, Try.ntmps16
  go_wp2_with fail
  refine (HR.out _).mono ?_
  rintro e w1 ⟨rfl, hb1⟩
  simp only [gotV]
  have H1 := Lib.hid (hb1.alloc hb1.size (.cells #[.int .i64 0, .int .i64 0, .int .u64 0, .bool false] 61)); clear hb1
  go_wp2
  go_ret2
  exact ⟨rfl, H1.out⟩

set_option maxHeartbeats 1000000 in
set_option maxRecDepth 100000 in
theorem fault_kind (s : ByteArray) (p : Nat) (d : Nat) (w : World) (hs : s.size ≤ 800) (hp : p ≤ s.size) (x : Hd) (hx : headL (s.data.toList.drop p) = some x) (hk : kindOk x.major = false) : Calls Try.prog 16 #[.string s, .int .i64 p, .int .i64 d] w fun e w' => e = .returned (.tuple #[.int .i64 p, .int .i64 2]) ∧ Below w.heap.size w w' := by
  have hr := fun W => read_at s p hs W
  rw [hx] at hr
  obtain ⟨z1, z9, zl, z7, z64, zop⟩ := headL_size hx
  have HR := Lib.hid hr; clear hr hx
  have hpI : (p : Int) ≤ (s.size : Int) := by omega
  have hsI : (s.size : Int) ≤ 800 := by omega
  simp [kindOk] at hk
  obtain ⟨⟨⟨k0, k2⟩, k3⟩, k4⟩ := hk
  have HZ := Lib.hid z64; clear z64 zop zl
  obtain ⟨m, n, o, z⟩ := x
  simp only [] at *
  have gz : ((z : Int) == 0) = false := by simp; omega
  have gz' : ¬ z = 0 := by omega
  have g0 : ((m : Int) != 0) = true := by simp; omega
  have g2 : ((m : Int) != 2) = true := by simp; omega
  have g3 : ((m : Int) != 3) = true := by simp; omega
  have g4 : ((m : Int) != 4) = true := by simp; omega
  go_enter Try.func16, Try.ntmps16
  go_wp2_with fail
  refine (HR.out _).mono ?_
  rintro e w1 ⟨rfl, hb1⟩
  simp only [gotV]
  have H1 := Lib.hid (hb1.alloc hb1.size (.cells #[.int .i64 z, .int .i64 m, .int .u64 n, .bool o] 61)); clear hb1
  go_wp2
  go_ret2
  exact ⟨rfl, H1.out⟩

set_option maxHeartbeats 1000000 in
set_option maxRecDepth 100000 in
theorem fault_deep (s : ByteArray) (p : Nat) (w : World) (hs : s.size ≤ 800) (hp : p ≤ s.size) (x : Hd) (hx : headL (s.data.toList.drop p) = some x) (hk : x.major = 0 ∨ x.major = 2 ∨ x.major = 3 ∨ x.major = 4) : Calls Try.prog 16 #[.string s, .int .i64 p, .int .i64 0] w fun e w' => e = .returned (.tuple #[.int .i64 p, .int .i64 3]) ∧ Below w.heap.size w w' := by
  have hr := fun W => read_at s p hs W
  rw [hx] at hr
  obtain ⟨z1, z9, zl, z7, z64, zop⟩ := headL_size hx
  have HR := Lib.hid hr; clear hr hx
  have hpI : (p : Int) ≤ (s.size : Int) := by omega
  have hsI : (s.size : Int) ≤ 800 := by omega
  have HZ := Lib.hid z64; clear z64 zop zl
  obtain ⟨m, n, o, z⟩ := x
  simp only [] at *
  have gz : ((z : Int) == 0) = false := by simp; omega
  have gz' : ¬ z = 0 := by omega
  rcases hk with rfl | rfl | rfl | rfl
  all_goals (
    go_enter Try.func16, Try.ntmps16
    go_wp2_with fail
    refine (HR.out _).mono ?_
    rintro e w1 ⟨rfl, hb1⟩
    simp only [gotV]
    have hba : ∀ o : Obj, Below w.heap.size w (w1.alloc o) := fun o => hb1.alloc hb1.size o; have H1 := Lib.hid hba; clear hba hb1
    go_wp2
    go_ret2
    exact ⟨rfl, H1.out _⟩)

set_option maxHeartbeats 1000000 in
set_option maxRecDepth 100000 in
theorem fault_num (s : ByteArray) (p : Nat) (d : Nat) (w : World) (hs : s.size ≤ 800) (hp : p ≤ s.size) (x : Hd) (hx : headL (s.data.toList.drop p) = some x) (hd0 : ¬ d = 0) (hm : x.major = 0) : Calls Try.prog 16 #[.string s, .int .i64 p, .int .i64 d] w fun e w' => e = .returned (.tuple #[.int .i64 ((p + x.size : Nat) : Int), .int .i64 0]) ∧ Below w.heap.size w w' := by
  have hr := fun W => read_at s p hs W
  rw [hx] at hr
  obtain ⟨z1, z9, zl, z7, z64, zop⟩ := headL_size hx
  have HR := Lib.hid hr; clear hr hx
  have hpI : (p : Int) ≤ (s.size : Int) := by omega
  have hsI : (s.size : Int) ≤ 800 := by omega
  have HZ := Lib.hid z64; clear z64 zop zl
  obtain ⟨m, n, o, z⟩ := x
  simp only [] at *
  subst hm
  have gz : ((z : Int) == 0) = false := by simp; omega
  have gz' : ¬ z = 0 := by omega
  have gd : ((d : Int) == 0) = false := by simp; omega
  go_enter Try.func16, Try.ntmps16
  go_wp2_with fail
  refine (HR.out _).mono ?_
  rintro e w1 ⟨rfl, hb1⟩
  simp only [gotV]
  have H1 := Lib.hid (hb1.alloc hb1.size (.cells #[.int .i64 z, .int .i64 0, .int .u64 n, .bool o] 61)); clear hb1
  go_wp2
  go_ret2
  exact ⟨by simp, H1.out⟩

set_option maxHeartbeats 2000000 in
set_option maxRecDepth 100000 in
theorem fault_str_bad (s : ByteArray) (p : Nat) (d : Nat) (w : World) (hs : s.size ≤ 800) (hp : p ≤ s.size) (x : Hd) (hx : headL (s.data.toList.drop p) = some x) (hd0 : ¬ d = 0) (hm : x.major = 2 ∨ x.major = 3) (hbad : x.op = true ∨ s.size - (p + x.size) < x.n) : Calls Try.prog 16 #[.string s, .int .i64 p, .int .i64 d] w fun e w' => e = .returned (.tuple #[.int .i64 p, .int .i64 2]) ∧ Below w.heap.size w w' := by
  have hr := fun W => read_at s p hs W
  rw [hx] at hr
  obtain ⟨z1, z9, zl, z7, z64, zop⟩ := headL_size hx
  rw [List.length_drop, size_data] at zl
  have HR := Lib.hid hr; clear hr hx
  have hpI : (p : Int) ≤ (s.size : Int) := by omega
  have hsI : (s.size : Int) ≤ 800 := by omega
  have HZ := Lib.hid z64; clear z64 zop
  obtain ⟨m, n, o, z⟩ := x
  simp only [] at *
  have gz : ((z : Int) == 0) = false := by simp; omega
  have gz' : ¬ z = 0 := by omega
  have gd : ((d : Int) == 0) = false := by simp; omega
  have hend : (p : Int) + (z : Int) ≤ (s.size : Int) := by omega
  by_cases ho : o = true
  · subst ho
    clear hbad
    rcases hm with rfl | rfl
    all_goals (
      go_enter Try.func16, Try.ntmps16
      go_wp2_with fail
      refine (HR.out _).mono ?_
      rintro e w1 ⟨rfl, hb1⟩
      simp only [gotV]
      have hba : ∀ o : Obj, Below w.heap.size w (w1.alloc o) := fun o => hb1.alloc hb1.size o; have H1 := Lib.hid hba; clear hba hb1
      go_wp2
      go_ret2
      exact ⟨rfl, H1.out _⟩)
  · have ho' : o = false := by cases o <;> simp_all
    subst ho'
    have hb' : s.size - (p + z) < n := by simpa using hbad
    have hbI : (s.size : Int) - ((p : Int) + (z : Int)) < (n : Int) := by omega
    have hbD : decide ((s.size : Int) - ((p : Int) + (z : Int)) < (n : Int)) = true := by simpa using hbI
    clear hbad hb'
    rcases hm with rfl | rfl
    all_goals (
      go_enter Try.func16, Try.ntmps16
      go_wp2_with fail
      refine (HR.out _).mono ?_
      rintro e w1 ⟨rfl, hb1⟩
      simp only [gotV]
      have hba : ∀ o : Obj, Below w.heap.size w (w1.alloc o) := fun o => hb1.alloc hb1.size o; have H1 := Lib.hid hba; clear hba hb1
      go_wp2
      go_ret2
      exact ⟨rfl, H1.out _⟩)

set_option maxHeartbeats 2000000 in
set_option maxRecDepth 100000 in
theorem fault_str_good (s : ByteArray) (p : Nat) (d : Nat) (w : World) (hs : s.size ≤ 800) (hp : p ≤ s.size) (x : Hd) (hx : headL (s.data.toList.drop p) = some x) (hd0 : ¬ d = 0) (hm : x.major = 2 ∨ x.major = 3) (hop : x.op = false) (hn : x.n ≤ s.size - (p + x.size)) : Calls Try.prog 16 #[.string s, .int .i64 p, .int .i64 d] w fun e w' => e = .returned (.tuple #[.int .i64 ((p + (x.size + x.n) : Nat) : Int), .int .i64 0]) ∧ Below w.heap.size w w' := by
  have hr := fun W => read_at s p hs W
  rw [hx] at hr
  obtain ⟨z1, z9, zl, z7, z64, zop⟩ := headL_size hx
  rw [List.length_drop, size_data] at zl
  have HR := Lib.hid hr; clear hr hx
  have hpI : (p : Int) ≤ (s.size : Int) := by omega
  have hsI : (s.size : Int) ≤ 800 := by omega
  have HZ := Lib.hid z64; clear z64 zop
  obtain ⟨m, n, o, z⟩ := x
  simp only [] at *
  subst hop
  have gz : ((z : Int) == 0) = false := by simp; omega
  have gz' : ¬ z = 0 := by omega
  have gd : ((d : Int) == 0) = false := by simp; omega
  have hend : (p : Int) + (z : Int) ≤ (s.size : Int) := by omega
  have hnI : (n : Int) ≤ 800 := by omega
  have hbD : decide ((s.size : Int) - ((p : Int) + (z : Int)) < (n : Int)) = false := by simp; omega
  rcases hm with rfl | rfl
  all_goals (
    go_enter Try.func16, Try.ntmps16
    go_wp2_with fail
    refine (HR.out _).mono ?_
    rintro e w1 ⟨rfl, hb1⟩
    simp only [gotV]
    have hba : ∀ o : Obj, Below w.heap.size w (w1.alloc o) := fun o => hb1.alloc hb1.size o; have H1 := Lib.hid hba; clear hba hb1
    go_wp2
    go_ret2
    exact ⟨by simp [Int.add_assoc], H1.out _⟩)

set_option maxHeartbeats 1000000 in
set_option maxRecDepth 100000 in
theorem fault_long (s : ByteArray) (p : Nat) (d : Nat) (w : World) (hs : s.size ≤ 800) (hp : p ≤ s.size) (x : Hd) (hx : headL (s.data.toList.drop p) = some x) (hd0 : ¬ d = 0) (hm : x.major = 4) (hop : x.op = false) (hn : 1000 < x.n) : Calls Try.prog 16 #[.string s, .int .i64 p, .int .i64 d] w fun e w' => e = .returned (.tuple #[.int .i64 p, .int .i64 4]) ∧ Below w.heap.size w w' := by
  have hr := fun W => read_at s p hs W
  rw [hx] at hr
  obtain ⟨z1, z9, zl, z7, z64, zop⟩ := headL_size hx
  have HR := Lib.hid hr; clear hr hx
  have hpI : (p : Int) ≤ (s.size : Int) := by omega
  have hsI : (s.size : Int) ≤ 800 := by omega
  have HZ := Lib.hid z64; clear z64 zop zl
  obtain ⟨m, n, o, z⟩ := x
  simp only [] at *
  subst hm hop
  have gz : ((z : Int) == 0) = false := by simp; omega
  have gz' : ¬ z = 0 := by omega
  have gd : ((d : Int) == 0) = false := by simp; omega
  have gn : decide ((1000 : Int) < (n : Int)) = true := by simp; omega
  have hnI : (1000 : Int) < (n : Int) := by omega
  go_enter Try.func16, Try.ntmps16
  go_wp2_with fail
  refine (HR.out _).mono ?_
  rintro e w1 ⟨rfl, hb1⟩
  simp only [gotV]
  have H1 := Lib.hid (hb1.alloc hb1.size (.cells #[.int .i64 z, .int .i64 4, .int .u64 n, .bool false] 61)); clear hb1
  go_wp2
  go_ret2
  exact ⟨rfl, H1.out⟩


end Go.Proofs.Ytpmepnejjjlodaa
