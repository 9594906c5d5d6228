/-
  Joined: ShaSpec, Sa. Conditions: as each part says.
-/
import Derived.Test.YtedoggejbhbebaaJ14
import Derived.Test.YtedoggejbhbebaaRows
import Derived.WalkKit
import Derived.ProofKit
import Derived.OpenShut
import Derived.WalkSpells
import Derived.WalkLawsBesides
import Derived.Outline
import Derived.Lib.Hide
import Derived.Laws.BitsAllLaws
import Derived.Laws.Externs
import Derived.RegionTactic
import Derived.ChangeAlike
import Derived.Deep.QuietTactic
import Derived.BigQuiet
import Derived.Deep.RegionHeld3
import Derived.Deep.DeepCutAuto

/-
  The digests as plain functions on numbers: schedule, rounds, blocks, padding, bytes. Conditions: none.
-/
namespace Go.Proofs.Ytedoggejbhbebaa
namespace Sha

/-- The twelve turns of words of w bits: big 0, big 1, small 0, small 1. -/
def turns (w : Nat) : List Nat := if w = 32 then [2, 13, 22, 6, 11, 25, 7, 18, 3, 17, 19, 10] else [28, 34, 39, 14, 18, 41, 1, 8, 7, 19, 61, 6]
def turn (w i : Nat) : Nat := (turns w).getD i 0
def roundsOf (w : Nat) : Nat := if w = 32 then 64 else 80

/-- Three turns. -/
def big (w i x : Nat) : Nat := (rotr w x (turn w i) ^^^ rotr w x (turn w (i + 1))) ^^^ rotr w x (turn w (i + 2))
/-- Two turns and a shift. -/
def little (w i x : Nat) : Nat := (rotr w x (turn w i) ^^^ rotr w x (turn w (i + 1))) ^^^ x / 2 ^ turn w (i + 2)

theorem big_lt {w i x : Nat} (hx : x < 2 ^ w) : big w i x < 2 ^ w :=
  Nat.xor_lt_two_pow (Nat.xor_lt_two_pow (rotr_lt hx) (rotr_lt hx)) (rotr_lt hx)
theorem little_lt {w i x : Nat} (hx : x < 2 ^ w) : little w i x < 2 ^ w :=
  Nat.xor_lt_two_pow (Nat.xor_lt_two_pow (rotr_lt hx) (rotr_lt hx)) (Nat.lt_of_le_of_lt (Nat.div_le_self _ _) hx)

/-! ### The schedule -/

/-- The word at i, where those before it are known: m has a block's own sixteen. -/
def nextW (w : Nat) (m : Nat → Nat) (i : Nat) (l : List Nat) : Nat :=
  if i < 16 then m i else (l.getD (i - 16) 0 + little w 6 (l.getD (i - 15) 0) + l.getD (i - 7) 0 + little w 9 (l.getD (i - 2) 0)) % 2 ^ w
/-- The first n words. -/
def sched (w : Nat) (m : Nat → Nat) : Nat → List Nat
  | 0 => []
  | i + 1 => sched w m i ++ [nextW w m i (sched w m i)]
/-- The word at i. -/
def word (w : Nat) (m : Nat → Nat) (i : Nat) : Nat := nextW w m i (sched w m i)

theorem sched_length (w : Nat) (m : Nat → Nat) (n : Nat) : (sched w m n).length = n := by
  induction n with
  | zero => rfl
  | succ n ih => simp [sched, ih]

theorem sched_get (w : Nat) (m : Nat → Nat) (n : Nat) : ∀ j, j < n → (sched w m n).getD j 0 = word w m j := by
  induction n with
  | zero => intro j h; omega
  | succ n ih =>
    intro j h
    have hl := sched_length w m n
    rw [sched, List.getD_eq_getElem?_getD]
    by_cases hj : j < n
    · rw [List.getElem?_append_left (by omega), ← List.getD_eq_getElem?_getD]
      exact ih j hj
    · obtain rfl : j = n := by omega
      rw [List.getElem?_append_right (by omega), hl, Nat.sub_self]
      rfl

theorem word_low (w : Nat) (m : Nat → Nat) (i : Nat) (h : i < 16) : word w m i = m i := if_pos h

theorem word_high (w : Nat) (m : Nat → Nat) (i : Nat) (h : 16 ≤ i) :
    word w m i = (word w m (i - 16) + little w 6 (word w m (i - 15)) + word w m (i - 7) + little w 9 (word w m (i - 2))) % 2 ^ w := by
  unfold word nextW
  rw [if_neg (by omega), sched_get w m i _ (by omega), sched_get w m i _ (by omega), sched_get w m i _ (by omega), sched_get w m i _ (by omega)]
  rfl

theorem word_lt {w : Nat} {m : Nat → Nat} (hm : ∀ i < 16, m i < 2 ^ w) (i : Nat) : word w m i < 2 ^ w := by
  by_cases h : i < 16
  · rw [word_low w m i h]; exact hm i h
  · rw [word_high w m i (by omega)]; exact Nat.mod_lt _ (Nat.two_pow_pos w)

/-! ### The rounds -/

/-- Eight words. -/
structure St where
  (a b c d e f g h : Nat)

/-- One round. -/
def t1 (w k x : Nat) (s : St) : Nat := (s.h + big w 3 s.e + ch w s.e s.f s.g + k + x) % 2 ^ w
def t2 (w : Nat) (s : St) : Nat := (big w 0 s.a + maj s.a s.b s.c) % 2 ^ w
def round (w k x : Nat) (s : St) : St := ⟨(t1 w k x s + t2 w s) % 2 ^ w, s.a, s.b, s.c, (s.d + t1 w k x s) % 2 ^ w, s.e, s.f, s.g⟩
/-- The first n rounds: k has the constants. -/
def rounds (w : Nat) (k m : Nat → Nat) : Nat → St → St
  | 0, s => s
  | i + 1, s => round w (k i) (word w m i) (rounds w k m i s)

structure St.Small (w : Nat) (s : St) : Prop where
  a : s.a < 2 ^ w
  b : s.b < 2 ^ w
  c : s.c < 2 ^ w
  d : s.d < 2 ^ w
  e : s.e < 2 ^ w
  f : s.f < 2 ^ w
  g : s.g < 2 ^ w
  h : s.h < 2 ^ w

theorem round_small {w k x : Nat} {s : St} (h : s.Small w) : (round w k x s).Small w :=
  ⟨Nat.mod_lt _ (Nat.two_pow_pos w), h.a, h.b, h.c, Nat.mod_lt _ (Nat.two_pow_pos w), h.e, h.f, h.g⟩

theorem rounds_small {w : Nat} {k m : Nat → Nat} (n : Nat) {s : St} (h : s.Small w) : (rounds w k m n s).Small w := by
  induction n with
  | zero => exact h
  | succ n ih => exact round_small ih

/-- What is added behind the rounds. -/
def St.add (w : Nat) (s v : St) : St := ⟨(s.a + v.a) % 2 ^ w, (s.b + v.b) % 2 ^ w, (s.c + v.c) % 2 ^ w, (s.d + v.d) % 2 ^ w, (s.e + v.e) % 2 ^ w, (s.f + v.f) % 2 ^ w, (s.g + v.g) % 2 ^ w, (s.h + v.h) % 2 ^ w⟩

theorem add_small (w : Nat) (s v : St) : (s.add w v).Small w :=
  ⟨Nat.mod_lt _ (Nat.two_pow_pos w), Nat.mod_lt _ (Nat.two_pow_pos w), Nat.mod_lt _ (Nat.two_pow_pos w), Nat.mod_lt _ (Nat.two_pow_pos w), Nat.mod_lt _ (Nat.two_pow_pos w), Nat.mod_lt _ (Nat.two_pow_pos w), Nat.mod_lt _ (Nat.two_pow_pos w), Nat.mod_lt _ (Nat.two_pow_pos w)⟩

/-! ### Blocks -/

/-- The number that bytes spell, the highest first. -/
def beVal (l : List Nat) : Nat := l.foldl (fun n c => n * 256 + c) 0

theorem beVal_snoc (l : List Nat) (c : Nat) : beVal (l ++ [c]) = beVal l * 256 + c := by simp [beVal]

theorem fold_lt (l : List Nat) : ∀ n, (∀ c ∈ l, c < 256) → l.foldl (fun n c => n * 256 + c) n < (n + 1) * 256 ^ l.length := by
  induction l with
  | nil => intro n _; simp
  | cons c l ih =>
    intro n h
    have h1 := ih (n * 256 + c) fun x hx => h x (by simp [hx])
    have h2 := h c (by simp)
    have h3 : (n * 256 + c + 1) * 256 ^ l.length ≤ ((n + 1) * 256) * 256 ^ l.length := Nat.mul_le_mul_right _ (by omega)
    rw [Nat.mul_assoc, Nat.mul_comm 256, ← Nat.pow_succ] at h3
    exact Nat.lt_of_lt_of_le h1 h3

theorem beVal_lt (l : List Nat) (h : ∀ c ∈ l, c < 256) : beVal l < 256 ^ l.length := by
  have := fold_lt l 0 h
  rwa [Nat.zero_add, Nat.one_mul] at this

/-- The words of a block. -/
def wordsOf (w : Nat) (b : List Nat) (i : Nat) : Nat := beVal ((b.drop (w / 8 * i)).take (w / 8))

/-- A block put in. -/
def block (w : Nat) (k : Nat → Nat) (s : St) (b : List Nat) : St := s.add w (rounds w k (wordsOf w b) (roundsOf w) s)

/-- The first n blocks of the bytes. -/
def blocks (w : Nat) (k : Nat → Nat) (s : St) (b : List Nat) : Nat → St
  | 0 => s
  | n + 1 => block w k (blocks w k s b n) ((b.drop (2 * w * n)).take (2 * w))

/-! ### Padding -/

/-- How many zero bytes stand behind the byte 128, till the last w / 4 bytes of a block. -/
def gap (w len : Nat) : Nat := (2 * (2 * w) - w / 4 - 1 - len % (2 * w)) % (2 * w)
/-- A number in so many bytes, the highest first. -/
def beBytes (n : Nat) : Nat → List Nat
  | 0 => []
  | k + 1 => n / 256 ^ k % 256 :: beBytes n k

/-- The padded text. -/
def padded (w : Nat) (s : List Nat) : List Nat := s ++ 128 :: (List.replicate (gap w s.length + (w / 4 - 8)) 0 ++ beBytes (8 * s.length) 8)

theorem beBytes_length (n k : Nat) : (beBytes n k).length = k := by
  induction k with
  | zero => rfl
  | succ k ih => simp [beBytes, ih]

theorem gap_lt (w len : Nat) (hw : 0 < w) : gap w len < 2 * w := Nat.mod_lt _ (by omega)

/-- The first place from which on the length's bytes end a block. -/
theorem gap_at (w len : Nat) (hw : w = 32 ∨ w = 64) : (len + 1 + gap w len) % (2 * w) = 2 * w - w / 4 := by
  unfold gap
  rcases hw with rfl | rfl <;> omega

theorem gap_first (w len j : Nat) (hw : w = 32 ∨ w = 64) (hj : j ≤ gap w len) (h : (len + 1 + j) % (2 * w) = 2 * w - w / 4) : j = gap w len := by
  have h1 := gap_at w len hw
  have h2 := gap_lt w len (by omega)
  rcases hw with rfl | rfl <;> omega

theorem padded_length (w : Nat) (s : List Nat) (hw : w = 32 ∨ w = 64) : (padded w s).length % (2 * w) = 0 := by
  have h1 := gap_at w s.length hw
  simp only [padded, List.length_append, List.length_cons, List.length_replicate, beBytes_length]
  rcases hw with rfl | rfl <;> omega

/-! ### The digest -/

def St.list (s : St) : List Nat := [s.a, s.b, s.c, s.d, s.e, s.f, s.g, s.h]

/-- All the words' bytes. -/
def spelled (w : Nat) (l : List Nat) : List Nat := l.flatMap fun x => beBytes x (w / 8)

/-- The digest of so many bits. -/
def digest (w size : Nat) (k : Nat → Nat) (h0 : St) (s : List Nat) : List Nat :=
  (spelled w (blocks w k h0 (padded w s) ((padded w s).length / (2 * w))).list).take (size / 8)

theorem spelled_length (w : Nat) (l : List Nat) : (spelled w l).length = w / 8 * l.length := by
  induction l with
  | nil => rfl
  | cons x l ih =>
    have e : spelled w (x :: l) = beBytes x (w / 8) ++ spelled w l := rfl
    rw [e, List.length_append, beBytes_length, ih, List.length_cons, Nat.mul_succ, Nat.add_comm]

end Sha
end Go.Proofs.Ytedoggejbhbebaa

/-
  Contracts of sha.rotate, rotations and shifts, for words of 32 and of 64 bits. Conditions: the distances lie between 0 and the word's bits.
-/
namespace Go.Proofs.Ytedoggejbhbebaa
namespace Dg
open Go.ChangeShapes Go.WideShapes Go.ChangeAt Go.RowKit
open Sha
set_option linter.unusedVariables false
set_option maxRecDepth 100000

theorem below_link {w wr w3 : World} (h : Below w.heap.size w wr) (k : Below wr.heap.size wr w3) : Below w.heap.size w w3 := h.trans (k.mono h.size)
theorem below_drewN (w : World) (n : Nat) : Below w.heap.size w (w.drewN n) := ⟨rfl, rfl, rfl, Nat.le_refl _, fun _ _ => rfl⟩

theorem shr_32 (x n : Nat) : (x : Int) / 2 ^ n = ((x / 2 ^ n : Nat) : Int) := by
  rw [Int.natCast_ediv]; simp
theorem shl_32 (x n : Nat) : IntKind.u32.wrap ((x : Int) * 2 ^ n) = ((x * 2 ^ n % 4294967296 : Nat) : Int) := by
  rw [IntKind.wrap_u32]; simp

theorem rotate_32 (x n : Nat) (w : World) (hx : x < 4294967296) (hn : 0 < n ∧ n < 32) :
    Calls Try.prog 108 #[.int .u32 x, .int .i64 n, .int .i64 32] w fun e w' => e = .returned (.int .u32 (rotr 32 x n : Nat)) ∧ Below w.heap.size w w' := by
  obtain ⟨m, hm⟩ : ∃ m, m = 32 - n := ⟨_, rfl⟩
  obtain ⟨q, hq⟩ : ∃ q, q = x / 2 ^ n := ⟨_, rfl⟩
  obtain ⟨s, hs⟩ : ∃ s, s = x * 2 ^ m % 4294967296 := ⟨_, rfl⟩
  have h0 : ¬ ((n : Int) < 0) := by omega
  have e1 : IntKind.i64.wrap (32 - (n : Int)) = (m : Int) := by rw [IntKind.wrap_i64]; omega
  have e2 : (x : Int) / 2 ^ n = (q : Int) := by rw [hq]; exact shr_32 x n
  have e3 : IntKind.u32.wrap ((x : Int) * 2 ^ m) = (s : Int) := by rw [hs]; exact shl_32 x m
  have hr : q ||| s = rotr 32 x n := by rw [hq, hs, hm]; rfl
  have e4 := u32_or_nat q s (by rw [hq]; exact Nat.lt_of_le_of_lt (Nat.div_le_self _ _) hx) (by rw [hs]; exact Nat.mod_lt _ (by decide))
  rw [hr] at e4
  have hm2 : (m : Int) ≤ 32 := by omega
  have hn2 : (n : Int) ≤ 32 := by omega
  clear hq hs hm hr hx hn
  generalize rotr 32 x n = R at *
  go_enter Try.func108, Try.ntmps108
  go_wp2
  go_quiet (fail)
  go_wp2
  go_ret
  exact ⟨rfl, below_drewN w nq⟩

/-- Three distances in memory. -/
structure By32 (w : World) (a b c : Nat) (X : World) : Prop where
  row : X.heap[w.heap.size]? = some (.cells #[.int .i64 a, .int .i64 b, .int .i64 c] 127 (0, 0))
  below : Below w.heap.size w X
theorem By32.next {w X Y : World} {a b c : Nat} (h : By32 w a b c X) (hb : Below X.heap.size X Y) : By32 w a b c Y :=
  ⟨by rw [hb.block _ (Array.getElem?_eq_some_iff.1 h.row).1]; exact h.row, below_link h.below hb⟩
theorem By32.drew {w X : World} {a b c : Nat} (h : By32 w a b c X) : By32 w a b c X.drew := ⟨h.row, h.below.drew⟩
theorem By32.cells {w X : World} {a b c : Nat} (h : By32 w a b c X) : X.cell? ⟨w.heap.size, 0, none⟩ = some (.int .i64 a) ∧ X.cell? ⟨w.heap.size, 1, none⟩ = some (.int .i64 b) ∧ X.cell? ⟨w.heap.size, 2, none⟩ = some (.int .i64 c) :=
  ⟨cell_of_row _ _ _ _ _ _ h.row, cell_of_row _ _ _ _ _ _ h.row, cell_of_row _ _ _ _ _ _ h.row⟩

theorem rotations_32 (x a b c : Nat) (w : World) (hx : x < 4294967296) (ha : 0 < a ∧ a < 32) (hb : 0 < b ∧ b < 32) (hc : 0 < c ∧ c < 32) :
    Calls Try.prog 102 #[.int .u32 x, .agg #[.int .i64 a, .int .i64 b, .int .i64 c], .int .i64 32] w fun e w' => e = .returned (.int .u32 ((rotr 32 x a ^^^ rotr 32 x b) ^^^ rotr 32 x c : Nat)) ∧ Below w.heap.size w w' := by
  have la := rotr_lt (n := a) (show x < 2 ^ 32 from hx)
  have lb := rotr_lt (n := b) (show x < 2 ^ 32 from hx)
  have lc := rotr_lt (n := c) (show x < 2 ^ 32 from hx)
  have x1 := u32_xor_nat _ _ la lb
  have x2 := u32_xor_nat _ _ (Nat.xor_lt_two_pow la lb) lc
  have FA := Lib.hid (fun w => rotate_32 x a w hx ha)
  have FB := Lib.hid (fun w => rotate_32 x b w hx hb)
  have FC := Lib.hid (fun w => rotate_32 x c w hx hc)
  clear hx la lb lc ha hb hc
  generalize rotr 32 x a = A at *
  generalize rotr 32 x b = B at *
  generalize rotr 32 x c = C at *
  have r0 : By32 w a b c (w.alloc (.cells #[.int .i64 a, .int .i64 b, .int .i64 c] 127)) := ⟨heap_alloc_new w _, (Below.refl _ _).alloc (Nat.le_refl _) _⟩
  have rd := r0.drew
  have HR := Lib.hid (fun X h => By32.cells (w := w) (a := a) (b := b) (c := c) (X := X) h)
  go_enter Try.func102, Try.ntmps102
  go_wp2_with fail
  go_region_held3 (fun X => X.cell? ⟨w.heap.size, 0, none⟩ = some (.int .i64 a) ∧ X.cell? ⟨w.heap.size, 1, none⟩ = some (.int .i64 b) ∧ X.cell? ⟨w.heap.size, 2, none⟩ = some (.int .i64 c)) ((refine HR.out _ ?_; (with_reducible assumption)))
    (first | (go_at_call 108; with_reducible refine (FA.out _).mono ?_; rintro e w' ⟨rfl, hbw⟩; have hbx' := By32.next (by with_reducible assumption) hbw) | (go_at_call 108; with_reducible refine (FB.out _).mono ?_; rintro e w' ⟨rfl, hbw⟩; have hbx' := By32.next (by with_reducible assumption) hbw) | (go_at_call 108; with_reducible refine (FC.out _).mono ?_; rintro e w' ⟨rfl, hbw⟩; have hbx' := By32.next (by with_reducible assumption) hbw))
  all_goals (go_wp2; go_ret)
  all_goals exact ⟨rfl, By32.below (by with_reducible assumption)⟩

theorem shifts_32 (x a b c : Nat) (w : World) (hx : x < 4294967296) (ha : 0 < a ∧ a < 32) (hb : 0 < b ∧ b < 32) (hc : 0 < c ∧ c < 32) :
    Calls Try.prog 107 #[.int .u32 x, .agg #[.int .i64 a, .int .i64 b, .int .i64 c], .int .i64 32] w fun e w' => e = .returned (.int .u32 ((rotr 32 x a ^^^ rotr 32 x b) ^^^ x / 2 ^ c : Nat)) ∧ Below w.heap.size w w' := by
  have la := rotr_lt (n := a) (show x < 2 ^ 32 from hx)
  have lb := rotr_lt (n := b) (show x < 2 ^ 32 from hx)
  have lc : x / 2 ^ c < 2 ^ 32 := Nat.lt_of_le_of_lt (Nat.div_le_self _ _) hx
  have x1 := u32_xor_nat _ _ la lb
  have x2 := u32_xor_nat _ _ (Nat.xor_lt_two_pow la lb) lc
  have FA := Lib.hid (fun w => rotate_32 x a w hx ha)
  have FB := Lib.hid (fun w => rotate_32 x b w hx hb)
  have e2 := shr_32 x c
  have h0 : ¬ ((c : Int) < 0) := by omega
  have hn2 : (c : Int) ≤ 32 := by omega
  clear hx la lb lc ha hb hc
  generalize rotr 32 x a = A at *
  generalize rotr 32 x b = B at *
  generalize x / 2 ^ c = C at *
  have r0 : By32 w a b c (w.alloc (.cells #[.int .i64 a, .int .i64 b, .int .i64 c] 127)) := ⟨heap_alloc_new w _, (Below.refl _ _).alloc (Nat.le_refl _) _⟩
  have rd := r0.drew
  have HR := Lib.hid (fun X h => By32.cells (w := w) (a := a) (b := b) (c := c) (X := X) h)
  go_enter Try.func107, Try.ntmps107
  go_wp2_with fail
  go_region_held3 (fun X => X.cell? ⟨w.heap.size, 0, none⟩ = some (.int .i64 a) ∧ X.cell? ⟨w.heap.size, 1, none⟩ = some (.int .i64 b) ∧ X.cell? ⟨w.heap.size, 2, none⟩ = some (.int .i64 c)) ((refine HR.out _ ?_; (with_reducible assumption)))
    (first | (go_at_call 108; with_reducible refine (FA.out _).mono ?_; rintro e w' ⟨rfl, hbw⟩; have hbx' := By32.next (by with_reducible assumption) hbw) | (go_at_call 108; with_reducible refine (FB.out _).mono ?_; rintro e w' ⟨rfl, hbw⟩; have hbx' := By32.next (by with_reducible assumption) hbw))
  all_goals (go_wp2; go_ret)
  all_goals exact ⟨rfl, By32.below (by with_reducible assumption)⟩

theorem shr_64 (x n : Nat) : (x : Int) / 2 ^ n = ((x / 2 ^ n : Nat) : Int) := by
  rw [Int.natCast_ediv]; simp
theorem shl_64 (x n : Nat) : IntKind.u64.wrap ((x : Int) * 2 ^ n) = ((x * 2 ^ n % 18446744073709551616 : Nat) : Int) := by
  rw [IntKind.wrap_u64]; simp

theorem rotate_64 (x n : Nat) (w : World) (hx : x < 18446744073709551616) (hn : 0 < n ∧ n < 64) :
    Calls Try.prog 110 #[.int .u64 x, .int .i64 n, .int .i64 64] w fun e w' => e = .returned (.int .u64 (rotr 64 x n : Nat)) ∧ Below w.heap.size w w' := by
  obtain ⟨m, hm⟩ : ∃ m, m = 64 - n := ⟨_, rfl⟩
  obtain ⟨q, hq⟩ : ∃ q, q = x / 2 ^ n := ⟨_, rfl⟩
  obtain ⟨s, hs⟩ : ∃ s, s = x * 2 ^ m % 18446744073709551616 := ⟨_, rfl⟩
  have h0 : ¬ ((n : Int) < 0) := by omega
  have e1 : IntKind.i64.wrap (64 - (n : Int)) = (m : Int) := by rw [IntKind.wrap_i64]; omega
  have e2 : (x : Int) / 2 ^ n = (q : Int) := by rw [hq]; exact shr_64 x n
  have e3 : IntKind.u64.wrap ((x : Int) * 2 ^ m) = (s : Int) := by rw [hs]; exact shl_64 x m
  have hr : q ||| s = rotr 64 x n := by rw [hq, hs, hm]; rfl
  have e4 := u64_or_nat q s (by rw [hq]; exact Nat.lt_of_le_of_lt (Nat.div_le_self _ _) hx) (by rw [hs]; exact Nat.mod_lt _ (by decide))
  rw [hr] at e4
  have hm2 : (m : Int) ≤ 64 := by omega
  have hn2 : (n : Int) ≤ 64 := by omega
  clear hq hs hm hr hx hn
  generalize rotr 64 x n = R at *
  go_enter Try.func110, Try.ntmps110
  go_wp2
  go_quiet (fail)
  go_wp2
  go_ret
  exact ⟨rfl, below_drewN w nq⟩

/-- Three distances in memory. -/
structure By64 (w : World) (a b c : Nat) (X : World) : Prop where
  row : X.heap[w.heap.size]? = some (.cells #[.int .i64 a, .int .i64 b, .int .i64 c] 127 (0, 0))
  below : Below w.heap.size w X
theorem By64.next {w X Y : World} {a b c : Nat} (h : By64 w a b c X) (hb : Below X.heap.size X Y) : By64 w a b c Y :=
  ⟨by rw [hb.block _ (Array.getElem?_eq_some_iff.1 h.row).1]; exact h.row, below_link h.below hb⟩
theorem By64.drew {w X : World} {a b c : Nat} (h : By64 w a b c X) : By64 w a b c X.drew := ⟨h.row, h.below.drew⟩
theorem By64.cells {w X : World} {a b c : Nat} (h : By64 w a b c X) : X.cell? ⟨w.heap.size, 0, none⟩ = some (.int .i64 a) ∧ X.cell? ⟨w.heap.size, 1, none⟩ = some (.int .i64 b) ∧ X.cell? ⟨w.heap.size, 2, none⟩ = some (.int .i64 c) :=
  ⟨cell_of_row _ _ _ _ _ _ h.row, cell_of_row _ _ _ _ _ _ h.row, cell_of_row _ _ _ _ _ _ h.row⟩

theorem rotations_64 (x a b c : Nat) (w : World) (hx : x < 18446744073709551616) (ha : 0 < a ∧ a < 64) (hb : 0 < b ∧ b < 64) (hc : 0 < c ∧ c < 64) :
    Calls Try.prog 104 #[.int .u64 x, .agg #[.int .i64 a, .int .i64 b, .int .i64 c], .int .i64 64] w fun e w' => e = .returned (.int .u64 ((rotr 64 x a ^^^ rotr 64 x b) ^^^ rotr 64 x c : Nat)) ∧ Below w.heap.size w w' := by
  have la := rotr_lt (n := a) (show x < 2 ^ 64 from hx)
  have lb := rotr_lt (n := b) (show x < 2 ^ 64 from hx)
  have lc := rotr_lt (n := c) (show x < 2 ^ 64 from hx)
  have x1 := u64_xor_nat _ _ la lb
  have x2 := u64_xor_nat _ _ (Nat.xor_lt_two_pow la lb) lc
  have FA := Lib.hid (fun w => rotate_64 x a w hx ha)
  have FB := Lib.hid (fun w => rotate_64 x b w hx hb)
  have FC := Lib.hid (fun w => rotate_64 x c w hx hc)
  clear hx la lb lc ha hb hc
  generalize rotr 64 x a = A at *
  generalize rotr 64 x b = B at *
  generalize rotr 64 x c = C at *
  have r0 : By64 w a b c (w.alloc (.cells #[.int .i64 a, .int .i64 b, .int .i64 c] 127)) := ⟨heap_alloc_new w _, (Below.refl _ _).alloc (Nat.le_refl _) _⟩
  have rd := r0.drew
  have HR := Lib.hid (fun X h => By64.cells (w := w) (a := a) (b := b) (c := c) (X := X) h)
  go_enter Try.func104, Try.ntmps104
  go_wp2_with fail
  go_region_held3 (fun X => X.cell? ⟨w.heap.size, 0, none⟩ = some (.int .i64 a) ∧ X.cell? ⟨w.heap.size, 1, none⟩ = some (.int .i64 b) ∧ X.cell? ⟨w.heap.size, 2, none⟩ = some (.int .i64 c)) ((refine HR.out _ ?_; (with_reducible assumption)))
    (first | (go_at_call 110; with_reducible refine (FA.out _).mono ?_; rintro e w' ⟨rfl, hbw⟩; have hbx' := By64.next (by with_reducible assumption) hbw) | (go_at_call 110; with_reducible refine (FB.out _).mono ?_; rintro e w' ⟨rfl, hbw⟩; have hbx' := By64.next (by with_reducible assumption) hbw) | (go_at_call 110; with_reducible refine (FC.out _).mono ?_; rintro e w' ⟨rfl, hbw⟩; have hbx' := By64.next (by with_reducible assumption) hbw))
  all_goals (go_wp2; go_ret)
  all_goals exact ⟨rfl, By64.below (by with_reducible assumption)⟩

theorem shifts_64 (x a b c : Nat) (w : World) (hx : x < 18446744073709551616) (ha : 0 < a ∧ a < 64) (hb : 0 < b ∧ b < 64) (hc : 0 < c ∧ c < 64) :
    Calls Try.prog 109 #[.int .u64 x, .agg #[.int .i64 a, .int .i64 b, .int .i64 c], .int .i64 64] w fun e w' => e = .returned (.int .u64 ((rotr 64 x a ^^^ rotr 64 x b) ^^^ x / 2 ^ c : Nat)) ∧ Below w.heap.size w w' := by
  have la := rotr_lt (n := a) (show x < 2 ^ 64 from hx)
  have lb := rotr_lt (n := b) (show x < 2 ^ 64 from hx)
  have lc : x / 2 ^ c < 2 ^ 64 := Nat.lt_of_le_of_lt (Nat.div_le_self _ _) hx
  have x1 := u64_xor_nat _ _ la lb
  have x2 := u64_xor_nat _ _ (Nat.xor_lt_two_pow la lb) lc
  have FA := Lib.hid (fun w => rotate_64 x a w hx ha)
  have FB := Lib.hid (fun w => rotate_64 x b w hx hb)
  have e2 := shr_64 x c
  have h0 : ¬ ((c : Int) < 0) := by omega
  have hn2 : (c : Int) ≤ 64 := by omega
  clear hx la lb lc ha hb hc
  generalize rotr 64 x a = A at *
  generalize rotr 64 x b = B at *
  generalize x / 2 ^ c = C at *
  have r0 : By64 w a b c (w.alloc (.cells #[.int .i64 a, .int .i64 b, .int .i64 c] 127)) := ⟨heap_alloc_new w _, (Below.refl _ _).alloc (Nat.le_refl _) _⟩
  have rd := r0.drew
  have HR := Lib.hid (fun X h => By64.cells (w := w) (a := a) (b := b) (c := c) (X := X) h)
  go_enter Try.func109, Try.ntmps109
  go_wp2_with fail
  go_region_held3 (fun X => X.cell? ⟨w.heap.size, 0, none⟩ = some (.int .i64 a) ∧ X.cell? ⟨w.heap.size, 1, none⟩ = some (.int .i64 b) ∧ X.cell? ⟨w.heap.size, 2, none⟩ = some (.int .i64 c)) ((refine HR.out _ ?_; (with_reducible assumption)))
    (first | (go_at_call 110; with_reducible refine (FA.out _).mono ?_; rintro e w' ⟨rfl, hbw⟩; have hbx' := By64.next (by with_reducible assumption) hbw) | (go_at_call 110; with_reducible refine (FB.out _).mono ?_; rintro e w' ⟨rfl, hbw⟩; have hbx' := By64.next (by with_reducible assumption) hbw))
  all_goals (go_wp2; go_ret)
  all_goals exact ⟨rfl, By64.below (by with_reducible assumption)⟩

end Dg
end Go.Proofs.Ytedoggejbhbebaa
