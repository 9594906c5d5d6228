/-
  The digests as plain functions on numbers: schedule, rounds, blocks, padding, bytes. Conditions: none.
-/
import Derived.Test.YtfahmbkeibeceaaDoorShaMath
namespace Go.Proofs.YtfahmbkeibeceaaDoor
namespace Sha

/-- The twelve turns of words of w bits: big 0, big 1, small 0, small 1. -/
def turns (w : Nat) : List Nat := if w = 32 then [2, 13, 22, 6, 11, 25, 7, 18, 3, 17, 19, 10] else [28, 34, 39, 14, 18, 41, 1, 8, 7, 19, 61, 6]
def turn (w i : Nat) : Nat := (turns w).getD i 0
def roundsOf (w : Nat) : Nat := if w = 32 then 64 else 80

/-- Three turns. -/
def big (w i x : Nat) : Nat := (rotr w x (turn w i) ^^^ rotr w x (turn w (i + 1))) ^^^ rotr w x (turn w (i + 2))
/-- Two turns and a shift. -/
def little (w i x : Nat) : Nat := (rotr w x (turn w i) ^^^ rotr w x (turn w (i + 1))) ^^^ x / 2 ^ turn w (i + 2)

theorem big_lt {w i x : Nat} (hx : x < 2 ^ w) : big w i x < 2 ^ w :=
  Nat.xor_lt_two_pow (Nat.xor_lt_two_pow (rotr_lt hx) (rotr_lt hx)) (rotr_lt hx)
theorem little_lt {w i x : Nat} (hx : x < 2 ^ w) : little w i x < 2 ^ w :=
  Nat.xor_lt_two_pow (Nat.xor_lt_two_pow (rotr_lt hx) (rotr_lt hx)) (Nat.lt_of_le_of_lt (Nat.div_le_self _ _) hx)

/-! ### The schedule -/

/-- The word at i, where those before it are known: m has a block's own sixteen. -/
def nextW (w : Nat) (m : Nat → Nat) (i : Nat) (l : List Nat) : Nat :=
  if i < 16 then m i else (l.getD (i - 16) 0 + little w 6 (l.getD (i - 15) 0) + l.getD (i - 7) 0 + little w 9 (l.getD (i - 2) 0)) % 2 ^ w
/-- The first n words. -/
def sched (w : Nat) (m : Nat → Nat) : Nat → List Nat
  | 0 => []
  | i + 1 => sched w m i ++ [nextW w m i (sched w m i)]
/-- The word at i. -/
def word (w : Nat) (m : Nat → Nat) (i : Nat) : Nat := nextW w m i (sched w m i)

theorem sched_length (w : Nat) (m : Nat → Nat) (n : Nat) : (sched w m n).length = n := by
  induction n with
  | zero => rfl
  | succ n ih => simp [sched, ih]

theorem sched_get (w : Nat) (m : Nat → Nat) (n : Nat) : ∀ j, j < n → (sched w m n).getD j 0 = word w m j := by
  induction n with
  | zero => intro j h; omega
  | succ n ih =>
    intro j h
    have hl := sched_length w m n
    rw [sched, List.getD_eq_getElem?_getD]
    by_cases hj : j < n
    · rw [List.getElem?_append_left (by omega), ← List.getD_eq_getElem?_getD]
      exact ih j hj
    · obtain rfl : j = n := by omega
      rw [List.getElem?_append_right (by omega), hl, Nat.sub_self]
      rfl

theorem word_low (w : Nat) (m : Nat → Nat) (i : Nat) (h : i < 16) : word w m i = m i := if_pos h

theorem word_high (w : Nat) (m : Nat → Nat) (i : Nat) (h : 16 ≤ i) :
    word w m i = (word w m (i - 16) + little w 6 (word w m (i - 15)) + word w m (i - 7) + little w 9 (word w m (i - 2))) % 2 ^ w := by
  unfold word nextW
  rw [if_neg (by omega), sched_get w m i _ (by omega), sched_get w m i _ (by omega), sched_get w m i _ (by omega), sched_get w m i _ (by omega)]
  rfl

theorem word_lt {w : Nat} {m : Nat → Nat} (hm : ∀ i < 16, m i < 2 ^ w) (i : Nat) : word w m i < 2 ^ w := by
  by_cases h : i < 16
  · rw [word_low w m i h]; exact hm i h
  · rw [word_high w m i (by omega)]; exact Nat.mod_lt _ (Nat.two_pow_pos w)

/-! ### The rounds -/

/-- Eight words. -/
structure St where
  (a b c d e f g h : Nat)

/-- One round. -/
def t1 (w k x : Nat) (s : St) : Nat := (s.h + big w 3 s.e + ch w s.e s.f s.g + k + x) % 2 ^ w
def t2 (w : Nat) (s : St) : Nat := (big w 0 s.a + maj s.a s.b s.c) % 2 ^ w
def round (w k x : Nat) (s : St) : St := ⟨(t1 w k x s + t2 w s) % 2 ^ w, s.a, s.b, s.c, (s.d + t1 w k x s) % 2 ^ w, s.e, s.f, s.g⟩
/-- The first n rounds: k has the constants. -/
def rounds (w : Nat) (k m : Nat → Nat) : Nat → St → St
  | 0, s => s
  | i + 1, s => round w (k i) (word w m i) (rounds w k m i s)

structure St.Small (w : Nat) (s : St) : Prop where
  a : s.a < 2 ^ w
  b : s.b < 2 ^ w
  c : s.c < 2 ^ w
  d : s.d < 2 ^ w
  e : s.e < 2 ^ w
  f : s.f < 2 ^ w
  g : s.g < 2 ^ w
  h : s.h < 2 ^ w

theorem round_small {w k x : Nat} {s : St} (h : s.Small w) : (round w k x s).Small w :=
  ⟨Nat.mod_lt _ (Nat.two_pow_pos w), h.a, h.b, h.c, Nat.mod_lt _ (Nat.two_pow_pos w), h.e, h.f, h.g⟩

theorem rounds_small {w : Nat} {k m : Nat → Nat} (n : Nat) {s : St} (h : s.Small w) : (rounds w k m n s).Small w := by
  induction n with
  | zero => exact h
  | succ n ih => exact round_small ih

/-- What is added behind the rounds. -/
def St.add (w : Nat) (s v : St) : St := ⟨(s.a + v.a) % 2 ^ w, (s.b + v.b) % 2 ^ w, (s.c + v.c) % 2 ^ w, (s.d + v.d) % 2 ^ w, (s.e + v.e) % 2 ^ w, (s.f + v.f) % 2 ^ w, (s.g + v.g) % 2 ^ w, (s.h + v.h) % 2 ^ w⟩

theorem add_small (w : Nat) (s v : St) : (s.add w v).Small w :=
  ⟨Nat.mod_lt _ (Nat.two_pow_pos w), Nat.mod_lt _ (Nat.two_pow_pos w), Nat.mod_lt _ (Nat.two_pow_pos w), Nat.mod_lt _ (Nat.two_pow_pos w), Nat.mod_lt _ (Nat.two_pow_pos w), Nat.mod_lt _ (Nat.two_pow_pos w), Nat.mod_lt _ (Nat.two_pow_pos w), Nat.mod_lt _ (Nat.two_pow_pos w)⟩

/-! ### Blocks -/

/-- The number that bytes spell, the highest first. -/
def beVal (l : List Nat) : Nat := l.foldl (fun n c => n * 256 + c) 0

theorem beVal_snoc (l : List Nat) (c : Nat) : beVal (l ++ [c]) = beVal l * 256 + c := by simp [beVal]

theorem fold_lt (l : List Nat) : ∀ n, (∀ c ∈ l, c < 256) → l.foldl (fun n c => n * 256 + c) n < (n + 1) * 256 ^ l.length := by
  induction l with
  | nil => intro n _; simp
  | cons c l ih =>
    intro n h
    have h1 := ih (n * 256 + c) fun x hx => h x (by simp [hx])
    have h2 := h c (by simp)
    have h3 : (n * 256 + c + 1) * 256 ^ l.length ≤ ((n + 1) * 256) * 256 ^ l.length := Nat.mul_le_mul_right _ (by omega)
    rw [Nat.mul_assoc, Nat.mul_comm 256, ← Nat.pow_succ] at h3
    exact Nat.lt_of_lt_of_le h1 h3

theorem beVal_lt (l : List Nat) (h : ∀ c ∈ l, c < 256) : beVal l < 256 ^ l.length := by
  have := fold_lt l 0 h
  rwa [Nat.zero_add, Nat.one_mul] at this

/-- The words of a block. -/
def wordsOf (w : Nat) (b : List Nat) (i : Nat) : Nat := beVal ((b.drop (w / 8 * i)).take (w / 8))

/-- A block put in. -/
def block (w : Nat) (k : Nat → Nat) (s : St) (b : List Nat) : St := s.add w (rounds w k (wordsOf w b) (roundsOf w) s)

/-- The first n blocks of the bytes. -/
def blocks (w : Nat) (k : Nat → Nat) (s : St) (b : List Nat) : Nat → St
  | 0 => s
  | n + 1 => block w k (blocks w k s b n) ((b.drop (2 * w * n)).take (2 * w))

/-! ### Padding -/

/-- How many zero bytes stand behind the byte 128, till the last w / 4 bytes of a block. -/
def gap (w len : Nat) : Nat := (2 * (2 * w) - w / 4 - 1 - len % (2 * w)) % (2 * w)
/-- A number in so many bytes, the highest first. -/
def beBytes (n : Nat) : Nat → List Nat
  | 0 => []
  | k + 1 => n / 256 ^ k % 256 :: beBytes n k

/-- The padded text. -/
def padded (w : Nat) (s : List Nat) : List Nat := s ++ 128 :: (List.replicate (gap w s.length + (w / 4 - 8)) 0 ++ beBytes (8 * s.length) 8)

theorem beBytes_length (n k : Nat) : (beBytes n k).length = k := by
  induction k with
  | zero => rfl
  | succ k ih => simp [beBytes, ih]

theorem gap_lt (w len : Nat) (hw : 0 < w) : gap w len < 2 * w := Nat.mod_lt _ (by omega)

/-- The first place from which on the length's bytes end a block. -/
theorem gap_at (w len : Nat) (hw : w = 32 ∨ w = 64) : (len + 1 + gap w len) % (2 * w) = 2 * w - w / 4 := by
  unfold gap
  rcases hw with rfl | rfl <;> omega

theorem gap_first (w len j : Nat) (hw : w = 32 ∨ w = 64) (hj : j ≤ gap w len) (h : (len + 1 + j) % (2 * w) = 2 * w - w / 4) : j = gap w len := by
  have h1 := gap_at w len hw
  have h2 := gap_lt w len (by omega)
  rcases hw with rfl | rfl <;> omega

theorem padded_length (w : Nat) (s : List Nat) (hw : w = 32 ∨ w = 64) : (padded w s).length % (2 * w) = 0 := by
  have h1 := gap_at w s.length hw
  simp only [padded, List.length_append, List.length_cons, List.length_replicate, beBytes_length]
  rcases hw with rfl | rfl <;> omega

/-! ### The digest -/

def St.list (s : St) : List Nat := [s.a, s.b, s.c, s.d, s.e, s.f, s.g, s.h]

/-- All the words' bytes. -/
def spelled (w : Nat) (l : List Nat) : List Nat := l.flatMap fun x => beBytes x (w / 8)

/-- The digest of so many bits. -/
def digest (w size : Nat) (k : Nat → Nat) (h0 : St) (s : List Nat) : List Nat :=
  (spelled w (blocks w k h0 (padded w s) ((padded w s).length / (2 * w))).list).take (size / 8)

theorem spelled_length (w : Nat) (l : List Nat) : (spelled w l).length = w / 8 * l.length := by
  induction l with
  | nil => rfl
  | cons x l ih =>
    have e : spelled w (x :: l) = beBytes x (w / 8) ++ spelled w l := rfl
    rw [e, List.length_append, beBytes_length, ih, List.length_cons, Nat.mul_succ, Nat.add_comm]

end Sha
end Go.Proofs.YtfahmbkeibeceaaDoor
