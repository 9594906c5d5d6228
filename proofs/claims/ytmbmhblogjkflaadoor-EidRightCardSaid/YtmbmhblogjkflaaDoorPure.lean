/-
  Plain: an item's bytes tell it. Conditions: none.
-/
import Derived.Test.YtmbmhblogjkflaaDoorValid
import Derived.Test.YtmbmhblogjkflaaDoorBytes
import Derived.Test.YtmbmhblogjkflaaDoorCount
namespace Go.Proofs.YtmbmhblogjkflaaDoor
open Go.ChangeShapes Go.WideShapes Go.ChangeAt Go.RowKit
open Plain
set_option linter.unusedVariables false

def val (l : List UInt8) : Nat := l.foldl (fun a b => a * 256 + b.toNat) 0

theorem val_snoc (l : List UInt8) (b : UInt8) : val (l ++ [b]) = val l * 256 + b.toNat := by simp [val]

def numOf (k least : Nat) (l : List UInt8) : Option (Nat × Nat) :=
  if l.length < k then none else if least ≤ val (l.take k) then some (val (l.take k), k) else none

/-- The number of a head with these lower five bits, and how many bytes of l it takes. -/
def argOf (low : Nat) (l : List UInt8) : Option (Nat × Nat) :=
  if low < 24 then some (low, 0)
  else if low = 24 then numOf 1 24 l
  else if low = 25 then numOf 2 256 l
  else if low = 26 then numOf 4 65536 l
  else if low = 27 then numOf 8 4294967296 l
  else none

/-- Has this type an open head? -/
def opens (m : Int) : Bool := decide ((2 ≤ m ∧ m ≤ 5) ∨ m = 7)

theorem opens_yes {m : Int} (h : (2 ≤ m ∧ m ≤ 5) ∨ m = 7) : opens m = true := by simp [opens, h]
theorem opens_no {m : Int} (h : ¬ ((2 ≤ m ∧ m ≤ 5) ∨ m = 7)) : opens m = false := by simp only [opens, decide_eq_false_iff_not]; exact h

/-- What a head says, and in how many bytes. -/
structure Hd where
  major : Nat
  n : Nat
  op : Bool
  size : Nat

/-- The head at the start of bytes, if there is one. -/
def headL : List UInt8 → Option Hd
  | [] => none
  | b :: r =>
    if b.toNat % 32 = 31 then (if opens ((b.toNat / 32 : Nat) : Int) then some ⟨b.toNat / 32, 0, true, 1⟩ else none)
    else match argOf (b.toNat % 32) r with
      | some (n, k) => some ⟨b.toNat / 32, n, false, 1 + k⟩
      | none => none

theorem val_be (k : Nat) : ∀ n : Nat, n < 256 ^ k → val (be n k) = n := by
  induction k with
  | zero => intro n h; simp [be, val]; omega
  | succ k ih =>
    intro n h
    rw [be, val_snoc, ih (n / 256) (by rw [Nat.pow_succ] at h; omega), UInt8.toNat_ofNat']
    omega

theorem first_toNat (m low : Nat) (hm : m ≤ 7) (hl : low ≤ 31) : (first m low).toNat = 32 * m + low := by
  unfold first
  rw [UInt8.toNat_ofNat']
  exact Nat.mod_eq_of_lt (by omega)

theorem numOf_be (k least n : Nat) (r : List UInt8) (h : n < 256 ^ k) (h2 : least ≤ n) : numOf k least (be n k ++ r) = some (n, k) := by
  unfold numOf
  have hl := be_length n k
  rw [if_neg (by rw [List.length_append]; omega), List.take_append_of_le_length (by omega), List.take_of_length_le (by omega), val_be k n h, if_pos h2]

/-- What is written is read back. -/
theorem headL_headOf (m n : Nat) (r : List UInt8) (hm : m ≤ 7) (hn : n < 18446744073709551616) : headL (headOf m n ++ r) = some ⟨m, n, false, (headOf m n).length⟩ := by
  have go : ∀ (low k : Nat) (t : List UInt8), low < 31 → argOf low (t ++ r) = some (n, k) → t.length = k → headL ((first m low :: t) ++ r) = some ⟨m, n, false, (first m low :: t).length⟩ := by
    intro low k t hlow ha hk
    rw [List.cons_append]
    simp only [headL]
    rw [first_toNat m low hm (by omega), if_neg (by omega), show (32 * m + low) % 32 = low from by omega, ha, show (32 * m + low) / 32 = m from by omega]
    simp only [List.length_cons, hk, Nat.add_comm]
  unfold headOf
  by_cases h0 : n < 24
  · rw [if_pos h0]
    exact go n 0 [] (by omega) (by unfold argOf; rw [if_pos h0]) rfl
  rw [if_neg h0]
  by_cases h1 : n < 256
  · rw [if_pos h1]
    exact go 24 1 _ (by omega) (numOf_be 1 24 n r (by omega) (by omega)) (be_length _ _)
  rw [if_neg h1]
  by_cases h2 : n < 65536
  · rw [if_pos h2]
    exact go 25 2 _ (by omega) (numOf_be 2 256 n r (by omega) (by omega)) (be_length _ _)
  rw [if_neg h2]
  by_cases h3 : n < 4294967296
  · rw [if_pos h3]
    exact go 26 4 _ (by omega) (numOf_be 4 65536 n r (by omega) (by omega)) (be_length _ _)
  rw [if_neg h3]
  exact go 27 8 _ (by omega) (numOf_be 8 4294967296 n r (by omega) (by omega)) (be_length _ _)

/-- What reading gives: so many bytes used, or an error at a place. -/
inductive Res (α : Type) where
  | ok (x : α) (used : Nat)
  | err (place : Nat) (code : Int)

/-- Does a break follow? -/
def isBreak : List UInt8 → Bool
  | [] => false
  | b :: _ => b == 255

/-- So many items. -/
def readMany (f : List UInt8 → Res It) : Nat → List UInt8 → Res (List It)
  | 0, _ => .ok [] 0
  | m + 1, t => match f t with
    | .err a c => .err a c
    | .ok x u => match readMany f m (t.drop u) with
      | .err a c => .err (u + a) c
      | .ok xs v => .ok (x :: xs) (u + v)

/-- Items up to the break, at most so many. -/
def readOpen (f : List UInt8 → Res It) : Nat → List UInt8 → Res (List It)
  | 0, t => if isBreak t then .ok [] 1 else .err 0 4
  | m + 1, t => if isBreak t then .ok [] 1 else match f t with
    | .err a c => .err a c
    | .ok x u => match readOpen f m (t.drop u) with
      | .err a c => .err (u + a) c
      | .ok xs v => .ok (x :: xs) (u + v)

def kindOk (m : Nat) : Bool := m == 0 || m == 2 || m == 3 || m == 4

/-- An array's items, behind its head. -/
def arrayRes (o : Bool) (size : Nat) : Res (List It) → Res It
  | .err a c => .err (size + a) c
  | .ok l u => .ok (.mk 4 0 ⟨#[]⟩ l o) (size + u)

/-- An item, of at most so many levels. -/
def readItem : Nat → List UInt8 → Res It
  | 0, t => match headL t with
    | none => .err 0 2
    | some h => if kindOk h.major then .err 0 3 else .err 0 2
  | d + 1, t => match headL t with
    | none => .err 0 2
    | some h =>
      if h.major = 0 then .ok (.mk 0 h.n ⟨#[]⟩ [] false) h.size
      else if h.major = 2 ∨ h.major = 3 then
        (if h.op = true ∨ t.length - h.size < h.n then .err 0 2 else .ok (.mk h.major 0 ⟨((t.drop h.size).take h.n).toArray⟩ [] false) (h.size + h.n))
      else if h.major = 4 then
        (if h.op then arrayRes true h.size (readOpen (readItem d) 1000 (t.drop h.size))
        else if 1000 < h.n then .err 0 4
        else arrayRes false h.size (readMany (readItem d) h.n (t.drop h.size)))
      else .err 0 2

theorem size_nil {s : ByteArray} (h : s.toList = []) : s = ⟨#[]⟩ := by
  rw [ByteArray.toList_eq] at h
  apply ByteArray.ext
  exact Array.toList_eq_nil_iff.1 h

theorem array_of (s : ByteArray) : (⟨s.data.toList.toArray⟩ : ByteArray) = s := by
  apply ByteArray.ext
  simp

theorem size_data (s : ByteArray) : s.data.toList.length = s.size := by simp

/-- The first byte of an item's bytes is no break. -/
theorem first_ne (m low : Nat) (hm : m ≤ 6) (hl : low ≤ 31) : (first m low == 255) = false := by
  have := first_toNat m low (by omega) hl
  cases h : first m low == 255
  · rfl
  · simp at h
    rw [h] at this
    have h2 : (255 : UInt8).toNat = 255 := rfl
    omega

theorem headOf_noBreak (m n : Nat) (hm : m ≤ 6) (t : List UInt8) : isBreak (headOf m n ++ t) = false := by
  unfold headOf
  repeat' split
  all_goals (simp only [List.cons_append, isBreak]; exact first_ne _ _ hm (by omega))

theorem bytesOf_noBreak (x : It) (hp : plainB x = true) (t : List UInt8) : isBreak (bytesOf x ++ t) = false := by
  obtain ⟨k, n, s, l, o⟩ := x
  obtain ⟨hk, _⟩ := plain_parts hp
  rcases hk with rfl | rfl | rfl | ⟨rfl, _⟩
  · simp only [bytesOf, if_true]
    exact headOf_noBreak _ _ (by omega) _
  · have hb : bytesOf (.mk 2 n s l o) = headOf 2 s.size ++ s.data.toList := by simp [bytesOf]
    rw [hb, List.append_assoc]
    exact headOf_noBreak 2 _ (by omega) _
  · have hb : bytesOf (.mk 3 n s l o) = headOf 3 s.size ++ s.data.toList := by simp [bytesOf]
    rw [hb, List.append_assoc]
    exact headOf_noBreak 3 _ (by omega) _
  · cases o
    · have hb : bytesOf (.mk 4 n s l false) = headOf 4 l.length ++ bytesL l := by simp [bytesOf]
      rw [hb, List.append_assoc]
      exact headOf_noBreak 4 _ (by omega) _
    · have hb : bytesOf (.mk 4 n s l true) = 159 :: (bytesL l ++ [255]) := by simp [bytesOf]
      rw [hb]
      rfl

theorem drop_app {α : Type} (a b : List α) : (a ++ b).drop a.length = b := by simp

theorem readMany_back (f : List UInt8 → Res It) : ∀ (l : List It) (t : List UInt8), (∀ x ∈ l, ∀ t, f (bytesOf x ++ t) = .ok x (bytesOf x).length) →
    readMany f l.length (bytesL l ++ t) = .ok l (bytesL l).length
  | [], t, _ => rfl
  | x :: r, t, h => by
    simp only [bytesL, List.length_cons, readMany, List.append_assoc]
    rw [h x List.mem_cons_self]
    simp only []
    rw [drop_app, readMany_back f r t (fun y hy => h y (List.mem_cons_of_mem _ hy))]
    simp

theorem readOpen_back (f : List UInt8 → Res It) : ∀ (l : List It) (m : Nat) (t : List UInt8), l.length ≤ m → plainL l = true → (∀ x ∈ l, ∀ t, f (bytesOf x ++ t) = .ok x (bytesOf x).length) →
    readOpen f m (bytesL l ++ 255 :: t) = .ok l ((bytesL l).length + 1)
  | [], 0, t, _, _, _ => by simp [readOpen, bytesL, isBreak]
  | [], m + 1, t, _, _, _ => by simp [readOpen, bytesL, isBreak]
  | x :: r, 0, t, hm, _, _ => by simp at hm
  | x :: r, m + 1, t, hm, hp, h => by
    simp only [plainL, Bool.and_eq_true] at hp
    simp only [bytesL, readOpen, List.append_assoc]
    rw [bytesOf_noBreak x hp.1, h x List.mem_cons_self]
    simp only [Bool.false_eq_true, if_false]
    rw [drop_app, readOpen_back f r m t (by simpa using hm) hp.2 (fun y hy => h y (List.mem_cons_of_mem _ hy))]
    simp
    omega

theorem headL_open (t : List UInt8) : headL (159 :: t) = some ⟨4, 0, true, 1⟩ := rfl

theorem validL_mem {l : List It} {y : It} {m : Nat} (h : y ∈ l) (hp : validL l m = true) : validB y m = true := by
  cases hb : validB y m
  · rw [validL_of_not h hb] at hp; cases hp
  · rfl

/-- What is written is read back. -/
theorem read_back (x : It) : ∀ (d : Nat) (t : List UInt8), AllFit x → validB x d = true → readItem d (bytesOf x ++ t) = .ok x (bytesOf x).length := by
  induction x using It.ind with
  | h k n s l o ih =>
  intro d t hf hv
  rcases d with _ | d
  · rw [validB_zero] at hv; cases hv
  have hp := plain_parts (by rw [valid_deep] at hv; simp only [Bool.and_eq_true] at hv; exact hv.2)
  obtain ⟨hk, h4, h0, hnz, hpl⟩ := hp
  cases hf with
  | mk _ hf hfl =>
  have hn : n ≤ 18446744073709551615 := hf.n
  have hss : s.size ≤ 140737488355328 := hf.s
  simp only [It.l] at hfl
  have hvl : validL l d = true := by
    simp only [validB, Bool.and_eq_true] at hv
    exact hv.2
  rcases hk with rfl | rfl | rfl | ⟨rfl, hlen, rfl, hs⟩
  · obtain ⟨rfl, rfl⟩ := h4 (by decide)
    have hs := size_nil (h0 rfl)
    subst hs
    simp only [bytesOf, if_true, readItem]
    rw [headL_headOf 0 n t (by omega) (by omega)]
    rfl
  · obtain ⟨rfl, rfl⟩ := h4 (by decide)
    have hnn := hnz (by decide)
    subst hnn
    have hb : bytesOf (.mk 2 0 s [] false) = headOf 2 s.size ++ s.data.toList := by simp [bytesOf]
    rw [hb]
    simp only [readItem, List.append_assoc]
    rw [headL_headOf 2 s.size _ (by omega) (by omega)]
    simp only [List.length_append, size_data]
    rw [if_neg (by decide), if_pos (by simp), if_neg (by simp)]
    rw [drop_app, List.take_append_of_le_length (by rw [size_data]; omega), List.take_of_length_le (by rw [size_data]; omega), array_of]
    rfl
  · obtain ⟨rfl, rfl⟩ := h4 (by decide)
    have hnn := hnz (by decide)
    subst hnn
    have hb : bytesOf (.mk 3 0 s [] false) = headOf 3 s.size ++ s.data.toList := by simp [bytesOf]
    rw [hb]
    simp only [readItem, List.append_assoc]
    rw [headL_headOf 3 s.size _ (by omega) (by omega)]
    simp only [List.length_append, size_data]
    rw [if_neg (by decide), if_pos (by simp), if_neg (by simp)]
    rw [drop_app, List.take_append_of_le_length (by rw [size_data]; omega), List.take_of_length_le (by rw [size_data]; omega), array_of]
    rfl
  · have hs' := size_nil hs
    subst hs'
    have hih : ∀ x ∈ l, ∀ t, readItem d (bytesOf x ++ t) = .ok x (bytesOf x).length := fun x hx t => ih x hx d t (hfl x hx) (validL_mem hx hvl)
    cases o
    · have hb : bytesOf (.mk 4 0 ⟨#[]⟩ l false) = headOf 4 l.length ++ bytesL l := by simp [bytesOf]
      rw [hb]
      simp only [readItem, List.append_assoc]
      rw [headL_headOf 4 l.length _ (by omega) (by omega)]
      simp only [List.length_append]
      rw [if_neg (by decide), if_neg (by decide), if_pos trivial, if_neg (by decide), if_neg (by omega)]
      rw [drop_app, readMany_back _ l t hih]
      rfl
    · have hb : bytesOf (.mk 4 0 ⟨#[]⟩ l true) = 159 :: (bytesL l ++ [255]) := by simp [bytesOf]
      rw [hb]
      simp only [readItem, List.cons_append, List.append_assoc]
      rw [headL_open]
      simp only [List.length_append, List.length_cons, List.length_nil]
      rw [if_neg (by decide), if_neg (by decide), if_pos trivial, if_pos trivial]
      simp only [List.drop_succ_cons, List.drop_zero, List.nil_append]
      rw [readOpen_back _ l 1000 t hlen hpl hih]
      simp only [arrayRes, Res.ok.injEq, true_and]
      omega

theorem bytes_inj {x y : It} {d : Nat} (hx : AllFit x) (hy : AllFit y) (vx : validB x d = true) (vy : validB y d = true) (h : bytesOf x = bytesOf y) : x = y := by
  have h1 := read_back x d [] hx vx
  have h2 := read_back y d [] hy vy
  rw [h] at h1
  rw [h1] at h2
  injection h2

theorem countL_ge : ∀ (l : List It) (c m : Nat), c ≤ countL l c m
  | [], c, m => Nat.le_refl _
  | x :: r, c, m => by
    simp only [countL]
    split
    · have := countL_ge r (c + countOf x (m - c)) m
      omega
    · exact Nat.le_refl _

mutual
/-- An item of few items and bytes has few bytes. -/
theorem few_bytes : ∀ (x : It) (m : Nat), countOf x m ≤ m → (bytesOf x).length ≤ 10 * countOf x m
  | .mk k n s l o, m, h => by
    simp only [countOf] at h ⊢
    have hge := countL_ge l (1 + s.size) m
    have hl := fewL_bytes l (1 + s.size) m h
    have h9 := fun a b => headOf_len a b
    simp only [bytesOf]
    split
    · have := h9 0 n; omega
    · split
      · have := h9 k.toNat s.size
        rw [List.length_append, size_data]
        omega
      · have := h9 4 l.length
        cases o <;> simp only [List.length_append, if_true, Bool.false_eq_true, if_false, List.length_cons, List.length_nil] <;> omega
theorem fewL_bytes : ∀ (l : List It) (c m : Nat), countL l c m ≤ m → (bytesL l).length + 10 * c ≤ 10 * countL l c m
  | [], c, m, h => by simp [bytesL, countL]
  | x :: r, c, m, h => by
    simp only [countL] at h ⊢
    by_cases hc : c ≤ m
    · rw [if_pos hc] at h ⊢
      have hge := countL_ge r (c + countOf x (m - c)) m
      have h1 := few_bytes x (m - c) (by omega)
      have h2 := fewL_bytes r (c + countOf x (m - c)) m h
      simp only [bytesL, List.length_append]
      omega
    · rw [if_neg hc] at h
      omega
end

theorem few_len {x : It} (h : fewB x 2000 = true) : (bytesOf x).length ≤ 20000 := by
  simp only [fewB, Bool.and_eq_true, decide_eq_true_eq] at h
  have := few_bytes x 2000 h.2
  omega

end Go.Proofs.YtmbmhblogjkflaaDoor
