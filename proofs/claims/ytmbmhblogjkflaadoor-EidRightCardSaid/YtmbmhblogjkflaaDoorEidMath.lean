/-
  Decimal digits, names and their texts as plain data: digits tell their number, a text tells its name. Conditions: numbers have at most twenty digits.
-/
import Derived.Deep.AppendLies
namespace Go.Proofs.YtmbmhblogjkflaaDoor
namespace Eid

/-! ### Bytes -/

/-- A string's bytes. -/
def nb (b : ByteArray) : List Nat := b.data.toList.map UInt8.toNat
theorem nb_length (b : ByteArray) : (nb b).length = b.size := by simp [nb]
theorem nb_inj {a b : ByteArray} (h : nb a = nb b) : a = b := by
  have h1 : a.data.toList = b.data.toList := by
    refine List.map_inj_right (fun x y e => UInt8.toNat_inj.1 e) |>.1 h
  have h2 : a.data = b.data := Array.toList_inj.1 h1
  cases a; cases b; exact congrArg _ h2
theorem nb_append (a b : ByteArray) : nb (a ++ b) = nb a ++ nb b := by
  unfold nb
  rw [ByteArray.data_append, Array.toList_append, List.map_append]
theorem nb_lt (b : ByteArray) : ∀ c ∈ nb b, c < 256 := by
  intro c hc
  obtain ⟨x, -, rfl⟩ := List.mem_map.1 hc
  exact x.toNat_lt

/-! ### Digits -/

/-- The digits of a number, at most f of them. -/
def digF : Nat → Nat → List Nat
  | 0, _ => []
  | f + 1, n => if n < 10 then [48 + n] else digF f (n / 10) ++ [48 + n % 10]
def dig (n : Nat) : List Nat := digF 20 n
/-- The number that digits tell, behind a. -/
def valOn : Nat → List Nat → Nat
  | a, [] => a
  | a, c :: l => valOn (a * 10 + (c - 48)) l
def val (l : List Nat) : Nat := valOn 0 l
def isDig (c : Nat) : Prop := 48 ≤ c ∧ c ≤ 57

theorem valOn_append (l m : List Nat) : ∀ a, valOn a (l ++ m) = valOn (valOn a l) m := by
  induction l with
  | nil => intro a; rfl
  | cons c l ih => intro a; exact ih _
theorem val_snoc (l : List Nat) (c : Nat) : val (l ++ [c]) = val l * 10 + (c - 48) := by
  unfold val
  rw [valOn_append]; rfl
theorem head_app {l m : List Nat} (h : l ≠ []) : (l ++ m).head? = l.head? := by
  cases l with
  | nil => exact absurd rfl h
  | cons a l => rfl
theorem digF_digits : ∀ (f n : Nat), ∀ c ∈ digF f n, isDig c
  | 0, _, c, h => by cases h
  | f + 1, n, c, h => by
    unfold digF at h
    by_cases hn : n < 10
    · rw [if_pos hn] at h
      obtain rfl := List.mem_singleton.1 h
      exact ⟨by omega, by omega⟩
    · rw [if_neg hn] at h
      rcases List.mem_append.1 h with h | h
      · exact digF_digits f _ c h
      · obtain rfl := List.mem_singleton.1 h
        exact ⟨by omega, by omega⟩
theorem digF_ne (f n : Nat) : digF (f + 1) n ≠ [] := by
  unfold digF
  by_cases hn : n < 10
  · rw [if_pos hn]; simp
  · rw [if_neg hn]; simp
theorem val_one (n : Nat) : val [48 + n] = n := by
  show 0 * 10 + (48 + n - 48) = n
  omega
theorem val_digF (f : Nat) : ∀ n : Nat, n < 10 ^ (f + 1) → val (digF (f + 1) n) = n := by
  induction f with
  | zero =>
    intro n h
    have hn : n < 10 := h
    have e : digF (0 + 1) n = [48 + n] := if_pos hn
    rw [e, val_one]
  | succ f ih =>
    intro n h
    by_cases hn : n < 10
    · have e : digF (f + 1 + 1) n = [48 + n] := if_pos hn
      rw [e, val_one]
    · have e : digF (f + 1 + 1) n = digF (f + 1) (n / 10) ++ [48 + n % 10] := if_neg hn
      have hd : n / 10 < 10 ^ (f + 1) := by rw [Nat.pow_succ] at h; generalize 10 ^ (f + 1) = p at h ⊢; omega
      rw [e, val_snoc, ih (n / 10) hd]
      omega
theorem digF_len : ∀ (f n k : Nat), n < 10 ^ (k + 1) → (digF f n).length ≤ k + 1
  | 0, n, k, _ => by simp [digF]
  | f + 1, n, k, h => by
    unfold digF
    by_cases hn : n < 10
    · rw [if_pos hn]; simp
    · rw [if_neg hn, List.length_append]
      cases k with
      | zero => exact absurd (by simpa using h) hn
      | succ k =>
        have := digF_len f (n / 10) k (by rw [Nat.pow_succ] at h; omega)
        simp; omega
theorem digF_head : ∀ (f n : Nat), (digF (f + 1) n).head? = some 48 → n < 10 ^ (f + 1) → n = 0
  | 0, n, h, hn => by
    unfold digF at h
    rw [if_pos (by simpa using hn)] at h
    simp at h; omega
  | f + 1, n, h, hn => by
    unfold digF at h
    by_cases h10 : n < 10
    · rw [if_pos h10] at h
      simp at h; omega
    · rw [if_neg h10] at h
      rw [head_app (digF_ne f _)] at h
      have := digF_head f (n / 10) h (by rw [Nat.pow_succ] at hn; omega)
      omega
theorem val_dig {n : Nat} (h : n < 10 ^ 20) : val (dig n) = n := val_digF 19 n h
theorem dig_inj {n m : Nat} (hn : n < 10 ^ 20) (hm : m < 10 ^ 20) (h : dig n = dig m) : n = m := by
  rw [← val_dig hn, ← val_dig hm, h]
theorem dig_digits (n : Nat) : ∀ c ∈ dig n, isDig c := digF_digits 20 n
theorem dig_ne (n : Nat) : dig n ≠ [] := digF_ne 19 n
/-- At most ten digits. -/
theorem dig_len {n : Nat} (h : n ≤ 4294967295) : (dig n).length ≤ 10 := digF_len 20 n 9 (by omega)
theorem val_lt : ∀ (l : List Nat), (∀ c ∈ l, isDig c) → val l < 10 ^ l.length := by
  intro l
  generalize hn : l.length = n
  induction n generalizing l with
  | zero => intro _; rw [List.length_eq_zero_iff.1 hn]; decide
  | succ n ih =>
    intro h
    have hne : l ≠ [] := fun e => by rw [e] at hn; cases hn
    obtain ⟨m, c, rfl⟩ : ∃ m c, l = m ++ [c] := ⟨l.dropLast, l.getLast hne, (List.dropLast_concat_getLast hne).symm⟩
    rw [List.length_append] at hn
    have h1 := ih m (by simpa using hn) fun c hc => h c (List.mem_append_left _ hc)
    obtain ⟨h2, h3⟩ := h c (List.mem_append_right _ (List.mem_singleton.2 rfl))
    rw [val_snoc, Nat.pow_succ]; omega
/-- Digits without a leading zero are those of their number. -/
theorem digF_val : ∀ (f : Nat) (l : List Nat), l ≠ [] → l.length ≤ f → (∀ c ∈ l, isDig c) → (l.head? = some 48 → l.length = 1) → digF f (val l) = l := by
  intro f
  induction f with
  | zero => intro l h0 hl; exact absurd (List.length_eq_zero_iff.1 (by omega)) h0
  | succ f ih =>
    intro l h0 hl hd hz
    obtain ⟨m, c, rfl⟩ : ∃ m c, l = m ++ [c] := ⟨l.dropLast, l.getLast h0, (List.dropLast_concat_getLast h0).symm⟩
    obtain ⟨h2, h3⟩ := hd c (List.mem_append_right _ (List.mem_singleton.2 rfl))
    rw [val_snoc]
    unfold digF
    by_cases hm : m = []
    · subst hm
      have e0 : val ([] : List Nat) = 0 := rfl
      rw [e0, if_pos (by omega), show 48 + (0 * 10 + (c - 48)) = c by omega]
      rfl
    · have hdm : ∀ c ∈ m, isDig c := fun c hc => hd c (List.mem_append_left _ hc)
      have hhm : m.head? ≠ some 48 := fun e => by
        have := hz (by rw [head_app hm]; exact e)
        rw [List.length_append] at this
        exact hm (List.length_eq_zero_iff.1 (by simpa using this))
      have hlm : m.length ≤ f := by rw [List.length_append] at hl; simpa using hl
      have him := ih m hm hlm hdm fun e => absurd e hhm
      have hpos : 0 < val m := by
        rcases Nat.eq_zero_or_pos (val m) with e | e
        · rw [e] at him
          cases f with
          | zero => exact absurd (List.length_eq_zero_iff.1 (by omega)) hm
          | succ f => rw [← him] at hhm; exact absurd (by simp [digF]) hhm
        · exact e
      rw [if_neg (by omega), show (val m * 10 + (c - 48)) / 10 = val m by omega, him, show (val m * 10 + (c - 48)) % 10 = c - 48 by omega, show 48 + (c - 48) = c by omega]
theorem dig_val {l : List Nat} (h0 : l ≠ []) (hl : l.length ≤ 20) (hd : ∀ c ∈ l, isDig c) (hz : l.head? = some 48 → l.length = 1) : dig (val l) = l := digF_val 20 l h0 hl hd hz

/-! ### Names -/

structure Nm where
  scheme : Int
  name : ByteArray
  node : Nat
  service : Nat

def isLetter (c : Nat) : Prop := (97 ≤ c ∧ c ≤ 122) ∨ (48 ≤ c ∧ c ≤ 57) ∨ c = 45 ∨ c = 46
instance (c : Nat) : Decidable (isLetter c) := by unfold isLetter; infer_instance
/-- The letters. -/
def letB : ByteArray := ⟨#[97, 98, 99, 100, 101, 102, 103, 104, 105, 106, 107, 108, 109, 110, 111, 112, 113, 114, 115, 116, 117, 118, 119, 120, 121, 122, 48, 49, 50, 51, 52, 53, 54, 55, 56, 57, 45, 46]⟩
set_option maxRecDepth 100000 in
theorem letB_mem (c : Nat) (hc : c < 256) : c ∈ nb letB ↔ isLetter c := by
  revert hc
  have h : ∀ c : Fin 256, (c.val ∈ nb letB ↔ isLetter c.val) := by decide
  exact fun hc => h ⟨c, hc⟩
theorem nb_get (b : ByteArray) (k : Nat) (h : k < b.size) : (nb b)[k]? = some b[k].toNat := by
  unfold nb
  rw [List.getElem?_map, List.getElem?_eq_getElem (by simpa using h)]
  rfl
/-- Where the first stroke is, told from k on; 0: there is none. -/
def slashFrom : Nat → List Nat → Nat
  | _, [] => 0
  | k, c :: l => if c = 47 then k else slashFrom (k + 1) l
def slashOf (l : List Nat) : Nat := slashFrom 2 (l.drop 2)
theorem slashFrom_at : ∀ (l : List Nat) (k i : Nat), l[i]? = some 47 → (∀ j, j < i → l[j]? ≠ some 47) → slashFrom k l = k + i
  | [], _, _, h, _ => by simp at h
  | c :: l, k, 0, h, _ => by simp at h; simp [slashFrom, h]
  | c :: l, k, i + 1, h, hn => by
    have hc : c ≠ 47 := fun e => hn 0 (by omega) (by simp [e])
    unfold slashFrom
    rw [if_neg hc, slashFrom_at l (k + 1) i (by simpa using h) (fun j hj => by have := hn (j + 1) (by omega); simpa using this)]
    omega
theorem slashFrom_none : ∀ (l : List Nat) (k : Nat), (∀ j : Nat, l[j]? ≠ some 47) → slashFrom k l = 0
  | [], _, _ => rfl
  | c :: l, k, hn => by
    have hc : c ≠ 47 := fun e => hn 0 (by simp [e])
    unfold slashFrom
    rw [if_neg hc, slashFrom_none l (k + 1) (fun j => by have := hn (j + 1); simpa using this)]
theorem slashOf_at {l : List Nat} {i : Nat} (h2 : 2 ≤ i) (h : l[i]? = some 47) (hn : ∀ j, 2 ≤ j → j < i → l[j]? ≠ some 47) : slashOf l = i := by
  unfold slashOf
  rw [slashFrom_at (l.drop 2) 2 (i - 2) (by rw [List.getElem?_drop, show 2 + (i - 2) = i by omega]; exact h) (fun j hj => by rw [List.getElem?_drop]; exact hn _ (by omega) (by omega))]
  omega
theorem slashOf_none {l : List Nat} (hn : ∀ j : Nat, 2 ≤ j → l[j]? ≠ some 47) : slashOf l = 0 :=
  slashFrom_none _ _ fun j => by rw [List.getElem?_drop]; exact hn _ (by omega)
/-- "none". -/
def noneL : List Nat := [110, 111, 110, 101]
/-- A name of a node and a service. -/
def Full (l a b : List Nat) : Prop := l = 47 :: 47 :: (a ++ 47 :: b) ∧ a ≠ [] ∧ (∀ c ∈ a, isLetter c) ∧ ∀ c ∈ b, 33 ≤ c ∧ c ≤ 126
def Right (e : Nm) : Prop :=
  (e.scheme = 2 ∧ e.name = ⟨#[]⟩ ∧ e.node ≤ 4294967295 ∧ e.service ≤ 4294967295) ∨
  (e.scheme = 1 ∧ e.node = 0 ∧ e.service = 0 ∧ e.name.size ≤ 60 ∧ (nb e.name = noneL ∨ ∃ a b, Full (nb e.name) a b))
theorem slash_not {a : List Nat} (h : ∀ c ∈ a, isLetter c) : (47 : Nat) ∉ a := fun hm => by
  rcases h 47 hm with h | h | h | h <;> omega
theorem split_one {x : Nat} {a b c d : List Nat} (ha : x ∉ a) (hc : x ∉ c) (h : a ++ x :: b = c ++ x :: d) : a = c ∧ b = d := by
  induction a generalizing c with
  | nil =>
    cases c with
    | nil => exact ⟨rfl, by simpa using h⟩
    | cons y c => simp at h; exact absurd (List.mem_cons.2 (.inl h.1)) hc
  | cons z a ih =>
    cases c with
    | nil => simp at h; exact absurd (List.mem_cons.2 (.inl h.1.symm)) ha
    | cons y c =>
      simp only [List.cons_append, List.cons.injEq] at h
      obtain ⟨h1, h2⟩ := ih (fun m => ha (List.mem_cons_of_mem _ m)) (fun m => hc (List.mem_cons_of_mem _ m)) h.2
      exact ⟨by rw [h.1, h1], h2⟩
theorem full_one {l a b c d : List Nat} (h : Full l a b) (k : Full l c d) : a = c ∧ b = d := by
  have e := h.1.symm.trans k.1
  simp only [List.cons.injEq, true_and] at e
  exact split_one (slash_not h.2.2.1) (slash_not k.2.2.1) e

/-- A right name's text. -/
def txt (e : Nm) : List Nat := if e.scheme = 1 then [100, 116, 110, 58] ++ nb e.name else [105, 112, 110, 58] ++ (dig e.node ++ 46 :: dig e.service)
theorem dot_not {l : List Nat} (h : ∀ c ∈ l, isDig c) : (46 : Nat) ∉ l := fun hm => by have := h 46 hm; unfold isDig at this; omega
theorem txt_inj {e f : Nm} (he : Right e) (hf : Right f) (h : txt e = txt f) : e = f := by
  unfold txt at h
  rcases he with ⟨h1, h2, h3, h4⟩ | ⟨h1, h2, h3, h4, h5⟩ <;> rcases hf with ⟨k1, k2, k3, k4⟩ | ⟨k1, k2, k3, k4, k5⟩
  · rw [if_neg (by omega), if_neg (by omega)] at h
    obtain ⟨a1, a2⟩ := split_one (dot_not (dig_digits _)) (dot_not (dig_digits _)) (List.append_cancel_left h)
    have b1 := dig_inj (by omega) (by omega) a1
    have b2 := dig_inj (by omega) (by omega) a2
    cases e; cases f; simp only at *; rw [h1, k1, h2, k2, b1, b2]
  · rw [if_neg (by omega), if_pos k1] at h; simp at h
  · rw [if_pos h1, if_neg (by omega)] at h; simp at h
  · rw [if_pos h1, if_pos k1] at h
    have b := nb_inj (List.append_cancel_left h)
    cases e; cases f; simp only at *; rw [h1, k1, b, h2, k2, h3, k3]
/-- A name of at most a hundred bytes has a text of at most a hundred and four. -/
theorem txt_len {e : Nm} (h : Right e) : (txt e).length ≤ 64 := by
  unfold txt
  rcases h with ⟨h1, h2, h3, h4⟩ | ⟨h1, h2, h3, h4, h5⟩
  · rw [if_neg (by omega)]
    have := dig_len h3
    have := dig_len h4
    simp; omega
  · rw [if_pos h1]
    have := nb_length e.name
    simp; omega

/-- The node of a right name: its Name. -/
def nodeL (l : List Nat) : List Nat := 47 :: 47 :: ((l.drop 2).takeWhile (fun c => c != 47) ++ [47])
theorem nodeL_full {l a b : List Nat} (h : Full l a b) : nodeL l = 47 :: 47 :: (a ++ [47]) := by
  obtain ⟨rfl, h1, h2, h3⟩ := h
  have hno := slash_not h2
  have : ∀ a : List Nat, (47 : Nat) ∉ a → (a ++ 47 :: b).takeWhile (fun c => c != 47) = a := fun a => by
    induction a with
    | nil => intro _; simp
    | cons c a ih =>
      intro hn
      have hc : (c != 47) = true := by simp; exact fun e => hn (by simp [e])
      simp only [List.cons_append, List.takeWhile_cons, hc, if_true]
      rw [ih fun m => hn (List.mem_cons_of_mem _ m)]
  unfold nodeL
  rw [show (47 :: 47 :: (a ++ 47 :: b)).drop 2 = a ++ 47 :: b from rfl, this a hno]
theorem full_node {l a b : List Nat} (h : Full l a b) : Full (nodeL l) a [] := ⟨nodeL_full h, h.2.1, h.2.2.1, fun c hc => by cases hc⟩
theorem nodeL_nodeL {l a b : List Nat} (h : Full l a b) : nodeL (nodeL l) = nodeL l := by rw [nodeL_full (full_node h), nodeL_full h]
theorem nodeL_len {l a b : List Nat} (h : Full l a b) : (nodeL l).length ≤ l.length := by
  rw [nodeL_full h, h.1]; simp
theorem none_not_full {a b : List Nat} : ¬ Full noneL a b := fun h => by have := h.1; simp [noneL] at this

theorem slashFrom_spec : ∀ (l : List Nat) (k : Nat), 0 < k → slashFrom k l ≠ 0 → ∃ i : Nat, slashFrom k l = k + i ∧ l[i]? = some 47 ∧ ∀ j : Nat, j < i → l[j]? ≠ some 47
  | [], k, _, h => absurd rfl h
  | c :: l, k, hk, h => by
    by_cases hc : c = 47
    · exact ⟨0, by unfold slashFrom; rw [if_pos hc]; rfl, by simp [hc], fun j hj => by omega⟩
    · unfold slashFrom at h ⊢
      rw [if_neg hc] at h ⊢
      obtain ⟨i, h1, h2, h3⟩ := slashFrom_spec l (k + 1) (by omega) h
      refine ⟨i + 1, by omega, by simpa using h2, fun j hj => ?_⟩
      cases j with
      | zero => simpa using hc
      | succ j => simpa using h3 j (by omega)
theorem slashOf_spec {l : List Nat} (h : slashOf l ≠ 0) : 2 ≤ slashOf l ∧ l[slashOf l]? = some 47 ∧ ∀ j : Nat, 2 ≤ j → j < slashOf l → l[j]? ≠ some 47 := by
  obtain ⟨i, h1, h2, h3⟩ := slashFrom_spec (l.drop 2) 2 (by omega) h
  have e : slashOf l = 2 + i := h1
  rw [List.getElem?_drop] at h2
  refine ⟨by omega, by rw [e]; exact h2, fun j hj hlt => ?_⟩
  have := h3 (j - 2) (by omega)
  rwa [List.getElem?_drop, show 2 + (j - 2) = j by omega] at this
theorem full_slash {l a b : List Nat} (h : Full l a b) : l.take 2 = [47, 47] ∧ slashOf l = 2 + a.length ∧ 3 ≤ slashOf l := by
  obtain ⟨rfl, h1, h2, h3⟩ := h
  have hno := slash_not h2
  have e : slashOf (47 :: 47 :: (a ++ 47 :: b)) = 2 + a.length := by
    refine slashOf_at (by omega) (by rw [show 2 + a.length = a.length + 1 + 1 by omega]; simp) fun j hj hlt => ?_
    obtain ⟨i, rfl⟩ : ∃ i, j = i + 1 + 1 := ⟨j - 2, by omega⟩
    simp only [List.getElem?_cons_succ]
    rw [List.getElem?_append_left (by omega)]
    exact fun e => hno (List.mem_of_getElem? e)
  have : 0 < a.length := List.length_pos_iff.2 h1
  exact ⟨rfl, e, by omega⟩
/-- What is asked of each byte of a name. -/
theorem full_iff {l : List Nat} (h2 : l.take 2 = [47, 47]) (hk : 3 ≤ slashOf l) : (∃ a b, Full l a b) ↔ ∀ (i c : Nat), 2 ≤ i → l[i]? = some c → (i < slashOf l → isLetter c) ∧ (slashOf l < i → 33 ≤ c ∧ c ≤ 126) := by
  constructor
  · rintro ⟨a, b, hf⟩ i c hi hc
    have he := (full_slash hf).2.1
    obtain ⟨i, rfl⟩ : ∃ j, i = j + 1 + 1 := ⟨i - 2, by omega⟩
    rw [hf.1] at hc
    simp only [List.getElem?_cons_succ] at hc
    constructor
    · intro hlt
      rw [List.getElem?_append_left (by omega)] at hc
      exact hf.2.2.1 c (List.mem_of_getElem? hc)
    · intro hlt
      rw [List.getElem?_append_right (by omega)] at hc
      obtain ⟨m, hm⟩ : ∃ m, i - a.length = m + 1 := ⟨i - a.length - 1, by omega⟩
      rw [hm, List.getElem?_cons_succ] at hc
      exact hf.2.2.2 c (List.mem_of_getElem? hc)
  · intro h
    obtain ⟨s1, s2, s3⟩ := slashOf_spec (l := l) (by omega)
    obtain ⟨k, hk'⟩ : ∃ k, k = slashOf l := ⟨_, rfl⟩
    rw [← hk'] at hk h s1 s2 s3
    refine ⟨(l.drop 2).take (k - 2), l.drop (k + 1), ?_, ?_, ?_, ?_⟩
    · have e1 : l = l.take 2 ++ l.drop 2 := (List.take_append_drop 2 l).symm
      have e2 : l.drop 2 = (l.drop 2).take (k - 2) ++ (l.drop 2).drop (k - 2) := (List.take_append_drop _ _).symm
      have e3 : (l.drop 2).drop (k - 2) = 47 :: l.drop (k + 1) := by
        rw [List.drop_drop, show 2 + (k - 2) = k by omega]
        obtain ⟨hl, e⟩ := List.getElem?_eq_some_iff.1 s2
        rw [List.drop_eq_getElem_cons hl, e]
      rw [h2] at e1
      rw [e3] at e2
      rw [← e2]
      exact e1
    · intro e
      have := congrArg List.length e
      have hl := (List.getElem?_eq_some_iff.1 s2).1
      rw [List.length_take, List.length_drop] at this
      simp at this
      omega
    · intro c hc
      obtain ⟨i, hi⟩ := List.getElem?_of_mem hc
      have hlt := (List.getElem?_eq_some_iff.1 hi).1
      rw [List.length_take] at hlt
      rw [List.getElem?_take, if_pos (by omega), List.getElem?_drop] at hi
      exact (h (2 + i) c (by omega) hi).1 (by omega)
    · intro c hc
      obtain ⟨i, hi⟩ := List.getElem?_of_mem hc
      rw [List.getElem?_drop] at hi
      exact (h (k + 1 + i) c (by omega) hi).2 (by omega)
end Eid
end Go.Proofs.YtmbmhblogjkflaaDoor
