/-
  A tree of lists in memory; what the copier has while it counts; contracts of its push and pop there. Conditions: each list lies at a block's head, no two in one block.
-/
import Derived.Test.YtmbmhblogjkflaaDoorTb
namespace Go.Proofs.YtmbmhblogjkflaaDoor
namespace Tree
open Go.ChangeShapes Go.WideShapes Go.ChangeAt Go.RowKit Go.MapKept
open Nd
set_option linter.unusedVariables false
set_option maxRecDepth 100000

/-- The slice of an element's list. -/
def Shp : Nd → Value → Prop
  | .no, v => ∃ A cap, v = .slice A 0 cap
  | .at q l, v => ∃ cap, v = .slice (some ⟨q, 0, none⟩) l.length cap ∧ 0 < l.length
theorem Shp.at_ {x : Nd} {v : Value} (h : Shp x v) (hx : x.isAt = true) : ∃ cap, v = .slice (some ⟨x.g, 0, none⟩) x.n cap ∧ 0 < x.n := by
  cases x with
  | no => cases hx
  | «at» q l => exact h
/-- The cells of an element. -/
structure Cel (w : World) (g i : Nat) (k : Int) (n : Nat) (s : ByteArray) (v : Value) (o : Bool) : Prop where
  c0 : w.cell? ⟨g, i * 5, none⟩ = some (.int .i64 k)
  c1 : w.cell? ⟨g, i * 5 + 1, none⟩ = some (.int .u64 (n : Nat))
  c2 : w.cell? ⟨g, i * 5 + 2, none⟩ = some (.string s)
  c3 : w.cell? ⟨g, i * 5 + 3, none⟩ = some v
  c4 : w.cell? ⟨g, i * 5 + 4, none⟩ = some (.bool o)
theorem Cel.below {w w' : World} {B g i : Nat} {k : Int} {n : Nat} {s : ByteArray} {v : Value} {o : Bool} (h : Cel w g i k n s v o) (hb : Below B w w') (hg : g < B) : Cel w' g i k n s v o :=
  ⟨(hb.cell (p := ⟨g, _, none⟩) hg).trans h.c0, (hb.cell (p := ⟨g, _, none⟩) hg).trans h.c1, (hb.cell (p := ⟨g, _, none⟩) hg).trans h.c2, (hb.cell (p := ⟨g, _, none⟩) hg).trans h.c3, (hb.cell (p := ⟨g, _, none⟩) hg).trans h.c4⟩
/-- A list that is not empty lies in memory. -/
structure Lst (w : World) (x : Nd) : Prop where
  row : Row x.g w
  pos : 0 < x.n
  few : x.n ≤ 1000000
  els : ∀ i y, x.els[i]? = some y → ∃ k n s v o, Cel w x.g i k n s v o ∧ Shp y v
/-- A tree of lists lies in memory. -/
structure Forest (w : World) (root : Nd) : Prop where
  lst : ∀ y ∈ root.all, Lst w y
  nodup : (gs root).Nodup
  few : cnt root ≤ 1000000
  isAt : root.isAt = true

/-- What is known of a list, at K. -/
def knownV (b : Bool) (n : Nat) : Obj := .cells #[.bool b, .int .u64 (n : Nat), .slice none 0 0] 81 (0, 0)

/-- The copier while it counts: the lists that are entered, those that are done, the stack. -/
structure Sx (W : World) (M : Nat) (root : Nd) (K : Nat → Nat) (ent : List Nd) (done : List Nat) (xs : List Value) (tot : Nat) (X : World) : Prop where
  cp : ∃ st, Cp W M (entL K ent 0).toArray ent.length st xs tot X ∧ ∀ y ∈ ent, st.ownBlock ≠ some (K y.g)
  known : ∀ y ∈ ent, X.heap[K y.g]? = some (knownV (decide (y.g ∉ done)) (if y.g ∈ done then cnt y else 0))
  lo : ∀ y ∈ ent, M + 2 ≤ K y.g
  inj : ∀ y ∈ ent, ∀ z ∈ ent, K y.g = K z.g → y.g = z.g
  sub : ∀ y ∈ ent, y ∈ root.all

section
variable {W X Y : World} {M : Nat} {root : Nd} {K : Nat → Nat} {ent : List Nd} {done : List Nat} {xs : List Value} {tot : Nat}
theorem Sx.below (h : Sx W M root K ent done xs tot X) : Below M W X := by
  obtain ⟨st, c, -⟩ := h.cp
  exact c.below
theorem Sx.size (h : Sx W M root K ent done xs tot X) : M + 2 ≤ X.heap.size := by
  obtain ⟨st, c, -⟩ := h.cp
  exact c.size
theorem Sx.next (h : Sx W M root K ent done xs tot X) (hb : Below X.heap.size X Y) : Sx W M root K ent done xs tot Y := by
  obtain ⟨st, c, hs⟩ := h.cp
  exact ⟨⟨st, c.next hb, hs⟩, fun y hy => (hb.block _ (lt_of_obj (h.known y hy))).trans (h.known y hy), h.lo, h.inj, h.sub⟩
theorem Sx.drew (h : Sx W M root K ent done xs tot X) : Sx W M root K ent done xs tot X.drew := h.next (Below.refl _ _).drew
theorem Sx.drewN (h : Sx W M root K ent done xs tot X) (m : Nat) : Sx W M root K ent done xs tot (X.drewN m) := h.next (below_of_drewN (Below.refl _ _) m)
theorem Sx.alloc (h : Sx W M root K ent done xs tot X) (o : Obj) : Sx W M root K ent done xs tot (X.alloc o) := h.next ((Below.refl _ _).alloc (Nat.le_refl _) o)
theorem Sx.c0 (h : Sx W M root K ent done xs tot X) : X.cell? ⟨M + 1, 0, none⟩ = some (.map (some M)) := by
  obtain ⟨st, c, -⟩ := h.cp
  exact c.c0
theorem Sx.map (h : Sx W M root K ent done xs tot X) : X.heap[M]? = some (mapO K ent) := by
  obtain ⟨st, c, -⟩ := h.cp
  exact c.map
theorem Sx.kept (h : Sx W M root K ent done xs tot X) (hM : M = W.heap.size) {g : Nat} (hg : g < W.heap.size) : X.heap[g]? = W.heap[g]? := h.below.block g (by omega)
theorem Sx.row (h : Sx W M root K ent done xs tot X) (hM : M = W.heap.size) (hF : Forest W root) {y : Nd} (hy : y ∈ root.all) : Row y.g X :=
  (hF.lst y hy).row.keep (h.kept hM (hF.lst y hy).row.lt)
theorem Sx.cel (h : Sx W M root K ent done xs tot X) (hM : M = W.heap.size) (hF : Forest W root) {y z : Nd} (hy : y ∈ root.all) {i : Nat} (hi : y.els[i]? = some z) : ∃ k n s v o, Cel X y.g i k n s v o ∧ Shp z v := by
  obtain ⟨k, n, s, v, o, hc, hv⟩ := (hF.lst y hy).els i z hi
  exact ⟨k, n, s, v, o, hc.below h.below (by have := (hF.lst y hy).row.lt; omega), hv⟩
theorem nodup_inj {l : List Nd} (h : (l.map g).Nodup) {y z : Nd} (hy : y ∈ l) (hz : z ∈ l) (e : y.g = z.g) : y = z := by
  induction l with
  | nil => cases hy
  | cons a r ih =>
    rw [List.map_cons, List.nodup_cons] at h
    rcases List.mem_cons.1 hy with rfl | hy'
    · rcases List.mem_cons.1 hz with rfl | hz'
      · rfl
      · exact absurd (List.mem_map.2 ⟨z, hz', e.symm⟩) h.1
    · rcases List.mem_cons.1 hz with rfl | hz'
      · exact absurd (List.mem_map.2 ⟨y, hy', e⟩) h.1
      · exact ih h.2 hy' hz'
theorem Sx.look_in (h : Sx W M root K ent done xs tot X) (hM : M = W.heap.size) (hF : Forest W root) {y : Nd} (hy : y ∈ ent) :
    (Instr.lookup 62 (.map (some M)) (keyP y.g y.n) false).run Tryd.prog X = .ok (.pointer (some ⟨K y.g, 0, none⟩)) X :=
  Tree.look_in K ent y M X h.map (h.row hM hF (h.sub y hy)) (fun z hz => h.row hM hF (h.sub z hz)) (fun z hz e => by rw [nodup_inj hF.nodup (h.sub z hz) (h.sub y hy) e]) (List.mem_map_of_mem hy)
theorem Sx.look_out (h : Sx W M root K ent done xs tot X) (hM : M = W.heap.size) (hF : Forest W root) {y : Nd} (hy : y ∈ root.all) (hn : y.g ∉ ent.map g) :
    (Instr.lookup 62 (.map (some M)) (keyP y.g y.n) false).run Tryd.prog X = .ok (.pointer none) X :=
  Tree.look_out K ent y M X h.map (h.row hM hF hy) (fun z hz => h.row hM hF (h.sub z hz)) hn

/-- push. -/
theorem Sx.push (h : Sx W M root K ent done xs tot X) (hl : xs.length ≤ 2000000) (A : Option Addr) (n c : Nat) :
    Calls Tryd.prog 59 #[.pointer (some ⟨M + 1, 0, none⟩), .slice A n c] X fun e w' => e = .returned (.tuple #[]) ∧ Sx W M root K ent done (xs ++ [.slice A n c]) tot w' := by
  obtain ⟨st, c0, hs⟩ := h.cp
  refine (push_any W M _ _ st xs tot X c0 hl A n c).mono ?_
  rintro e w' ⟨rfl, q, cap, c1, hat, hkeep⟩
  refine ⟨rfl, ⟨_, by simpa using c1, fun y hy => ?_⟩, fun y hy => ?_, h.lo, h.inj, h.sub⟩
  · have hlt := lt_of_obj (h.known y hy)
    intro e
    have e' : q = K y.g := by simpa [Value.ownBlock] using e
    rcases hat with h1 | h1
    · exact hs y hy (by rw [h1, e'])
    · omega
  · have hlt := lt_of_obj (h.known y hy)
    rw [hkeep _ hlt (by have := h.lo y hy; omega) (hs y hy)]
    exact h.known y hy
/-- pop. -/
theorem Sx.pop {v : Value} (h : Sx W M root K ent done (xs ++ [v]) tot X) :
    Calls Tryd.prog 50 #[.pointer (some ⟨M + 1, 0, none⟩)] X fun e w' => e = .returned v ∧ Sx W M root K ent done xs tot w' := by
  obtain ⟨st, c0, hs⟩ := h.cp
  obtain ⟨q, cap, hst⟩ : ∃ q cap, st = .slice (some ⟨q, 0, none⟩) (xs.length + 1) cap := by
    rcases c0.row.2 with ⟨_, h2⟩ | ⟨q, cap, cur, h1, _⟩
    · simp at h2
    · exact ⟨q, cap, by rw [h1]; simp⟩
  subst hst
  refine (pop_any W M _ _ q cap xs v tot X c0).mono ?_
  rintro e w' ⟨rfl, c1, hkeep⟩
  refine ⟨rfl, ⟨_, c1, fun y hy => hs y hy⟩, fun y hy => ?_, h.lo, h.inj, h.sub⟩
  rw [hkeep _ (by have := h.lo y hy; omega)]
  exact h.known y hy
/-- The top of the stack. -/
theorem Sx.top {v : Value} (h : Sx W M root K ent done (xs ++ [v]) tot X) : ∃ q cap, X.cell? ⟨M + 1, 1, none⟩ = some (.slice (some ⟨q, 0, none⟩) (xs.length + 1) cap) ∧ X.cell? ⟨q, xs.length, none⟩ = some v := by
  obtain ⟨st, c0, hs⟩ := h.cp
  rcases c0.row.2 with ⟨_, h2⟩ | ⟨q, cap, cur, h1, h2, h3, h4, h5, h6, h7⟩
  · simp at h2
  · refine ⟨q, cap, by rw [c0.c1, h1]; simp, ?_⟩
    rw [cell_of_row X q _ _ _ _ h3]
    have := congrArg (·[xs.length]?) h7
    simpa using this
theorem Sx.stack_none (h : Sx W M root K ent done [] tot X) : ∃ A cap, X.cell? ⟨M + 1, 1, none⟩ = some (.slice A 0 cap) := by
  obtain ⟨st, c0, hs⟩ := h.cp
  rcases c0.row.2 with ⟨h1, h2⟩ | ⟨q, cap, cur, h1, _⟩
  · exact ⟨none, 0, by rw [c0.c1, h1]⟩
  · exact ⟨_, cap, by rw [c0.c1, h1]; rfl⟩
/-- A list is entered. -/
theorem Sx.entered (h : Sx W M root K ent done xs tot X) (hb : Below X.heap.size X Y) {x : Nd} (hx : x ∈ root.all) (hn : x.g ∉ ent.map g) (hd : x.g ∉ done) {k : Nat} (hk0 : X.heap.size ≤ k) (hk : Y.heap[k]? = some (knownV true 0)) :
    Sx W M root (updK K x.g k) (ent ++ [x]) done xs tot (putObj M (mapO (updK K x.g k) (ent ++ [x])) Y) := by
  have hY := h.next hb
  have hsz := h.size
  have hK : ∀ y ∈ ent, updK K x.g k y.g = K y.g := fun y hy => if_neg (fun e => hn (List.mem_map.2 ⟨y, hy, e⟩))
  have hKx : updK K x.g k x.g = k := if_pos rfl
  obtain ⟨st, c0, hs⟩ := h.cp
  have c := c0.next hb
  have hst : st.ownBlock ≠ some k := fun e => by have := (row_lt c0.row k e).2; omega
  refine ⟨⟨st, ⟨⟨c.below.os, c.below.tape, c.below.output, by rw [putObj_size]; exact c.below.size, fun q hq => (putObj_other q (by omega)).trans (c.below.block q hq)⟩, ?_, (putObj_other _ (by omega)).trans c.cop, row_keep c.row fun q hq => putObj_other q (by have := (row_lt c.row q hq).1; omega)⟩, ?_⟩, ?_, ?_, ?_, ?_⟩
  · have := putObj_at (o := mapO (updK K x.g k) (ent ++ [x])) c.map
    unfold mapO at this ⊢
    simpa using this
  · intro y hy
    rcases List.mem_append.1 hy with hy | hy
    · rw [hK y hy]; exact hs y hy
    · obtain rfl := List.mem_singleton.1 hy
      rw [hKx]; exact hst
  · intro y hy
    rcases List.mem_append.1 hy with hy | hy
    · rw [hK y hy, putObj_other _ (by have := h.lo y hy; omega)]
      exact hY.known y hy
    · obtain rfl := List.mem_singleton.1 hy
      rw [hKx, putObj_other _ (by omega), hk, if_neg hd]
      simp [hd]
  · intro y hy
    rcases List.mem_append.1 hy with hy | hy
    · rw [hK y hy]; exact h.lo y hy
    · obtain rfl := List.mem_singleton.1 hy
      rw [hKx]; omega
  · intro y hy z hz e
    rcases List.mem_append.1 hy with hy1 | hy1 <;> rcases List.mem_append.1 hz with hz1 | hz1
    · rw [hK y hy1, hK z hz1] at e; exact h.inj y hy1 z hz1 e
    · obtain rfl := List.mem_singleton.1 hz1
      rw [hK y hy1, hKx] at e
      have := lt_of_obj (h.known y hy1); omega
    · obtain rfl := List.mem_singleton.1 hy1
      rw [hK z hz1, hKx] at e
      have := lt_of_obj (h.known z hz1); omega
    · obtain rfl := List.mem_singleton.1 hy1
      obtain rfl := List.mem_singleton.1 hz1
      rfl
  · intro y hy
    rcases List.mem_append.1 hy with hy | hy
    · exact h.sub y hy
    · obtain rfl := List.mem_singleton.1 hy
      exact hx
end
end Tree
end Go.Proofs.YtmbmhblogjkflaaDoor
