/-
  The map of item's copier, whose keys are places of lists: look-up and update, whatever it holds. Conditions: the lists' rows lie in memory, each in a block of its own.
-/
import Derived.Test.YtmbmhblogjkflaaDoorRows
import Derived.Test.YtmbmhblogjkflaaDoorTreeMath
import Derived.WalkKit
import Derived.ProofKit
import Derived.OpenShut
import Derived.WalkSpells
import Derived.WalkLawsBesides
import Derived.Outline
import Derived.Lib.Hide
import Derived.Deep.DeepAppendWide
import Derived.Lib.SliceRun
import Derived.Deep.AppendLies
import Derived.Deep.RegionHeld3
import Derived.Deep.DeepCutAuto
import Derived.Deep.QuietTactic
import Derived.BigQuiet
import Derived.MapKept
import Derived.WideKeyRuns
import Derived.LaidEql
import Derived.LaidEqlPtr
namespace Go.Proofs.YtmbmhblogjkflaaDoor
namespace Tree
open Go.ChangeShapes Go.WideShapes Go.ChangeAt Go.RowKit Go.MapKept
set_option linter.unusedVariables false
set_option maxRecDepth 100000

/-- The key of a list of n elements in block g. -/
def keyP (g n : Nat) : Value := .agg #[.pointer (some ⟨g, 0, none⟩), .int .i64 (n : Nat)]
/-- A row of items in block g. -/
def Row (g : Nat) (w : World) : Prop := ∃ cs, w.heap[g]? = some (.cells cs 29 (0, 0))
theorem Row.lt {g : Nat} {w : World} (h : Row g w) : g < w.heap.size := by
  obtain ⟨cs, h⟩ := h
  exact (Array.getElem?_eq_some_iff.1 h).1
theorem Row.keep {g : Nat} {w w' : World} (h : Row g w) (e : w'.heap[g]? = w.heap[g]?) : Row g w' := by
  obtain ⟨cs, h⟩ := h
  exact ⟨cs, e.trans h⟩

theorem infoPtrT : (Tryd.prog.info? 75).map (fun i => i.zero) = some (some (.pointer none)) := by kernel_rfl

theorem part_ptr (g n : Nat) (w : World) : (part 76 #[.pointer (some ⟨g, 0, none⟩), .int .i64 (n : Nat)] 0).run Tryd.prog w = .ok (.pointer (some ⟨g, 0, none⟩)) w := by
  simp [part, isAgg, run_underlying Tryd.underlying76]
theorem part_num (g n : Nat) (w : World) : (part 3 #[.pointer (some ⟨g, 0, none⟩), .int .i64 (n : Nat)] 1).run Tryd.prog w = .ok (.int .i64 (n : Nat)) w := by
  simp [part, isAgg, run_underlying Tryd.underlying3]
theorem check_ptr (g : Nat) (em : Bool) (n : Nat) (w : World) : (Instr.checkKey em (n + 1) 76 (.pointer (some ⟨g, 0, none⟩))).run Tryd.prog w = .ok () w := by
  simp [Instr.checkKey, run_underlying Tryd.underlying76]
theorem check_num (em : Bool) (n m : Nat) (w : World) : (Instr.checkKey em (n + 1) 3 (.int .i64 (m : Nat))).run Tryd.prog w = .ok () w := by
  simp [Instr.checkKey, run_underlying Tryd.underlying3]
theorem key_checked (g n : Nat) (em : Bool) (w : World) : (Instr.checkKey em 10000 78 (keyP g n)).run Tryd.prog w = .ok () w := by
  rw [show (10000 : Nat) = 9998 + 1 + 1 from rfl, Instr.checkKey]
  simp only [Sem.run_bind, run_underlying Tryd.underlying78, Result.andThen_ok, keyP]
  rw [← Array.forIn_toList]
  simp only [List.forIn_cons, Sem.run_bind, List.forIn_nil, if_pos (show ("first" : String) ≠ "_" by decide), if_pos (show ("n" : String) ≠ "_" by decide), part_ptr, part_num, check_ptr, check_num, Result.andThen_ok, Sem.run_pure]
theorem ptr_same (g n : Nat) (w : World) : (Op.equalIn (n + 1) 76 (.pointer (some ⟨g, 0, none⟩)) (.pointer (some ⟨g, 0, none⟩))).run Tryd.prog w = .ok true w := by
  simp [Op.equalIn, run_underlying Tryd.underlying76, run_sameAddr_same]
theorem num_same (n m : Nat) (w : World) : (Op.equalIn (n + 1) 3 (.int .i64 (m : Nat)) (.int .i64 (m : Nat))).run Tryd.prog w = .ok true w := by
  simp [Op.equalIn, run_underlying Tryd.underlying3]
theorem key_same (g m : Nat) (w : World) : (Op.equal 78 (keyP g m) (keyP g m)).run Tryd.prog w = .ok true w := by
  have p1 : ∀ w, (Op.equalIn 9999 76 (.pointer (some ⟨g, 0, none⟩)) (.pointer (some ⟨g, 0, none⟩))).run Tryd.prog w = .ok true w := ptr_same g 9998
  have p2 : ∀ w, (Op.equalIn 9999 3 (.int .i64 (m : Nat)) (.int .i64 (m : Nat))).run Tryd.prog w = .ok true w := num_same 9998 m
  rw [Op.equal, show Op.maxDepth = 9999 + 1 from rfl, Op.equalIn]
  simp only [Sem.run_bind, run_underlying Tryd.underlying78, Result.andThen_ok, keyP]
  rw [← Array.forIn_toList]
  simp [part_ptr, part_num, p1, p2]

theorem infoItemT : (Tryd.prog.info? 29).map (fun i => (i.zero, i.size, i.bytes)) = some (some (.agg #[.int .i64 0, .int .u64 0, .string ⟨#[]⟩, .slice none 0 0, .bool false]), 5, 64) := by kernel_rfl
theorem ptr_other (g g' n : Nat) (w : World) (hne : g ≠ g') (h : Row g w) (h' : Row g' w) : (Op.equalIn (n + 1) 76 (.pointer (some ⟨g, 0, none⟩)) (.pointer (some ⟨g', 0, none⟩))).run Tryd.prog w = .ok false w := by
  obtain ⟨cs, h⟩ := h
  obtain ⟨cs', h'⟩ := h'
  obtain ⟨i0, hi, hz0, hz1, hz2⟩ := info_parts infoItemT
  have hs := run_sameAddr_other (P := Tryd.prog) w (a := ⟨g, 0, none⟩) (b := ⟨g', 0, none⟩) (fun e => hne (by injection e)) h h'
  simp [Op.equalIn, run_underlying Tryd.underlying76, hs, sizeOf, typeInfo, hi, hz1]
theorem key_other (g g' n n' : Nat) (w : World) (hne : g ≠ g') (h : Row g w) (h' : Row g' w) : (Op.equal 78 (keyP g n) (keyP g' n')).run Tryd.prog w = .ok false w := by
  have p1 : (Op.equalIn 9999 76 (.pointer (some ⟨g, 0, none⟩)) (.pointer (some ⟨g', 0, none⟩))).run Tryd.prog w = .ok false w := ptr_other g g' 9998 w hne h h'
  rw [Op.equal, show Op.maxDepth = 9999 + 1 from rfl, Op.equalIn]
  simp only [Sem.run_bind, run_underlying Tryd.underlying78, Result.andThen_ok, keyP]
  rw [← Array.forIn_toList]
  simp [part_ptr, part_num, p1]

open Nd
/-- How many elements a list has. -/
def Nd.n (x : Nd) : Nat := x.els.length
/-- The map's entries, in the order in which the lists were entered; K: where what is known of a list lies. -/
def entL (K : Nat → Nat) : List Nd → Nat → List MapEntry
  | [], _ => []
  | y :: r, b => { key := keyP y.g y.n, val := .pointer (some ⟨K y.g, 0, none⟩), born := b } :: entL K r (b + 1)
theorem entL_append (K : Nat → Nat) (L : List Nd) (x : Nd) : ∀ b, entL K (L ++ [x]) b = entL K L b ++ [{ key := keyP x.g x.n, val := .pointer (some ⟨K x.g, 0, none⟩), born := b + L.length }] := by
  induction L with
  | nil => intro b; simp [entL]
  | cons y r ih =>
    intro b
    simp only [List.cons_append, entL, ih, List.length_cons]
    rw [show b + 1 + r.length = b + (r.length + 1) by omega]
theorem entL_congr {K K' : Nat → Nat} {L : List Nd} (h : ∀ y ∈ L, K y.g = K' y.g) : ∀ b, entL K L b = entL K' L b := by
  induction L with
  | nil => intro b; rfl
  | cons y r ih =>
    intro b
    rw [entL, entL, h y List.mem_cons_self, ih fun z hz => h z (List.mem_cons_of_mem _ hz)]
theorem entL_length (K : Nat → Nat) (L : List Nd) : ∀ b, (entL K L b).length = L.length := by
  induction L with
  | nil => intro b; rfl
  | cons y r ih => intro b; simp [entL, ih]

theorem find_in (K : Nat → Nat) (x : Nd) (w : World) (hx : Row x.g w) (L : List Nd) : (∀ y ∈ L, Row y.g w) → (∀ y ∈ L, y.g = x.g → y.n = x.n) → x.g ∈ L.map g → ∀ b i, ∃ j, (Instr.findAsking 78 (keyP x.g x.n) (entL K L b) i).run Tryd.prog w = .ok (some (j, .pointer (some ⟨K x.g, 0, none⟩))) w := by
  induction L with
  | nil => intro _ _ h; simp at h
  | cons y r ih =>
    intro hr hn hm b i
    by_cases e : y.g = x.g
    · refine ⟨i, ?_⟩
      have hk := key_same x.g x.n w
      simp [entL, Instr.findAsking, e, hn y List.mem_cons_self e, hk]
    · have hm' : x.g ∈ r.map g := by
        rw [List.map_cons, List.mem_cons] at hm
        rcases hm with h | h
        · exact absurd h.symm e
        · exact h
      obtain ⟨j, hj⟩ := ih (fun z hz => hr z (List.mem_cons_of_mem _ hz)) (fun z hz => hn z (List.mem_cons_of_mem _ hz)) hm' (b + 1) (i + 1)
      refine ⟨j, ?_⟩
      have hk := key_other x.g y.g x.n y.n w (fun h => e h.symm) hx (hr y List.mem_cons_self)
      simp [entL, Instr.findAsking, hk, hj]
theorem find_out (K : Nat → Nat) (x : Nd) (w : World) (hx : Row x.g w) (L : List Nd) : (∀ y ∈ L, Row y.g w) → x.g ∉ L.map g → ∀ b i, (Instr.findAsking 78 (keyP x.g x.n) (entL K L b) i).run Tryd.prog w = .ok none w := by
  induction L with
  | nil => intro _ _ b i; simp [entL, Instr.findAsking]
  | cons y r ih =>
    intro hr hm b i
    rw [List.map_cons, List.mem_cons, not_or] at hm
    have h := ih (fun z hz => hr z (List.mem_cons_of_mem _ hz)) hm.2 (b + 1) (i + 1)
    have hk := key_other x.g y.g x.n y.n w hm.1 hx (hr y List.mem_cons_self)
    simp [entL, Instr.findAsking, hk, h]

/-- The map's object. -/
def mapO (K : Nat → Nat) (L : List Nd) : Obj := .map (entL K L 0).toArray L.length
theorem look_in (K : Nat → Nat) (L : List Nd) (x : Nd) (M : Nat) (w : World) (h : w.heap[M]? = some (mapO K L)) (hx : Row x.g w) (hr : ∀ y ∈ L, Row y.g w) (hn : ∀ y ∈ L, y.g = x.g → y.n = x.n) (hm : x.g ∈ L.map g) :
    (Instr.lookup 62 (.map (some M)) (keyP x.g x.n) false).run Tryd.prog w = .ok (.pointer (some ⟨K x.g, 0, none⟩)) w := by
  obtain ⟨j, hj⟩ := find_in K x w hx L hr hn hm 0 0
  unfold mapO at h
  simp only [Instr.lookup, Sem.run_bind, run_underlying Tryd.underlying62, Result.andThen_ok, MapKept.run_getObj_map h, Sem.run_pure, key_checked]
  rw [run_findKey_eq w (by rw [Tryd.underlying78])]
  simp [hj]
theorem look_out (K : Nat → Nat) (L : List Nd) (x : Nd) (M : Nat) (w : World) (h : w.heap[M]? = some (mapO K L)) (hx : Row x.g w) (hr : ∀ y ∈ L, Row y.g w) (hm : x.g ∉ L.map g) :
    (Instr.lookup 62 (.map (some M)) (keyP x.g x.n) false).run Tryd.prog w = .ok (.pointer none) w := by
  obtain ⟨i, hi, hz⟩ := Option.map_eq_some_iff.1 infoPtrT
  have hj := find_out K x w hx L hr hm 0 0
  unfold mapO at h
  simp only [Instr.lookup, Sem.run_bind, run_underlying Tryd.underlying62, Result.andThen_ok, MapKept.run_getObj_map h, Sem.run_pure, key_checked]
  rw [run_findKey_eq w (by rw [Tryd.underlying78])]
  simp [hj, zeroValue, typeInfo, hi, hz]

/-- A world with another object in one block. -/
def putObj (M : Nat) (o : Obj) (w : World) : World := { w with heap := w.heap.setIfInBounds M o }
theorem putObj_at {M : Nat} {o o' : Obj} {w : World} (h : w.heap[M]? = some o') : (putObj M o w).heap[M]? = some o := (heap_set h).1
theorem putObj_other {M : Nat} {o : Obj} {w : World} (k : Nat) (h : k ≠ M) : (putObj M o w).heap[k]? = w.heap[k]? := by
  simp [putObj, Ne.symm h]
theorem putObj_size (M : Nat) (o : Obj) (w : World) : (putObj M o w).heap.size = w.heap.size := by simp [putObj]
/-- Another place for what is known of one list. -/
def updK (K : Nat → Nat) (q k : Nat) : Nat → Nat := fun i => if i = q then k else K i
theorem put_new (K : Nat → Nat) (L : List Nd) (x : Nd) (M k : Nat) (w : World) (h : w.heap[M]? = some (mapO K L)) (hx : Row x.g w) (hr : ∀ y ∈ L, Row y.g w) (hm : x.g ∉ L.map g) :
    (Instr.mapUpdate 62 (.map (some M)) (keyP x.g x.n) (.pointer (some ⟨k, 0, none⟩))).run Tryd.prog w = .ok () (putObj M (mapO (updK K x.g k) (L ++ [x])) w) := by
  have hj := find_out K x w hx L hr hm 0 0
  have he : mapO (updK K x.g k) (L ++ [x]) = .map ((entL K L 0).toArray.push { key := keyP x.g x.n, val := .pointer (some ⟨k, 0, none⟩), born := L.length }) (L.length + 1) := by
    unfold mapO
    rw [entL_append, entL_congr (K' := K) (fun y hy => if_neg (fun e => hm (List.mem_map.2 ⟨y, hy, e⟩)))]
    simp [updK]
  rw [he]
  have h0 := h
  unfold mapO at h
  simp only [Instr.mapUpdate, Sem.run_bind, run_underlying Tryd.underlying62, Result.andThen_ok, MapKept.run_getObj_map h, key_checked]
  rw [run_findKey_eq w (by rw [Tryd.underlying78])]
  simp [hj, MapKept.run_setObj_map _ h, putObj]
end Tree
end Go.Proofs.YtmbmhblogjkflaaDoor
