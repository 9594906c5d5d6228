/-
  Contracts of item's copier at a list of two leaves: its map, its stack and its parts. Conditions: each as stated.
-/
import Derived.Test.YtpmepnejjjlodaaBuild
import Derived.Deep.DeepAppendWide
import Derived.Lib.SliceRun
import Derived.Deep.AppendLies
import Derived.Deep.RegionHeld3
import Derived.Deep.QuietTactic
import Derived.BigQuiet
import Derived.MapKept
import Derived.WideKeyRuns
import Derived.LaidEql
namespace Go.Proofs.Ytpmepnejjjlodaa
open Go.ChangeShapes Go.WideShapes Go.ChangeAt Go.RowKit Go.MapKept
open Plain
set_option linter.unusedVariables false

def keyV (g : Nat) : Value := .agg #[.pointer (some ⟨g, 0, none⟩), .int .i64 2]

theorem below_of_drewN {n : Nat} {w w' : World} (h : Below n w w') (m : Nat) : Below n w (w'.drewN m) := ⟨h.os, h.tape, h.output, h.size, h.block⟩

theorem Try.infoPtr : (Try.prog.info? 94).map (fun i => i.zero) = some (some (.pointer none)) := by kernel_rfl


theorem part_ptr (g : Nat) (w : World) : (part 95 #[.pointer (some ⟨g, 0, none⟩), .int .i64 2] 0).run Try.prog w = .ok (.pointer (some ⟨g, 0, none⟩)) w := by
  simp [part, isAgg, run_underlying Try.underlying95]

theorem part_num (g : Nat) (w : World) : (part 3 #[.pointer (some ⟨g, 0, none⟩), .int .i64 2] 1).run Try.prog w = .ok (.int .i64 2) w := by
  simp [part, isAgg, run_underlying Try.underlying3]

theorem check_ptr (g : Nat) (em : Bool) (n : Nat) (w : World) : (Instr.checkKey em (n + 1) 95 (.pointer (some ⟨g, 0, none⟩))).run Try.prog w = .ok () w := by
  simp [Instr.checkKey, run_underlying Try.underlying95]

theorem check_num (em : Bool) (n : Nat) (w : World) : (Instr.checkKey em (n + 1) 3 (.int .i64 2)).run Try.prog w = .ok () w := by
  simp [Instr.checkKey, run_underlying Try.underlying3]

theorem key_checked (g : Nat) (em : Bool) (w : World) : (Instr.checkKey em 10000 97 (keyV g)).run Try.prog w = .ok () w := by
  rw [show (10000 : Nat) = 9998 + 1 + 1 from rfl, Instr.checkKey]
  simp only [Sem.run_bind, run_underlying Try.underlying97, Result.andThen_ok, keyV]
  rw [← Array.forIn_toList]
  simp only [List.forIn_cons, Sem.run_bind, List.forIn_nil, if_pos (show ("first" : String) ≠ "_" by decide), if_pos (show ("n" : String) ≠ "_" by decide), part_ptr, part_num, check_ptr, check_num, Result.andThen_ok, Sem.run_pure]

theorem ptr_same (g n : Nat) (w : World) : (Op.equalIn (n + 1) 95 (.pointer (some ⟨g, 0, none⟩)) (.pointer (some ⟨g, 0, none⟩))).run Try.prog w = .ok true w := by
  simp [Op.equalIn, run_underlying Try.underlying95, run_sameAddr_same]

theorem num_same (n : Nat) (w : World) : (Op.equalIn (n + 1) 3 (.int .i64 2) (.int .i64 2)).run Try.prog w = .ok true w := by
  simp [Op.equalIn, run_underlying Try.underlying3]

theorem key_same (g : Nat) (w : World) : (Op.equal 97 (keyV g) (keyV g)).run Try.prog w = .ok true w := by
  have p1 : ∀ w, (Op.equalIn 9999 95 (.pointer (some ⟨g, 0, none⟩)) (.pointer (some ⟨g, 0, none⟩))).run Try.prog w = .ok true w := ptr_same g 9998
  have p2 : ∀ w, (Op.equalIn 9999 3 (.int .i64 2) (.int .i64 2)).run Try.prog w = .ok true w := num_same 9998
  rw [Op.equal, show Op.maxDepth = 9999 + 1 from rfl, Op.equalIn]
  simp only [Sem.run_bind, run_underlying Try.underlying97, Result.andThen_ok, keyV]
  rw [← Array.forIn_toList]
  simp [part_ptr, part_num, p1, p2]

theorem look_none (g M : Nat) (w : World) (h : w.heap[M]? = some (.map #[] 0)) : (Instr.lookup 78 (.map (some M)) (keyV g) false).run Try.prog w = .ok (.pointer none) w := by
  obtain ⟨i, hi, hz⟩ := Option.map_eq_some_iff.1 Try.infoPtr
  simp only [Instr.lookup, Sem.run_bind, run_underlying Try.underlying78, Result.andThen_ok, MapKept.run_getObj_map h, Sem.run_pure, key_checked, Instr.findKey, run_underlying Try.underlying97, Instr.findNow]
  simp [zeroValue, typeInfo, hi, hz]

theorem look_one (g M : Nat) (v : Value) (w : World) (h : w.heap[M]? = some (.map #[{ key := keyV g, val := v, born := 0 }] 1)) : (Instr.lookup 78 (.map (some M)) (keyV g) false).run Try.prog w = .ok v w := by
  simp only [Instr.lookup, Sem.run_bind, run_underlying Try.underlying78, Result.andThen_ok, MapKept.run_getObj_map h, Sem.run_pure, key_checked]
  rw [run_findKey_eq w (by rw [Try.underlying97])]
  simp [Instr.findAsking, key_same]

theorem put_one (g M : Nat) (v : Value) (w : World) (h : w.heap[M]? = some (.map #[] 0)) : (Instr.mapUpdate 78 (.map (some M)) (keyV g) v).run Try.prog w = .ok () { w with heap := w.heap.setIfInBounds M (.map #[{ key := keyV g, val := v, born := 0 }] 1) } := by
  simp only [Instr.mapUpdate, Sem.run_bind, run_underlying Try.underlying78, Result.andThen_ok, MapKept.run_getObj_map h, Sem.run_pure, key_checked, Instr.findKey, run_underlying Try.underlying97, Instr.findNow, MapKept.run_setObj_map _ h]
  simp

end Go.Proofs.Ytpmepnejjjlodaa
