/-
  The table of round constants, as the row lists it, lies in memory. Conditions: none.
-/
import Derived.Test.YtfahmbkeibeceaaDoorSd
import Derived.ProofKit
import Derived.LaidMore
import Derived.OpenShut
import Derived.Stop.Joined
namespace Go.Proofs.YtfahmbkeibeceaaDoor
open Go.ChangeShapes Go.WideShapes Go.ChangeAt Go.RowKit
set_option linter.unusedVariables false

theorem own : ownKnob Tryd.prog.godebug = none := by kernel_rfl
theorem gKs : Tryd.prog.globalNamed "dromond/sha.roundConstants" = some 0 := by kernel_rfl
theorem tKs : (Tryd.prog.globals[0]?).map (·.type) = some 67 := by kernel_rfl

/-- What the row lists. -/
abbrev listed : List (String × DataW Unit) := [("dromond/sha.roundConstants", Rows.laid_dromond_sha_roundConstants)]

theorem listed_eq : (Rows.laid_dromond_sha_roundConstants : DataW Unit) = .agg (ks.map fun (n : Nat) => .lit (.int .u64 (n : Int))) := by rfl

/-- The door's own heap meets the condition. -/
theorem door_met (os : Os) (args : Array Value) : laidMetH Tryd.prog listed ((World.doorLaid Tryd.prog 400 os).forCall (fun _ _ => 0) ⟨#[], args, []⟩).memory :=
  laidMetH_of_parts3 (fuel := 8) (laidMet_of_run' 8 (by kernel_rfl) (by kernel_rfl)) (by kernel_rfl) (by kernel_rfl)

theorem kon_of_laid {W : World} (h : laidMetH Tryd.prog listed W) : Kon W := by
  rw [MakeChecks.laidMetH_plain _ _ _ (by kernel_rfl)] at h
  obtain ⟨ps, ⟨g0, t0, cs0, f0, p0, q0, hg0, ht0, hv0, hd0, _⟩, _⟩ := h
  obtain rfl := Option.some.inj (gKs.symm.trans hg0)
  obtain rfl := Option.some.inj (tKs.symm.trans ht0)
  obtain ⟨xs, m1, rfl, hx1, hlen, hn, hel⟩ := DataW.trod_array under80_64 hd0
  have c1 : Tryd.prog.cellsOf 42 = 1 := by kernel_rfl
  have c80 : Tryd.prog.cellsOf 67 = 80 := by kernel_rfl
  rw [c80] at hlen
  simp only [Prod.mk.injEq] at hx1
  have hxs := hx1.1
  rw [listed_eq] at hxs
  simp only [DataW.agg.injEq] at hxs
  have hcs : cs0 = valsK .u64 ks := by
    apply Array.ext_getElem?
    intro i
    by_cases hi : i < 80
    · have h := hel i hi
      rw [c1, Nat.mul_one, List.getElem?_eq_getElem (by omega)] at h
      obtain ⟨k, e1, e2, -⟩ := DataW.trod_int Tryd.underlying42 h
      have e3 := congrArg (fun l => l[i]?) hxs
      simp only [List.getElem?_map, ks_get i hi, Option.map_some, List.getElem?_eq_getElem (show i < xs.length by omega), e2, Option.some.injEq, DataW.lit.injEq, Lit.int.injEq, true_and] at e3
      have e4 : cs0.toList[i]? = some (.int .u64 k) := by
        have := congrArg (fun l => l[0]?) e1
        simpa [List.getElem?_take, List.getElem?_drop] using this
      rw [← Array.getElem?_toList, e4, valsK_get _ _ _ _ (ks_get i hi), ← e3]
    · rw [Array.getElem?_eq_none (by rw [← Array.length_toList]; omega), Array.getElem?_eq_none (by rw [valsK_size, ks_length]; omega)]
  unfold World.var? at hv0
  rw [gKs] at hv0
  simp only [Option.bind_some] at hv0
  revert hv0
  cases hb : W.heap[0]? with
  | none => intro h; cases h
  | some o =>
    cases o with
    | cells cs T fr => intro h; cases h; exact ⟨T, fr, by rw [hb, hcs]⟩
    | _ => intro h; cases h

end Go.Proofs.YtfahmbkeibeceaaDoor
