import Derived.Test.YtgekdmjneogdoaaGreatDoorYAk1
import Derived.Test.YtgekdmjneogdoaaGreatDoorYLd3
import Derived.Test.YtgekdmjneogdoaaGreatDoorYMq4
namespace Go.Proofs.YtgekdmjneogdoaaGreatDoor
open Go.RowKit Go.Lib Go.ChangeShapes Go.WideShapes Go.ChangeAt Go.ChangeMaps

theorem halves : SortsTo [halfN, halfN] [halfN] := sorts_one halfN 2 half_num (by omega) (by omega)

theorem wf64 {x : Int} (h : (Lit.int .i64 x).wf = true) : -9223372036854775808 ≤ x ∧ x ≤ 9223372036854775807 := by
  simp only [Lit.wf, Bool.and_eq_true, decide_eq_true_eq] at h
  exact h

theorem laidOut : laidOutB Tryz.prog = true := by kernel_rfl
end Go.Proofs.YtgekdmjneogdoaaGreatDoor
