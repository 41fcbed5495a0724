import Derived.Test.YtgekdmjneogdoaaGreatDoorZAk1
import Derived.Test.YtgekdmjneogdoaaGreatDoorZLd3
import Derived.Test.YtgekdmjneogdoaaGreatDoorZMq4
namespace Go.Proofs.YtgekdmjneogdoaaGreatDoor
open Go.RowKit Go.Lib Go.ChangeShapes Go.WideShapes Go.ChangeAt Go.ChangeMaps

theorem halves : SortsTo [halfN, halfN] [halfN] := sorts_one halfN 2 half_num (by omega) (by omega)

theorem wfu64 {x : Int} (h : (Lit.int .u64 x).wf = true) : ∃ n : Nat, x = (n : Int) ∧ n < 18446744073709551616 := by
  simp only [Lit.wf, Bool.and_eq_true, decide_eq_true_eq] at h
  have h2 : 0 ≤ x ∧ x ≤ 18446744073709551615 := h
  exact ⟨x.toNat, by omega, by omega⟩

end Go.Proofs.YtgekdmjneogdoaaGreatDoor
