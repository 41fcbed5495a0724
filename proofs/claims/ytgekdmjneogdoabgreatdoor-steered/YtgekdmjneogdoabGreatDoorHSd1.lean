import Derived.Test.YtgekdmjneogdoabGreatDoorCards
import Derived.Test.YtgekdmjneogdoabGreatDoorHKste
import Derived.Test.YtgekdmjneogdoabGreatDoorHSd0
import Derived.Test.YtgekdmjneogdoabGreatDoorTie
import Derived.SevenTiedAt
namespace Go.Proofs.YtgekdmjneogdoabGreatDoor
open Go.RowKit Go.Lib Go.ChangeShapes Go.WideShapes Go.ChangeAt Go.ChangeMaps

theorem steered_holds : Rows.SteeredSaid :=
  OpenClaim.holds_of_wide 4 Tryz.f4 rfl rfl rfl rfl rfl rfl rfl ⟨rfl, rfl, rfl, rfl, rfl⟩ rfl rfl rfl rfl rfl steered_named Tryz.func4 steered_facts steered_inst steered_wrap
    (fun os started H enc _ => steered_lifted os started H enc)

theorem steered_card : Rows.SteeredCardSaid :=
  tied_goes .later true Rows.steeredCard.laidKinds true Rows.steeredCard.stood.harness true steered_holds (by kernel_rfl) steered_row_tie rfl ⟨rfl, rfl⟩ (by kernel_rfl) rfl
    (fun f fn hf hfn => by
      obtain rfl : f = 4 := Option.some.inj ((show Tryz.prog.funcNamed "gauge/gaugekeep.Steered" = some 4 by kernel_rfl).symm.trans hf) |>.symm
      obtain rfl : fn = Tryz.f4 := (Option.some.inj (Tryz.func4.symm.trans hfn)).symm
      exact ⟨by kernel_rfl, fun j t ht => by
        rw [Tryz.params4] at ht
        have hm : t ∈ [3, 3, 3, 33] := by simpa using Array.mem_of_getElem? ht
        have hall : ([3, 3, 3, 33].all fun u => !Tryz.prog.wantsStandIn u) = true := by kernel_rfl
        exact (show Tryz.prog.wantsStandIn t = false by simpa using List.all_eq_true.1 hall t hm)⟩)
    steered_goes
#print axioms steered_card
end Go.Proofs.YtgekdmjneogdoabGreatDoor
