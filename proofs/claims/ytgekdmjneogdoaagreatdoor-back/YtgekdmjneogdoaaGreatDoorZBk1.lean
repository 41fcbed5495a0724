import Derived.Test.YtgekdmjneogdoaaGreatDoorZBk0
import Derived.Test.YtgekdmjneogdoaaGreatDoorCards
import Derived.Test.YtgekdmjneogdoaaGreatDoorZKbac
import Derived.Test.YtgekdmjneogdoaaGreatDoorTie
import Derived.SevenTiedAt
namespace Go.Proofs.YtgekdmjneogdoaaGreatDoor
open Go.RowKit Go.Lib Go.ChangeShapes Go.WideShapes Go.ChangeAt Go.ChangeMaps

theorem back_holds : Rows.BackSaid :=
  OpenClaim.holds_of_wide 5 Tryz.f5 rfl rfl rfl rfl rfl rfl rfl ⟨rfl, rfl, rfl, rfl, rfl⟩ rfl rfl rfl rfl rfl back_named Tryz.func5 back_facts back_inst back_wrap
    (fun os started H enc _ => back_lifted os started H enc)

theorem back_card : Rows.BackCardSaid :=
  tied_goes .later true Rows.backCard.laidKinds true Rows.backCard.stood.harness true back_holds (by kernel_rfl) back_row_tie rfl ⟨rfl, rfl⟩ (by kernel_rfl) rfl
    (fun f fn hf hfn => by
      obtain rfl : f = 5 := Option.some.inj ((show Tryz.prog.funcNamed "gauge/gaugekeep.Back" = some 5 by kernel_rfl).symm.trans hf) |>.symm
      obtain rfl : fn = Tryz.f5 := (Option.some.inj (Tryz.func5.symm.trans hfn)).symm
      exact ⟨by kernel_rfl, fun j t ht => by
        rw [Tryz.params5] at ht
        have hm : t ∈ [25] := by simpa using Array.mem_of_getElem? ht
        have hall : ([25].all fun u => !Tryz.prog.wantsStandIn u) = true := by kernel_rfl
        exact (show Tryz.prog.wantsStandIn t = false by simpa using List.all_eq_true.1 hall t hm)⟩)
    back_goes
#print axioms back_card
end Go.Proofs.YtgekdmjneogdoaaGreatDoor
