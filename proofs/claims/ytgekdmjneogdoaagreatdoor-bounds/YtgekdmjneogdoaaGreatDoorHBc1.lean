import Derived.Test.YtgekdmjneogdoaaGreatDoorHBc0
import Derived.Test.YtgekdmjneogdoaaGreatDoorCards
import Derived.Test.YtgekdmjneogdoaaGreatDoorHKbou
import Derived.Test.YtgekdmjneogdoaaGreatDoorTie
import Derived.SevenTiedAt
namespace Go.Proofs.YtgekdmjneogdoaaGreatDoor
open Go.RowKit Go.Lib Go.ChangeShapes Go.WideShapes Go.ChangeAt Go.ChangeMaps

theorem bounds_holds : Rows.BoundsSaid :=
  OpenClaim.holds_of_wide 10 Tryz.f10 rfl rfl rfl rfl rfl rfl rfl ⟨rfl, rfl, rfl, rfl, rfl⟩ rfl rfl rfl rfl rfl bounds_named Tryz.func10 bounds_facts bounds_inst bounds_wrap
    (fun os started H enc _ => bounds_lifted os started H enc)

theorem bounds_card : Rows.BoundsCardSaid :=
  tied_goes .later true Rows.boundsCard.laidKinds true Rows.boundsCard.stood.harness true bounds_holds (by kernel_rfl) bounds_row_tie rfl ⟨rfl, rfl⟩ (by kernel_rfl) rfl
    (fun f fn hf hfn => by
      obtain rfl : f = 10 := Option.some.inj ((show Tryz.prog.funcNamed "gauge/gaugekeep.Bounds" = some 10 by kernel_rfl).symm.trans hf) |>.symm
      obtain rfl : fn = Tryz.f10 := (Option.some.inj (Tryz.func10.symm.trans hfn)).symm
      exact ⟨by kernel_rfl, fun j t ht => by
        rw [Tryz.params10] at ht
        have hm : t ∈ [47, 3, 3] := by simpa using Array.mem_of_getElem? ht
        have hall : ([47, 3, 3].all fun u => !Tryz.prog.wantsStandIn u) = true := by kernel_rfl
        exact (show Tryz.prog.wantsStandIn t = false by simpa using List.all_eq_true.1 hall t hm)⟩)
    bounds_goes
#print axioms bounds_card
end Go.Proofs.YtgekdmjneogdoaaGreatDoor
