import Derived.Test.YtgekdmjneogdoaaGreatDoorCards
import Derived.Test.YtgekdmjneogdoaaGreatDoorHKsma
import Derived.Test.YtgekdmjneogdoaaGreatDoorHSc0
import Derived.Test.YtgekdmjneogdoaaGreatDoorTie
import Derived.SevenTiedAt
namespace Go.Proofs.YtgekdmjneogdoaaGreatDoor
open Go.RowKit Go.Lib Go.ChangeShapes Go.WideShapes Go.ChangeAt Go.ChangeMaps

theorem small_holds : Rows.SmallSaid :=
  OpenClaim.holds_of_wide 8 Tryz.f8 rfl rfl rfl rfl rfl rfl rfl ⟨rfl, rfl, rfl, rfl, rfl⟩ rfl rfl rfl rfl rfl small_named Tryz.func8 small_facts small_inst small_wrap
    (fun os started H enc _ => small_lifted os started H enc)

theorem small_card : Rows.SmallCardSaid :=
  tied_goes .later true Rows.smallCard.laidKinds true Rows.smallCard.stood.harness true small_holds (by kernel_rfl) small_row_tie rfl ⟨rfl, rfl⟩ (by kernel_rfl) rfl
    (fun f fn hf hfn => by
      obtain rfl : f = 8 := Option.some.inj ((show Tryz.prog.funcNamed "gauge/gaugekeep.Small" = some 8 by kernel_rfl).symm.trans hf) |>.symm
      obtain rfl : fn = Tryz.f8 := (Option.some.inj (Tryz.func8.symm.trans hfn)).symm
      exact ⟨by kernel_rfl, fun j t ht => by
        rw [Tryz.params8] at ht
        have hm : t ∈ [3, 3, 25, 3] := by simpa using Array.mem_of_getElem? ht
        have hall : ([3, 3, 25, 3].all fun u => !Tryz.prog.wantsStandIn u) = true := by kernel_rfl
        exact (show Tryz.prog.wantsStandIn t = false by simpa using List.all_eq_true.1 hall t hm)⟩)
    small_goes
#print axioms small_card
end Go.Proofs.YtgekdmjneogdoaaGreatDoor
