import Derived.Test.YtgekdmjneogdoaaGreatDoorCards
import Derived.Test.YtgekdmjneogdoaaGreatDoorHKris
import Derived.Test.YtgekdmjneogdoaaGreatDoorHRc0
import Derived.Test.YtgekdmjneogdoaaGreatDoorTie
import Derived.SevenTiedAt
namespace Go.Proofs.YtgekdmjneogdoaaGreatDoor
open Go.RowKit Go.Lib Go.ChangeShapes Go.WideShapes Go.ChangeAt Go.ChangeMaps

theorem rising_holds : Rows.RisingSaid :=
  OpenClaim.holds_of_wide 11 Tryz.f11 rfl rfl rfl rfl rfl rfl rfl ⟨rfl, rfl, rfl, rfl, rfl⟩ rfl rfl rfl rfl rfl rising_named Tryz.func11 rising_facts rising_inst rising_wrap
    (fun os started H enc _ => rising_lifted os started H enc)

theorem rising_card : Rows.RisingCardSaid :=
  tied_goes .later true Rows.risingCard.laidKinds true Rows.risingCard.stood.harness true rising_holds (by kernel_rfl) rising_row_tie rfl ⟨rfl, rfl⟩ (by kernel_rfl) rfl
    (fun f fn hf hfn => by
      obtain rfl : f = 11 := Option.some.inj ((show Tryz.prog.funcNamed "gauge/gaugekeep.Rising" = some 11 by kernel_rfl).symm.trans hf) |>.symm
      obtain rfl : fn = Tryz.f11 := (Option.some.inj (Tryz.func11.symm.trans hfn)).symm
      exact ⟨by kernel_rfl, fun j t ht => by
        rw [Tryz.params11] at ht
        have hm : t ∈ [47, 3, 3, 3] := by simpa using Array.mem_of_getElem? ht
        have hall : ([47, 3, 3, 3].all fun u => !Tryz.prog.wantsStandIn u) = true := by kernel_rfl
        exact (show Tryz.prog.wantsStandIn t = false by simpa using List.all_eq_true.1 hall t hm)⟩)
    rising_goes
#print axioms rising_card
end Go.Proofs.YtgekdmjneogdoaaGreatDoor
