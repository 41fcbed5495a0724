import Derived.Test.YtgekdmjneogdoaaGreatDoorCards
import Derived.Test.YtgekdmjneogdoaaGreatDoorYKord
import Derived.Test.YtgekdmjneogdoaaGreatDoorYOc2
import Derived.Test.YtgekdmjneogdoaaGreatDoorTie
import Derived.SevenTiedAt
namespace Go.Proofs.YtgekdmjneogdoaaGreatDoor
open Go.RowKit Go.Lib Go.ChangeShapes Go.WideShapes Go.ChangeAt Go.ChangeMaps

theorem ordered_holds : Rows.OrderedSaid :=
  OpenClaim.holds_of_wide 6 Tryz.f6 rfl rfl rfl rfl rfl rfl rfl ⟨rfl, rfl, rfl, rfl, rfl⟩ rfl rfl rfl rfl rfl ordered_named Tryz.func6 ordered_facts ordered_inst ordered_wrap
    (fun os started H enc _ => ordered_lifted os started H enc)

theorem ordered_card : Rows.OrderedCardSaid :=
  tied_goes .later true Rows.orderedCard.laidKinds true Rows.orderedCard.stood.harness true ordered_holds (by kernel_rfl) ordered_row_tie rfl ⟨rfl, rfl⟩ (by kernel_rfl) rfl
    (fun f fn hf hfn => by
      obtain rfl : f = 6 := Option.some.inj ((show Tryz.prog.funcNamed "gauge/gaugekeep.Ordered" = some 6 by kernel_rfl).symm.trans hf) |>.symm
      obtain rfl : fn = Tryz.f6 := (Option.some.inj (Tryz.func6.symm.trans hfn)).symm
      exact ⟨by kernel_rfl, fun j t ht => by
        rw [Tryz.params6] at ht
        have hm : t ∈ [32, 32, 3] := by simpa using Array.mem_of_getElem? ht
        have hall : ([32, 32, 3].all fun u => !Tryz.prog.wantsStandIn u) = true := by kernel_rfl
        exact (show Tryz.prog.wantsStandIn t = false by simpa using List.all_eq_true.1 hall t hm)⟩)
    ordered_goes
#print axioms ordered_card
end Go.Proofs.YtgekdmjneogdoaaGreatDoor
