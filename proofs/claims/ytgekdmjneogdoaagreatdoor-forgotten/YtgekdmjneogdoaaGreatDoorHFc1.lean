import Derived.Test.YtgekdmjneogdoaaGreatDoorCards
import Derived.Test.YtgekdmjneogdoaaGreatDoorHFc0
import Derived.Test.YtgekdmjneogdoaaGreatDoorHKfor
import Derived.Test.YtgekdmjneogdoaaGreatDoorTie
import Derived.SevenTiedAt
namespace Go.Proofs.YtgekdmjneogdoaaGreatDoor
open Go.RowKit Go.Lib Go.ChangeShapes Go.WideShapes Go.ChangeAt Go.ChangeMaps

theorem forgotten_holds : Rows.ForgottenSaid :=
  OpenClaim.holds_of_wide 12 Tryz.f12 rfl rfl rfl rfl rfl rfl rfl ⟨rfl, rfl, rfl, rfl, rfl⟩ rfl rfl rfl rfl rfl forgotten_named Tryz.func12 forgotten_facts forgotten_inst forgotten_wrap
    (fun os started H enc _ => forgotten_lifted os started H enc)

theorem forgotten_card : Rows.ForgottenCardSaid :=
  tied_goes .later true Rows.forgottenCard.laidKinds true Rows.forgottenCard.stood.harness true forgotten_holds (by kernel_rfl) forgotten_row_tie rfl ⟨rfl, rfl⟩ (by kernel_rfl) rfl
    (fun f fn hf hfn => by
      obtain rfl : f = 12 := Option.some.inj ((show Tryz.prog.funcNamed "gauge/gaugekeep.Forgotten" = some 12 by kernel_rfl).symm.trans hf) |>.symm
      obtain rfl : fn = Tryz.f12 := (Option.some.inj (Tryz.func12.symm.trans hfn)).symm
      exact ⟨by kernel_rfl, fun j t ht => by
        rw [Tryz.params12] at ht
        have hm : t ∈ [3, 3, 3, 32] := by simpa using Array.mem_of_getElem? ht
        have hall : ([3, 3, 3, 32].all fun u => !Tryz.prog.wantsStandIn u) = true := by kernel_rfl
        exact (show Tryz.prog.wantsStandIn t = false by simpa using List.all_eq_true.1 hall t hm)⟩)
    forgotten_goes
#print axioms forgotten_card
end Go.Proofs.YtgekdmjneogdoaaGreatDoor
