import Derived.Test.YtgjhjfldocapjaaGreatDoorCards
import Derived.Test.YtgjhjfldocapjaaGreatDoorHFc0
import Derived.Test.YtgjhjfldocapjaaGreatDoorTie
import Derived.SevenTiedAt
namespace Go.Proofs.YtgjhjfldocapjaaGreatDoor
open Go.RowKit Go.Lib Go.ChangeShapes Go.WideShapes Go.ChangeAt Go.ChangeMaps

theorem forgotten_holds : Rows.ForgottenSaid :=
  OpenClaim.holds_of_wide 12 Tryz.f12 rfl rfl rfl rfl rfl rfl rfl ⟨rfl, rfl, rfl, rfl, rfl⟩ rfl rfl rfl rfl rfl forgotten_named Tryz.func12 forgotten_facts forgotten_inst forgotten_wrap
    (fun os started H enc _ => forgotten_lifted os started H enc)

theorem forgotten_card : Rows.ForgottenCardSaid :=
  Claim7.holds_tied_plain_at .later [] Rows.forgottenCard.laidKinds true Rows.forgottenCard.stood.harness true forgotten_holds (fun _ h => by cases h) (by kernel_rfl) (fun _ h => by cases h) forgotten_row_tie rfl ⟨rfl, rfl⟩ (by kernel_rfl) rfl
    (fun f fn hf hfn => by
      obtain rfl : f = 12 := Option.some.inj ((show Tryz.prog.funcNamed "gauge/gaugekeep.Forgotten" = some 12 by kernel_rfl).symm.trans hf) |>.symm
      obtain rfl : fn = Tryz.f12 := (Option.some.inj (Tryz.func12.symm.trans hfn)).symm
      exact ⟨by kernel_rfl, fun j t ht => by
        rw [Tryz.params12] at ht
        have hm : t ∈ [3, 3, 3, 32] := by simpa using Array.mem_of_getElem? ht
        have hall : ([3, 3, 3, 32].all fun u => !Tryz.prog.wantsStandIn u) = true := by kernel_rfl
        exact (show Tryz.prog.wantsStandIn t = false by simpa using List.all_eq_true.1 hall t hm)⟩)
    (by kernel_rfl)
#print axioms forgotten_card
end Go.Proofs.YtgjhjfldocapjaaGreatDoor
