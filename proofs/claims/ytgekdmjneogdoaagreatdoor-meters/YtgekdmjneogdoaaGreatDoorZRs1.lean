import Derived.Test.YtgekdmjneogdoaaGreatDoorZBd3
namespace Go.Proofs.YtgekdmjneogdoaaGreatDoor
open Go.RowKit Go.Shelf Go.Maps

/-! the values in another order -/
theorem getD_mem (D : List Nat) (i : Nat) (h : i < D.length) : D.getD i 0 ∈ D := by
  rw [List.getD_eq_getElem?_getD, List.getElem?_eq_getElem h]
  exact List.getElem_mem _

/-- what the meter answers hangs on the bag alone -/
theorem rank_perm {L M : List Nat} (h : L.Perm M) (hL : ∀ x ∈ L, isB x) (r : Nat) : rankOf (fun x => L.count x) (ksOf L) r = rankOf (fun x => M.count x) (ksOf M) r := by
  have hM : ∀ x ∈ M, isB x := fun x hx => hL x (h.mem_iff.2 hx)
  have e1 : ksOf L = ksOf M := sorted_eq _ _ (ksOf_sorted L hL) (ksOf_sorted M hM) (fun x => by rw [mem_ksOf, mem_ksOf]; exact h.mem_iff)
  have e2 : (fun x => L.count x) = fun x => M.count x := by
    funext x
    exact h.count_eq x
  rw [e1, e2]

end Go.Proofs.YtgekdmjneogdoaaGreatDoor
