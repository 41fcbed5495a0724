import Derived.Test.YtgekdmjneogdoaaGreatDoorZEfgFrac
import Derived.Deep.RegionWith
import Derived.RangeFuncRecord
namespace Go.Proofs.YtgekdmjneogdoaaGreatDoor
open Go.RowKit Go.Sort

theorem Row.cells {W w : World} {g : Nat} {l : List UInt8} (h : Row W g w l) : ∀ (j : Nat) (v : Value), (l.map encB)[j]? = some v → w.cell? ((⟨g, 0, none⟩ : Addr).add j) = some v := by
  intro j v hj
  have hl : j < l.length := by
    have := (List.getElem?_eq_some_iff.1 hj).1
    simpa using this
  rcases h.own.2 with ⟨h1, h2⟩ | ⟨g', cap, cur, h1, h2, h3, h4, h5, h6, h7⟩
  · omega
  · have e : g' = g := by
      simp only [Value.slice.injEq, Option.some.injEq, Addr.mk.injEq] at h1
      exact h1.1.1.symm
    subst e
    have e2 : (⟨g', 0, none⟩ : Addr).add j = ⟨g', j, none⟩ := by
      unfold Addr.add
      split
      · rename_i h0; rw [h0]
      · simp
    rw [e2]
    unfold World.cell?
    rw [h3]
    simp only [Option.isSome_none, Bool.false_eq_true, if_false]
    rw [← h7, List.getElem?_take, if_pos (by omega)] at hj
    simpa using hj

end Go.Proofs.YtgekdmjneogdoaaGreatDoor
