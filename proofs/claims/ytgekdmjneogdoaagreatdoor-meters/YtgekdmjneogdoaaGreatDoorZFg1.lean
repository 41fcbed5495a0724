import Derived.Test.YtgekdmjneogdoaaGreatDoorZAk2
import Derived.Test.YtgekdmjneogdoaaGreatDoorZPk
namespace Go.Proofs.YtgekdmjneogdoaaGreatDoor
open Go.RowKit Go.Shelf Go.Maps

/-! one sample, so many slices ago -/
def oneBag (n old : Nat) (x : Nat) : List (List Nat) := (List.range n).map fun i => if i = old then [x] else []

/-- a meter that has its one sample -/
def Has (K : Nat → Prop) (w : World) (mb W C n old : Nat) : Prop := ∃ (kb : Nat) (ms : List (Option Nat)), ms.length = n ∧ Mtr K w mb kb W C MS.zero ms (oneBag n old 4607182418800017408)

theorem Has.drewN {K : Nat → Prop} {w : World} {mb W C n old : Nat} (h : Has K w mb W C n old) (q : Nat) : Has K (w.drewN q) mb W C n old := by
  obtain ⟨kb, ms, hl, hM⟩ := h
  exact ⟨kb, ms, hl, hM.drewN q⟩

end Go.Proofs.YtgekdmjneogdoaaGreatDoor
