import Derived.Test.YtgekdmjneogdoaaGreatDoorZRf
import Derived.Test.YtgekdmjneogdoaaGreatDoorZSetDig
import Derived.Test.YtgekdmjneogdoaaGreatDoorZTabs
import Derived.Deep.DeepCutAuto
import Derived.WalkMore
import Derived.Deep.LoopGhost
import Derived.BigGuardPart
namespace Go.Proofs.YtgekdmjneogdoaaGreatDoor
open Go.RowKit Go.Sort

/-- a row of bytes of our own with room for 24, and that nothing else has turned since W -/
structure Row (W : World) (g : Nat) (w : World) (l : List UInt8) : Prop where
  own : w.ownsRow g 5 1 (.slice (some ⟨g, 0, none⟩) l.length 24) l.length (l.map encB)
  grow : W.grownBy w (some g)

theorem Row.step {W w w' : World} {g : Nat} {l m : List UInt8} {o : Obj} {xs : List Value} {n : Nat} (h : Row W g w l) (hx : xs = (l.map encB) ++ m.map encB) (hn : n = l.length + m.length)
    (h1 : w'.ownsRow g 5 1 (.slice (some ⟨g, 0, none⟩) n 24) n xs) (h2 : (w.alloc o).grownBy w' (some g)) : Row W g w' (l ++ m) := by
  subst hx hn
  refine ⟨?_, ?_⟩
  · rw [List.length_append, List.map_append]; exact h1
  · refine ⟨h2.os.trans h.grow.os, h2.tape.trans h.grow.tape, h2.output.trans h.grow.output, ?_, ?_⟩
    · have a := h.grow.size
      have b := h2.size
      simp at b
      omega
    · intro k hk hne
      have a := h.grow.size
      rw [h2.block k (by simp; omega) hne, ← h.grow.block k hk hne]
      exact Below.heap_alloc w o k (by omega)

theorem Row.cell {W w : World} {g b o : Nat} {l : List UInt8} {v : Value} (h : Row W g w l) (hb : b ≠ g) (hc : W.cell? ⟨b, o, none⟩ = some v) : w.cell? ⟨b, o, none⟩ = some v := by
  have hl := lt_of_cell hc
  rw [World.cell?_of_block (w := W) (h.grow.block b hl (by simpa using hb))]; exact hc

end Go.Proofs.YtgekdmjneogdoaaGreatDoor
