import Derived.Test.YtgekdmjneogdoaaGreatDoorZLaws
import Derived.Test.YtgekdmjneogdoaaGreatDoorZParse2
import Derived.Deep.LoopGhost
import Derived.Deep.DeepCutAuto
import Derived.WalkMore
import Derived.BigGuardPart
namespace Go.Proofs.YtgekdmjneogdoaaGreatDoor
open Go.RowKit

theorem byte_lt (c : UInt8) : (c.toNat : Int) < 256 := by have := c.toNat_lt; omega

/-- the first test on this slot in a text of code -/
def condOn (t : Nat) : Code → Option Code
  | .cond (.tmp n) a b => if n = t then some (.cond (.tmp n) a b) else match condOn t a with
    | some c => some c
    | none => condOn t b
  | .seq a b => match condOn t a with
    | some c => some c
    | none => condOn t b
  | .block _ c => condOn t c
  | .scope c => condOn t c
  | .loop c => condOn t c
  | _ => none
def rfExpOf (p : Func) : Code := (p.body.bind (condOn 161)).getD .skip

end Go.Proofs.YtgekdmjneogdoaaGreatDoor
