import Derived.Test.YtgekdmjneogdoaaGreatDoorZChW7
import Derived.Test.YtgekdmjneogdoaaGreatDoorRows
import Derived.Test.YtgekdmjneogdoaaGreatDoorZTabs
import Derived.Lib.LaidU8
import Derived.Lib.LaidTab
import Derived.Deep.Strs
import Derived.OpenShut
import Derived.Shelf.Vars
namespace Go.Proofs.YtgekdmjneogdoaaGreatDoor
open Go.RowKit Go.Lib

/-! what the row's condition says of the tables' cells -/
section
variable {H : Type} {enc : TypeId × Value → H} {P : Program} {w : World} {base : Nat} {sp : Nat → Bool} {held : Bool} {fuel : Nat} {t : TypeId} {cs : List Value} {x : DataW H × List MemPlace}

end

end Go.Proofs.YtgekdmjneogdoaaGreatDoor
