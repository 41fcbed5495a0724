import Derived.Test.YtgekdmjneogdoaaGreatDoorZTabs
import Derived.Lib.Itoa
import Derived.Lib.ItoaNum
import Derived.Sort.Row
namespace Go.Proofs.YtgekdmjneogdoaaGreatDoor
open Go.RowKit Go.Sort Go.Lib

abbrev encB : UInt8 → Value := fun b => Value.int .u8 (b.toNat : Int)

end Go.Proofs.YtgekdmjneogdoaaGreatDoor
