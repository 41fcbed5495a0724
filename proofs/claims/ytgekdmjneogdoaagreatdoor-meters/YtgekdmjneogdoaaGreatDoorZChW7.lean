import Derived.Test.YtgekdmjneogdoaaGreatDoorZChW6
import Derived.Laws.BytesString
namespace Go.Proofs.YtgekdmjneogdoaaGreatDoor
open Go.RowKit

def bytesOf (l : List Nat) : ByteArray := ⟨(l.map UInt8.ofNat).toArray⟩

abbrev Under (w : World) : Nat → Prop := fun k => k < w.heap.size

end Go.Proofs.YtgekdmjneogdoaaGreatDoor
