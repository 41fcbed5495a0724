import Derived.Test.YtgjhjfldocapjaaGreatDoorHChU3
namespace Go.Proofs.YtgjhjfldocapjaaGreatDoor
open Go.RowKit

/-! the document's examples, of Pack and Unpack -/
theorem chunk_two : chunkN [(0, 7), (0, 7)] = [0, 2, 0, 0, 0, 0, 0, 0, 0, 0, 0, 0, 0, 0, 0, 0, 0, 7, 0] := by decide +kernel
theorem unpack_zero : unpackN [0, 0] = some [] := by decide +kernel
theorem chunk_one : chunkN [(5, 7)] = [0, 1, 0, 0, 0, 0, 0, 0, 0, 5, 0, 0, 0, 0, 0, 0, 0, 7] := by decide +kernel
end Go.Proofs.YtgjhjfldocapjaaGreatDoor
