import Derived.Test.YtgekdmjneogdoaaGreatDoorXExact
import Derived.Test.YtgekdmjneogdoaaGreatDoorXNear
import Derived.Test.YtgekdmjneogdoaaGreatDoorXParse2
import Derived.Test.YtgekdmjneogdoaaGreatDoorXReadNeg
import Derived.Test.YtgekdmjneogdoaaGreatDoorXReadPos
namespace Go.Proofs.YtgekdmjneogdoaaGreatDoor
open Go.RowKit

theorem bytes_ok (s : ByteArray) (h : (s.data.toList.all fun c => (bits BinOp.or IntKind.u8 (c.toNat : Int) 32 == 120) == false && c.toNat != 95) = true) :
    (∀ (i : Nat) (h : i < s.size), (bits BinOp.or IntKind.u8 (s[i].toNat : Int) 32 == 120) = false) ∧ (∀ (i : Nat) (h : i < s.size), (s[i].toNat : Int) ≠ 95) := by
  have key : ∀ (i : Nat) (hi : i < s.size), ((bits BinOp.or IntKind.u8 (s[i].toNat : Int) 32 == 120) == false && s[i].toNat != 95) = true := by
    intro i hi
    have hm : s[i] ∈ s.data.toList := by
      have : s[i] = s.data[i]'hi := rfl
      rw [this]
      exact Array.getElem_mem_toList hi
    exact List.all_eq_true.1 h _ hm
  constructor
  · intro i hi
    have := key i hi
    simp only [Bool.and_eq_true, beq_iff_eq] at this
    exact this.1
  · intro i hi
    have := key i hi
    simp only [Bool.and_eq_true, bne_iff_ne] at this
    omega

/-! the document's examples, of Number -/
end Go.Proofs.YtgekdmjneogdoaaGreatDoor
