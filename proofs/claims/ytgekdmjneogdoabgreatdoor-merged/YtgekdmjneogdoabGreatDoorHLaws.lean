import Derived.Test.YtgekdmjneogdoabGreatDoorProg
import Derived.WalkKit
import Derived.WalkSpells
import Derived.WalkLawsBesides
namespace Go.Proofs.YtgekdmjneogdoabGreatDoor
open Go.RowKit

theorem hide {p : Prop} (h : p) : Hid p := h
theorem unhide {p : Prop} (h : Hid p) : p := h
theorem retU {a b : Int} (h : a = b) : Ending.returned (.int .u64 a) = .returned (.int .u64 b) := by rw [h]
theorem retI {a b : Int} (h : a = b) : Ending.returned (.int .i64 a) = .returned (.int .i64 b) := by rw [h]

theorem shr_nat (a s : Nat) : (a : Int) / 2 ^ s = ((a / 2 ^ s : Nat) : Int) := by norm_cast
theorem shl_nat (a s : Nat) : IntKind.u64.wrap ((a : Int) * 2 ^ s) = ((a * 2 ^ s % 18446744073709551616 : Nat) : Int) := by
  rw [IntKind.wrap_u64, Int.natCast_emod, Int.natCast_mul, Int.natCast_pow]; rfl

theorem and1 (u : Nat) (h : u < 18446744073709551616) : bits BinOp.and IntKind.u64 (u : Int) 1 = ((u % 2 : Nat) : Int) := by
  have := u64_and_nat u 1 h (by omega); rw [nat_mask1] at this; exact this

theorem or1 (u : Nat) (h : u < 18446744073709551616) : bits BinOp.or IntKind.u64 (u : Int) 1 = ((u ||| 1 : Nat) : Int) := u64_or_nat u 1 h (by omega)

theorem i64_and63 (s : Nat) (h : s < 64) : bits BinOp.and IntKind.i64 (s : Int) 63 = (s : Int) := by
  have : ∀ s : Fin 64, bits BinOp.and IntKind.i64 ((s.val : Nat) : Int) 63 = (s.val : Int) := by decide
  exact this ⟨s, h⟩

end Go.Proofs.YtgekdmjneogdoabGreatDoor
