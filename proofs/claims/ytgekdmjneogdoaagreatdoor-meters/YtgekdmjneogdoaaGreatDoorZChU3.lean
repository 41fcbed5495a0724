import Derived.Test.YtgekdmjneogdoaaGreatDoorZChR6
import Derived.Test.YtgekdmjneogdoaaGreatDoorZChU2
namespace Go.Proofs.YtgekdmjneogdoaaGreatDoor
open Go.RowKit

/-- the variables of readSamples, and what lies below -/
structure Vars (w W : World) (a b : Nat) (v : Value) : Prop where
  va : Var W a v
  vb : Var W b (.bool false)
  kept : Kept (Under w) w W
  ab : a ≠ b
  na : w.heap.size ≤ a
  nb : w.heap.size ≤ b

theorem Vars.keep {w W W1 : World} {a b z q : Nat} {v : Value} (h : Vars w W a b v) (hz : w.heap.size ≤ z) (hq : w.heap.size ≤ q) (haz : a ≠ z) (haq : a ≠ q) (hbz : b ≠ z) (hbq : b ≠ q) (hk : Kept (But2 W z q) W W1) : Vars w W1 a b v :=
  ⟨h.va.kept (K := But2 W z q) ⟨h.va.cell.2.2, haz, haq⟩ hk, h.vb.kept (K := But2 W z q) ⟨h.vb.cell.2.2, hbz, hbq⟩ hk,
    h.kept.trans (hk.sub (fun k (h' : k < w.heap.size) => ⟨Nat.lt_of_lt_of_le h' h.kept.size, by omega, by omega⟩)), h.ab, h.na, h.nb⟩

end Go.Proofs.YtgekdmjneogdoaaGreatDoor

namespace Go.Proofs.YtgekdmjneogdoaaGreatDoor
open Go.RowKit

theorem cell_two_new (w : World) (x y : Value) (t : TypeId) : ∀ j u, [x, y][j]? = some u → (w.alloc (.cells #[x, y] t)).cell? ((⟨w.heap.size, 0, none⟩ : Addr).add j) = some u := by
  intro j u hj
  have hh := heap_alloc_new w (.cells #[x, y] t)
  match j, hj with
  | 0, hj =>
    simp at hj
    subst hj
    rw [show (⟨w.heap.size, 0, none⟩ : Addr).add 0 = ⟨w.heap.size, 0, none⟩ by simp [Addr.add], cell_of_row _ _ 0 _ t _ hh]; rfl
  | 1, hj =>
    simp at hj
    subst hj
    rw [show (⟨w.heap.size, 0, none⟩ : Addr).add 1 = ⟨w.heap.size, 1, none⟩ by simp [Addr.add], cell_of_row _ _ 1 _ t _ hh]; rfl

theorem Var.grown {w w' : World} {a : Nat} {v : Value} {row : Option Nat} (h : Var w a v) (hg : w.grownBy w' row) (hr : some a ≠ row) : Var w' a v := by
  have hl := h.cell.2.2
  obtain ⟨ty, hh⟩ := h
  exact ⟨ty, (hg.block a hl hr).trans hh⟩

theorem cell_two_at (w : World) (x y : Value) (t : TypeId) (n : Nat) (hn : n = w.heap.size) : ∀ j u, [x, y][j]? = some u → (w.alloc (.cells #[x, y] t)).cell? ((⟨n, 0, none⟩ : Addr).add j) = some u := by
  subst hn; exact cell_two_new w x y t

end Go.Proofs.YtgekdmjneogdoaaGreatDoor

namespace Go.Proofs.YtgekdmjneogdoaaGreatDoor
open Go.RowKit

theorem CTabs.below {w w' : World} (h : CTabs w) (hG : GK (Under w)) (hb : Below w.heap.size w w') : CTabs w' := h.kept hG (Kept.of_below hb)

theorem GK.below {w w' : World} (hG : GK (Under w)) (hb : Below w.heap.size w w') : GK (Under w') := ⟨Nat.lt_of_lt_of_le hG.1 hb.size, Nat.lt_of_lt_of_le hG.2 hb.size⟩

end Go.Proofs.YtgekdmjneogdoaaGreatDoor
