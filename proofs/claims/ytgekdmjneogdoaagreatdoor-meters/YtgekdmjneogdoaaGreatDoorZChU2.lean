import Derived.Test.YtgekdmjneogdoaaGreatDoorZChR2
import Derived.Recover
import Derived.Laws.Pointers
namespace Go.Proofs.YtgekdmjneogdoaaGreatDoor
open Go.RowKit

/-- all blocks that there are, but two -/
abbrev But2 (w : World) (z q : Nat) : Nat → Prop := fun k => k < w.heap.size ∧ k ≠ z ∧ k ≠ q

/-- a variable of one cell -/
def Var (w : World) (a : Nat) (v : Value) : Prop := ∃ ty, w.heap[a]? = some (.cells #[v] ty (0, 0))

theorem Var.cell {w : World} {a : Nat} {v : Value} (h : Var w a v) : w.cell? ⟨a, 0, none⟩ = some v ∧ w.frozen? ⟨a, 0, none⟩ = false ∧ a < w.heap.size := by
  obtain ⟨ty, hh⟩ := h
  refine ⟨?_, frozen_of_row w a 0 _ ty hh, (Array.getElem?_eq_some_iff.1 hh).1⟩
  rw [cell_of_row w a 0 _ ty _ hh]; rfl

theorem Var.kept {K : Nat → Prop} {w w' : World} {a : Nat} {v : Value} (h : Var w a v) (ha : K a) (hk : Kept K w w') : Var w' a v := by
  obtain ⟨ty, hh⟩ := h
  exact ⟨ty, (hk.block a ha).trans hh⟩

theorem Var.set {w : World} {a : Nat} {v : Value} (h : Var w a v) (u : Value) : Var (w.setCell ⟨a, 0, none⟩ u) a u := by
  obtain ⟨ty, hh⟩ := h
  have := heap_setCell_same w a 0 _ ty u hh
  exact ⟨ty, by simpa using this⟩

theorem Var.other {w : World} {a : Nat} {v : Value} (h : Var w a v) {p : Addr} (hp : a ≠ p.block) (u : Value) : Var (w.setCell p u) a v := by
  obtain ⟨ty, hh⟩ := h
  exact ⟨ty, (Below.heap_setCell w p u a hp).trans hh⟩

theorem Var.alloc {w : World} {a : Nat} {v : Value} (h : Var w a v) (o : Obj) : Var (w.alloc o) a v := by
  have hl := h.cell.2.2
  obtain ⟨ty, hh⟩ := h
  exact ⟨ty, (Below.heap_alloc w o a hl).trans hh⟩

/-- what readSamples has laid ahead of its first read -/
structure Laid (w W : World) (a b z : Nat) (s : ByteArray) : Prop where
  va : Var W a (.slice none 0 0)
  vb : Var W b (.bool false)
  rdr : RdrAt W z s 0
  kept : Kept (Under w) w W
  na : w.heap.size ≤ a
  nb : w.heap.size ≤ b
  nz : w.heap.size ≤ z
  ab : a ≠ b
  az : a ≠ z
  bz : b ≠ z

theorem laid (s : ByteArray) (w : World) (t1 t2 t3 : TypeId) : Laid w (((w.alloc (.cells #[.slice none 0 0] t1)).alloc (.cells #[.bool false] t2)).alloc (.cells #[.string s, .int .i64 0] t3)) w.heap.size (w.heap.size + 1) (w.heap.size + 1 + 1) s := by
  have e1 : (w.alloc (.cells #[.slice none 0 0] t1)).heap.size = w.heap.size + 1 := by simp
  have e2 : ((w.alloc (.cells #[.slice none 0 0] t1)).alloc (.cells #[.bool false] t2)).heap.size = w.heap.size + 1 + 1 := by simp
  have v1 : Var (w.alloc (.cells #[.slice none 0 0] t1)) w.heap.size (.slice none 0 0) := ⟨t1, heap_alloc_new w _⟩
  have v2 : Var ((w.alloc (.cells #[.slice none 0 0] t1)).alloc (.cells #[.bool false] t2)) (w.heap.size + 1) (.bool false) := by
    have := heap_alloc_new (w.alloc (.cells #[.slice none 0 0] t1)) (.cells #[.bool false] t2)
    rw [e1] at this
    exact ⟨t2, this⟩
  refine ⟨(v1.alloc _).alloc _, v2.alloc _, ?_, ?_, by omega, by omega, by omega, by omega, by omega, by omega⟩
  · have := heap_alloc_new ((w.alloc (.cells #[.slice none 0 0] t1)).alloc (.cells #[.bool false] t2)) (.cells #[.string s, .int .i64 0] t3)
    rw [e2] at this
    exact ⟨t3, this⟩
  · exact (((Kept.refl _ w).alloc (fun _ h => h) _).alloc (fun _ h => h) _).alloc (fun _ h => h) _

end Go.Proofs.YtgekdmjneogdoaaGreatDoor
