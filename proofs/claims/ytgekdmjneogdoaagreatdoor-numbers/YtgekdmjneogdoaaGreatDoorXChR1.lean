import Derived.Test.YtgekdmjneogdoaaGreatDoorXChWr
import Derived.Deep.QuietTactic
import Derived.BigQuiet
import Derived.RegionDies
import Derived.Deep.RegionHeld3
import Derived.Recover
import Derived.Laws.Pointers
namespace Go.Proofs.YtgekdmjneogdoaaGreatDoor
open Go.RowKit

/-- the bit reader at z: of the bytes s so many bits have been read -/
def RdrAt (w : World) (z : Nat) (s : ByteArray) (pos : Nat) : Prop :=
  ∃ ty, w.heap[z]? = some (.cells #[.string s, .int .i64 pos] ty (0, 0))

/-- what a reader gives up with -/
abbrev few : PanicEntry := { v := .iface 140 (.agg #[]), recovered := false }

end Go.Proofs.YtgekdmjneogdoaaGreatDoor

namespace Go.Proofs.YtgekdmjneogdoaaGreatDoor
open Go.RowKit

theorem RdrAt.kept {K : Nat → Prop} {w w' : World} {z pos : Nat} {s : ByteArray} (h : RdrAt w z s pos) (hz : K z) (hk : Kept K w w') : RdrAt w' z s pos := by
  obtain ⟨ty, h⟩ := h
  exact ⟨ty, (hk.block z hz).trans h⟩

theorem RdrAt.size {w : World} {z pos : Nat} {s : ByteArray} (h : RdrAt w z s pos) : z < w.heap.size := by
  obtain ⟨ty, h⟩ := h
  exact (Array.getElem?_eq_some_iff.1 h).1

/-- what stays as it is while samples are read -/
structure FixR (K : Nat → Prop) (w : World) (z q : Nat) : Prop where
  zq : z ≠ q
  nz : ¬ K z
  nq : ¬ K q
  inK : ∀ k, K k → k < w.heap.size
  G : GK K

/-- how the reading stands: the reader, the trail -/
structure RS (K : Nat → Prop) (w w1 : World) (z q : Nat) (s : ByteArray) (pos : Nat) (t : Tr) : Prop where
  rdr : RdrAt w1 z s pos
  tr : TrAt w1 q t
  kept : Kept K w w1
  tabs : CTabs w1
  pos : pos ≤ 8 * s.size

end Go.Proofs.YtgekdmjneogdoaaGreatDoor

namespace Go.Proofs.YtgekdmjneogdoaaGreatDoor
open Go.RowKit

/-- a variable of one cell -/
def Var (w : World) (a : Nat) (v : Value) : Prop := ∃ ty, w.heap[a]? = some (.cells #[v] ty (0, 0))

theorem Var.cell {w : World} {a : Nat} {v : Value} (h : Var w a v) : w.cell? ⟨a, 0, none⟩ = some v ∧ w.frozen? ⟨a, 0, none⟩ = false ∧ a < w.heap.size := by
  obtain ⟨ty, hh⟩ := h
  refine ⟨?_, frozen_of_row w a 0 _ ty hh, (Array.getElem?_eq_some_iff.1 hh).1⟩
  rw [cell_of_row w a 0 _ ty _ hh]; rfl

theorem Var.kept {K : Nat → Prop} {w w' : World} {a : Nat} {v : Value} (h : Var w a v) (ha : K a) (hk : Kept K w w') : Var w' a v := by
  obtain ⟨ty, hh⟩ := h
  exact ⟨ty, (hk.block a ha).trans hh⟩

theorem Var.alloc {w : World} {a : Nat} {v : Value} (h : Var w a v) (o : Obj) : Var (w.alloc o) a v := by
  have hl := h.cell.2.2
  obtain ⟨ty, hh⟩ := h
  exact ⟨ty, (Below.heap_alloc w o a hl).trans hh⟩

/-- what readSamples has laid ahead of its first read -/
structure Laid (w W : World) (a b z : Nat) (s : ByteArray) : Prop where
  va : Var W a (.slice none 0 0)
  vb : Var W b (.bool false)
  rdr : RdrAt W z s 0
  kept : Kept (Under w) w W
  na : w.heap.size ≤ a
  nb : w.heap.size ≤ b
  nz : w.heap.size ≤ z
  ab : a ≠ b
  az : a ≠ z
  bz : b ≠ z

end Go.Proofs.YtgekdmjneogdoaaGreatDoor

namespace Go.Proofs.YtgekdmjneogdoaaGreatDoor
open Go.RowKit

theorem RS.below {K : Nat → Prop} {w w1 w' : World} {z q pos : Nat} {s : ByteArray} {t : Tr} (h : RS K w w1 z q s pos t) (F : FixR K w z q) (hb : Below w1.heap.size w1 w') : RS K w w' z q s pos t := by
  have hk : Kept (fun k => k < w1.heap.size) w1 w' := Kept.of_below hb
  have h3 : Kept K w1 w' := hk.sub (fun k hk => Nat.lt_of_lt_of_le (F.inK k hk) h.kept.size)
  obtain ⟨ty, h2⟩ := h.tr
  exact ⟨h.rdr.kept h.rdr.size hk, ⟨ty, (hk.block q (Array.getElem?_eq_some_iff.1 h2).1).trans h2⟩, h.kept.trans h3, h.tabs.kept F.G h3, h.pos⟩

end Go.Proofs.YtgekdmjneogdoaaGreatDoor

namespace Go.Proofs.YtgekdmjneogdoaaGreatDoor
open Go.RowKit

/-- the variables of readSamples, and what lies below -/
structure Vars (w W : World) (a b : Nat) (v : Value) : Prop where
  va : Var W a v
  vb : Var W b (.bool false)
  kept : Kept (Under w) w W
  ab : a ≠ b
  na : w.heap.size ≤ a
  nb : w.heap.size ≤ b

end Go.Proofs.YtgekdmjneogdoaaGreatDoor

namespace Go.Proofs.YtgekdmjneogdoaaGreatDoor
open Go.RowKit

theorem CTabs.below {w w' : World} (h : CTabs w) (hG : GK (Under w)) (hb : Below w.heap.size w w') : CTabs w' := h.kept hG (Kept.of_below hb)

theorem GK.below {w w' : World} (hG : GK (Under w)) (hb : Below w.heap.size w w') : GK (Under w') := ⟨Nat.lt_of_lt_of_le hG.1 hb.size, Nat.lt_of_lt_of_le hG.2 hb.size⟩

end Go.Proofs.YtgekdmjneogdoaaGreatDoor
