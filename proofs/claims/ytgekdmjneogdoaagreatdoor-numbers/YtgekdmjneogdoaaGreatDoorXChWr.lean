import Derived.Test.YtgekdmjneogdoaaGreatDoorXLaws
import Derived.Test.YtgekdmjneogdoaaGreatDoorXShelf
import Derived.Below
import Derived.Maps.AppendAt
import Derived.Deep.RegionLaw
import Derived.Defers
import Derived.Deep.RegionWith
import Derived.Deep.QuietTactic
import Derived.BigQuiet
import Derived.Recover
import Derived.Laws.BytesString
namespace Go.Proofs.YtgekdmjneogdoaaGreatDoor
open Go.RowKit

/-- worlds that agree on the blocks of K -/
structure Kept (K : Nat → Prop) (w w' : World) : Prop where
  os : w'.os = w.os
  tape : w'.tape = w.tape
  output : w'.output = w.output
  size : w.heap.size ≤ w'.heap.size
  block : ∀ k, K k → w'.heap[k]? = w.heap[k]?

theorem Kept.refl (K : Nat → Prop) (w : World) : Kept K w w := ⟨rfl, rfl, rfl, Nat.le_refl _, fun _ _ => rfl⟩
theorem Kept.trans {K : Nat → Prop} {a b c : World} (h : Kept K a b) (k : Kept K b c) : Kept K a c :=
  ⟨k.os.trans h.os, k.tape.trans h.tape, k.output.trans h.output, Nat.le_trans h.size k.size, fun i hi => (k.block i hi).trans (h.block i hi)⟩
theorem Kept.sub {K J : Nat → Prop} {w w' : World} (h : Kept K w w') (hj : ∀ k, J k → K k) : Kept J w w' := ⟨h.os, h.tape, h.output, h.size, fun k hk => h.block k (hj k hk)⟩
theorem Kept.alloc {K : Nat → Prop} {w w' : World} (h : Kept K w w') (hK : ∀ k, K k → k < w.heap.size) (o : Obj) : Kept K w (w'.alloc o) :=
  ⟨h.os, h.tape, h.output, Nat.le_trans h.size (by simp), fun k hk => (Below.heap_alloc w' o k (Nat.lt_of_lt_of_le (hK k hk) h.size)).trans (h.block k hk)⟩
theorem Kept.setCell {K : Nat → Prop} {w w' : World} (h : Kept K w w') {a : Addr} (ha : ¬ K a.block) (v : Value) : Kept K w (w'.setCell a v) :=
  ⟨h.os, h.tape, h.output, by simpa using h.size, fun k hk => (Below.heap_setCell w' a v k (fun e => ha (e ▸ hk))).trans (h.block k hk)⟩
theorem Kept.below {B : Nat} {w w' : World} (h : Kept (fun k => k < B) w w') : Below B w w' := ⟨h.os, h.tape, h.output, h.size, h.block⟩
theorem Kept.of_below {B : Nat} {w w' : World} (h : Below B w w') : Kept (fun k => k < B) w w' := ⟨h.os, h.tape, h.output, h.size, h.block⟩
theorem Kept.cell {K : Nat → Prop} {w w' : World} (h : Kept K w w') {p : Addr} (hp : K p.block) : w'.cell? p = w.cell? p := World.cell?_of_block (w := w) (h.block p.block hp)

abbrev encO : Nat → Value := fun n => Value.int .u8 (n : Int)

/-- the bit writer at p holds the bits bs; what it has lies in no block of K -/
def Wr (K : Nat → Prop) (w : World) (p : Nat) (bs : List Nat) : Prop :=
  ∃ v t, w.heap[p]? = some (.cells #[v, .int .u8 ((bval bs % 256 : Nat) : Int), .int .i64 ((bs.length % 8 : Nat) : Int)] t (0, 0)) ∧ w.ownsRow (p + 1) 5 1 v (octs bs).length ((octs bs).map encO) ∧ ∀ g, v.ownBlock = some g → ¬ K g

end Go.Proofs.YtgekdmjneogdoaaGreatDoor

namespace Go.Proofs.YtgekdmjneogdoaaGreatDoor
open Go.RowKit

/-! the tables -/
def dbTab (i : Nat) : Nat := [0, 1, 56, 2, 57, 49, 28, 3, 61, 58, 42, 50, 38, 29, 17, 4, 62, 47, 59, 36, 45, 43, 51, 22, 53, 39, 33, 30, 24, 18, 12, 5, 63, 55, 48, 27, 60, 41, 37, 16, 46, 35, 44, 21, 52, 32, 23, 11, 54, 26, 40, 15, 34, 20, 31, 10, 25, 14, 19, 9, 13, 8, 7, 6].getD i 0

/-- what the package-level variables on the chunks' road hold -/
structure CTabs (w : World) : Prop where
  cwid : ∀ i, i < 5 → w.cell? ⟨1, i, none⟩ = some (.int .i64 (cw i))
  db : ∀ i, i < 64 → w.cell? ⟨9, i, none⟩ = some (.int .u8 (dbTab i))

def GK (K : Nat → Prop) : Prop := K 1 ∧ K 9

theorem CTabs.kept {K : Nat → Prop} {w w' : World} (h : CTabs w) (hG : GK K) (hk : Kept K w w') : CTabs w' :=
  ⟨fun i hi => (hk.cell (p := ⟨_, i, none⟩) hG.1).trans (h.cwid i hi), fun i hi => (hk.cell (p := ⟨_, i, none⟩) hG.2).trans (h.db i hi)⟩

/-! bits 0 ahead and at the end -/
end Go.Proofs.YtgekdmjneogdoaaGreatDoor

namespace Go.Proofs.YtgekdmjneogdoaaGreatDoor
open Go.RowKit

/-- the trail at q -/
def TrAt (w : World) (q : Nat) (t : Tr) : Prop :=
  ∃ ty, w.heap[q]? = some (.cells #[.int .i64 t.T, .int .u64 t.V, .int .i64 t.step, .int .i64 t.L, .int .i64 t.M] ty (0, 0))

/-- K, and one block more -/
def And1 (K : Nat → Prop) (q : Nat) : Nat → Prop := fun k => K k ∨ k = q

theorem TrAt.kept {K : Nat → Prop} {w w' : World} {q : Nat} {t : Tr} (h : TrAt w q t) (hk : Kept (And1 K q) w w') : TrAt w' q t := by
  obtain ⟨ty, h⟩ := h
  exact ⟨ty, (hk.block q (Or.inr rfl)).trans h⟩

end Go.Proofs.YtgekdmjneogdoaaGreatDoor

namespace Go.Proofs.YtgekdmjneogdoaaGreatDoor
open Go.RowKit

theorem Below.grownBy {w w' : World} (h : Below w.heap.size w w') : w.grownBy w' none := ⟨h.os, h.tape, h.output, h.size, fun k hk _ => h.block k hk⟩

theorem Wr.below {K : Nat → Prop} {w w' : World} {p : Nat} {bs : List Nat} (h : Wr K w p bs) (hb : Below w.heap.size w w') : Wr K w' p bs := by
  obtain ⟨u, t, h1, h2, h3⟩ := h
  refine ⟨u, t, (hb.block p (Array.getElem?_eq_some_iff.1 h1).1).trans h1, h2.kept (Below.grownBy hb) ?_, h3⟩
  cases u.ownBlock <;> simp

theorem Kept.ofBelow {K : Nat → Prop} {w w' : World} (hb : Below w.heap.size w w') (hK : ∀ k, K k → k < w.heap.size) : Kept K w w' :=
  ⟨hb.os, hb.tape, hb.output, hb.size, fun k hk => hb.block k (hK k hk)⟩

theorem TrAt.cells {w : World} {q : Nat} {t : Tr} (h : TrAt w q t) :
    (w.cell? ⟨q, 0, none⟩ = some (.int .i64 t.T) ∧ w.cell? ⟨q, 1, none⟩ = some (.int .u64 t.V) ∧ w.cell? ⟨q, 2, none⟩ = some (.int .i64 t.step) ∧ w.cell? ⟨q, 3, none⟩ = some (.int .i64 t.L) ∧ w.cell? ⟨q, 4, none⟩ = some (.int .i64 t.M)) ∧
      (∀ j, w.frozen? ⟨q, j, none⟩ = false) ∧ q < w.heap.size := by
  obtain ⟨ty, hh⟩ := h
  refine ⟨⟨?_, ?_, ?_, ?_, ?_⟩, fun j => frozen_of_row w q j _ ty hh, (Array.getElem?_eq_some_iff.1 hh).1⟩
  · rw [cell_of_row w q 0 _ ty _ hh]; rfl
  · rw [cell_of_row w q 1 _ ty _ hh]; rfl
  · rw [cell_of_row w q 2 _ ty _ hh]; rfl
  · rw [cell_of_row w q 3 _ ty _ hh]; rfl
  · rw [cell_of_row w q 4 _ ty _ hh]; rfl

/-- what stays as it is while samples are written -/
structure Fix (K : Nat → Prop) (w : World) (p q : Nat) : Prop where
  pq : p ≠ q
  np : ¬ K p
  nq : ¬ K q
  inK : ∀ k, K k → k < w.heap.size
  G : GK K

/-- how the writing stands: the writer's bits, the trail -/
structure St (K : Nat → Prop) (w w1 : World) (p q : Nat) (B : List Nat) (t : Tr) : Prop where
  wr : Wr (And1 K q) w1 p B
  tr : TrAt w1 q t
  kept : Kept K w w1
  tabs : CTabs w1

theorem St.size {K : Nat → Prop} {w w1 : World} {p q : Nat} {B : List Nat} {t : Tr} (h : St K w w1 p q B t) (F : Fix K w p q) : ∀ k, And1 K q k → k < w1.heap.size := by
  intro k hk
  rcases hk with hk | rfl
  · exact Nat.lt_of_lt_of_le (F.inK k hk) h.kept.size
  · exact h.tr.cells.2.2

theorem St.below {K : Nat → Prop} {w w1 w' : World} {p q : Nat} {B : List Nat} {t : Tr} (h : St K w w1 p q B t) (F : Fix K w p q) (hb : Below w1.heap.size w1 w') : St K w w' p q B t := by
  have h2 : Kept (And1 K q) w1 w' := Kept.ofBelow hb (h.size F)
  have h3 : Kept K w1 w' := h2.sub (fun k hk => Or.inl hk)
  exact ⟨h.wr.below hb, h.tr.kept h2, h.kept.trans h3, h.tabs.kept F.G h3⟩

end Go.Proofs.YtgekdmjneogdoaaGreatDoor

namespace Go.Proofs.YtgekdmjneogdoaaGreatDoor
open Go.RowKit

theorem Wr.sub {K J : Nat → Prop} {w : World} {p : Nat} {bs : List Nat} (h : Wr K w p bs) (hj : ∀ k, J k → K k) : Wr J w p bs := by
  obtain ⟨v, t, h1, h2, h3⟩ := h
  exact ⟨v, t, h1, h2, fun g hg hJ => h3 g hg (hj g hJ)⟩

theorem St.drop {K : Nat → Prop} {w wr w5 : World} {p q : Nat} {B B' : List Nat} {t t' : Tr} {o : Obj} (h5 : St (And1 K wr.heap.size) (wr.alloc o) w5 p q B' t') (h : St K w wr p q B t) (F : Fix K w p q) : St K w w5 p q B' t' := by
  have h2 := h.below F ((Below.refl _ wr).alloc (Nat.le_refl _) o)
  refine ⟨h5.wr.sub ?_, h5.tr, h2.kept.trans (h5.kept.sub (fun k hk => Or.inl hk)), h5.tabs⟩
  rintro k (hk | hk)
  · exact Or.inl (Or.inl hk)
  · exact Or.inr hk

end Go.Proofs.YtgekdmjneogdoaaGreatDoor

namespace Go.Proofs.YtgekdmjneogdoaaGreatDoor
open Go.RowKit

def bytesOf (l : List Nat) : ByteArray := ⟨(l.map UInt8.ofNat).toArray⟩

abbrev Under (w : World) : Nat → Prop := fun k => k < w.heap.size

end Go.Proofs.YtgekdmjneogdoaaGreatDoor
