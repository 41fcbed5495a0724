import Derived.Test.YtgekdmjneogdoaaGreatDoorZLaws
import Derived.Test.YtgekdmjneogdoaaGreatDoorShelf
import Derived.Lib.LaidTab
import Derived.Lib.ItoaNum
import GoSem.PinnedTables
import Derived.WalkSmall
import Derived.Test.YtgekdmjneogdoaaGreatDoorProg
import Derived.WalkKit
import Derived.WalkSpells
import Derived.WalkLawsBesides
import Derived.BigQuiet
import Derived.Deep.QuietTactic
import Derived.Deep.DeepFit
namespace Go.Proofs.YtgekdmjneogdoaaGreatDoor
open Go.RowKit

def powHi (i : Nat) : Nat := (Go.Pinned.pow10Rows.getD i (0, 0)).1
def powLo (i : Nat) : Nat := (Go.Pinned.pow10Rows.getD i (0, 0)).2
def fpow (j : Nat) : Nat := [4607182418800017408, 4621819117588971520, 4636737291354636288, 4652007308841189376, 4666723172467343360, 4681608360884174848, 4696837146684686336, 4711630319722168320, 4726483295884279808, 4741671816366391296, 4756540486875873280, 4771362005757984768, 4786511204640096256, 4801453603149578240, 4816244402031689728, 4831355200913801216, 4846369599423283200, 4861130398305394688, 4876203697187506176, 4891288408196988160, 4906019910204099648, 4921056587992461136, 4936209963552724370].getD j 0

/-- what the package-level variables on the road hold -/
structure Tabs (w : World) : Prop where
  pow : ∀ i, i < 696 → w.cell? ⟨10, i * 2, none⟩ = some (.int .u64 (powHi i)) ∧ w.cell? ⟨10, i * 2 + 1, none⟩ = some (.int .u64 (powLo i))
  opt : w.cell? ⟨5, 0, none⟩ = some (.bool true)
  mant : w.cell? ⟨8, 0, none⟩ = some (.int .u64 52)
  expb : w.cell? ⟨8, 1, none⟩ = some (.int .u64 11)
  bias : w.cell? ⟨8, 2, none⟩ = some (.int .i64 (-1023))
  fpow : ∃ B O, w.cell? ⟨14, 0, none⟩ = some (.slice (some ⟨B, O, none⟩) 23 23) ∧ ∀ j, j < 23 → w.cell? ⟨B, O + j, none⟩ = some (.float .f64 (fpow j))
  err : ∃ ev, w.cell? ⟨4, 0, none⟩ = some ev ∧ (ev = .nilIface ∨ ∃ te pe, ev = .iface te pe)
  maxLen : ∃ m, w.cell? ⟨2, 0, none⟩ = some (.int .i64 m)
  u64pow : ∃ ty fz, w.heap[(6 : Nat)]? = some (.cells (Lib.pow10Tab.map fun z => Value.int .u64 z).toArray ty fz)

theorem lt_of_cell {w : World} {b o : Nat} {v : Value} (h : w.cell? ⟨b, o, none⟩ = some v) : b < w.heap.size := by
  unfold World.cell? at h
  by_cases hb : b < w.heap.size
  · exact hb
  · simp [Array.getElem?_eq_none (Nat.le_of_not_lt hb)] at h

theorem Tabs.size {w : World} (h : Tabs w) : 10 < w.heap.size := lt_of_cell (h.pow 0 (by omega)).1

theorem later {w w' : World} {b o : Nat} {v : Value} (hb : Below w.heap.size w w') (h : w.cell? ⟨b, o, none⟩ = some v) : w'.cell? ⟨b, o, none⟩ = some v := by
  rw [hb.cell (p := ⟨b, o, none⟩) (lt_of_cell h)]; exact h

theorem Tabs.below {w w' : World} (h : Tabs w) (hb : Below w.heap.size w w') : Tabs w' where
  pow i hi := ⟨later hb (h.pow i hi).1, later hb (h.pow i hi).2⟩
  opt := later hb h.opt
  mant := later hb h.mant
  expb := later hb h.expb
  bias := later hb h.bias
  fpow := by
    obtain ⟨B, O, h1, h2⟩ := h.fpow
    exact ⟨B, O, later hb h1, fun j hj => later hb (h2 j hj)⟩
  err := by
    obtain ⟨ev, h1, h2⟩ := h.err
    exact ⟨ev, later hb h1, h2⟩
  maxLen := by
    obtain ⟨m, h1⟩ := h.maxLen
    exact ⟨m, later hb h1⟩
  u64pow := by
    obtain ⟨ty, fz, h1⟩ := h.u64pow
    refine ⟨ty, fz, ?_⟩
    rw [hb.block _ (Nat.lt_trans (by decide) h.size)]; exact h1

theorem Tabs.drewN {w : World} (h : Tabs w) (n : Nat) : Tabs (w.drewN n) := h.below (below_drewN (Below.refl _ _) n)

end Go.Proofs.YtgekdmjneogdoaaGreatDoor
