import Derived.Test.YtgekdmjneogdoaaGreatDoorZChU3
import Derived.Test.YtgekdmjneogdoaaGreatDoorZFormat
import Derived.Test.YtgekdmjneogdoaaGreatDoorZMq1
import Derived.Test.YtgekdmjneogdoaaGreatDoorZRf
import Derived.Test.YtgekdmjneogdoaaGreatDoorZTabs
import Derived.Lib.IndexBytes
import Derived.LaidEql
import Derived.WalkMore
import Derived.Laws.FloatArith
import Derived.Laws.Cover2
import Derived.Deep.LoopGhost
import Derived.Deep.DeepCutAuto
import Derived.BigGuardPart
import Derived.Lib.SmallJoins
namespace Go.Proofs.YtgekdmjneogdoaaGreatDoor
open Go.RowKit Go.Shelf Go.Maps

/-- a meter that New has laid -/
theorem new_mtr (K : Nat → Prop) (n wd : Nat) (hn1 : 1 ≤ n) (hn2 : n ≤ 8) (hw1 : 1 ≤ wd) (hw2 : wd ≤ 1000000) (w : World) (hK : ∀ k, K k → k < w.heap.size) :
    Mtr K ((w.alloc (.cells (Array.replicate n (.map none)) 96)).alloc (.cells #[.int .i64 wd, .int .i64 0, .slice (some ⟨w.heap.size, 0, none⟩) n n, .pointer none, .int .i64 1, .int .i64 (-1099511627776)] 94)) (w.heap.size + 1) w.heap.size wd 0 MS.zero (List.replicate n none) (List.replicate n []) := by
  refine ⟨⟨?_, ?_⟩, by simp, ?_, ?_, ⟨hw1, hw2⟩, by omega, by simpa using ⟨hn1, hn2⟩, ?_⟩
  · have h := World.alloc_heap_new (w.alloc (.cells (Array.replicate n (.map none)) 96)) (.cells #[.int .i64 wd, .int .i64 0, .slice (some ⟨w.heap.size, 0, none⟩) n n, .pointer none, .int .i64 1, .int .i64 (-1099511627776)] 94)
    rw [World.size_alloc] at h
    rw [h]
    simp [mcells, rulePtr]
  · rw [Below.heap_alloc _ _ _ (by simp), World.alloc_heap_new]
    simp
  · intro i m g h1 h2
    rw [List.getElem?_replicate] at h1 h2
    split at h1
    · rename_i hi
      rw [if_pos hi] at h2
      cases h1; cases h2
      exact Or.inl ⟨rfl, rfl⟩
    · cases h1
  · rw [List.pairwise_replicate]
    exact Or.inr (Or.inl rfl)
  · intro k hk
    have := hK k hk
    refine ⟨by simp; omega, by omega, by omega, fun hm => ?_⟩
    exact absurd (List.eq_of_mem_replicate hm) (by simp)

theorem below_drewN {B : Nat} {a w : World} (h : Below B a w) (n : Nat) : Below B a (w.drewN n) := ⟨h.os, h.tape, h.output, h.size, h.block⟩

end Go.Proofs.YtgekdmjneogdoaaGreatDoor
