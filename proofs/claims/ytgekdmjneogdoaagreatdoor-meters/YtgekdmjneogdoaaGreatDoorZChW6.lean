import Derived.Test.YtgekdmjneogdoaaGreatDoorZChW2
import Derived.Recover
namespace Go.Proofs.YtgekdmjneogdoaaGreatDoor
open Go.RowKit

/-- a slice value that reads samples, out of a block of K -/
def RdS (K : Nat → Prop) (w : World) (v : Value) (l : List Smp) : Prop :=
  ∃ ao cap, v = .slice ao l.length cap ∧ l.length ≤ cap ∧ (0 < l.length → ∃ g o, K g ∧ ao = some ⟨g, o, none⟩ ∧ ∀ j, j < l.length → w.cell? ⟨g, o + 2 * j, none⟩ = some (.int .i64 (l.getD j (0, 0)).1) ∧ w.cell? ⟨g, o + 2 * j + 1, none⟩ = some (.int .u64 (l.getD j (0, 0)).2))

theorem RdS.kept {K : Nat → Prop} {w w' : World} {v : Value} {l : List Smp} (h : RdS K w v l) (hk : Kept K w w') : RdS K w' v l := by
  obtain ⟨ao, cap, h1, h2, h3⟩ := h
  refine ⟨ao, cap, h1, h2, fun h0 => ?_⟩
  obtain ⟨g, o, h4, h5, h6⟩ := h3 h0
  exact ⟨g, o, h4, h5, fun j hj => ⟨(hk.cell (p := ⟨g, _, none⟩) h4).trans (h6 j hj).1, (hk.cell (p := ⟨g, _, none⟩) h4).trans (h6 j hj).2⟩⟩

theorem Wr.sub {K J : Nat → Prop} {w : World} {p : Nat} {bs : List Nat} (h : Wr K w p bs) (hj : ∀ k, J k → K k) : Wr J w p bs := by
  obtain ⟨v, t, h1, h2, h3⟩ := h
  exact ⟨v, t, h1, h2, fun g hg hJ => h3 g hg (hj g hJ)⟩

theorem RdS.at {K : Nat → Prop} {w : World} {g o n cap : Nat} {s : Smp} {r : List Smp} (h : RdS K w (.slice (some ⟨g, o, none⟩) n cap) (s :: r)) {i : Nat} (hi : i < r.length) :
    w.cell? ⟨g, o + 2 + i * 2, none⟩ = some (.int .i64 (r.getD i (0, 0)).1) ∧ w.cell? ⟨g, o + 2 + i * 2 + 1, none⟩ = some (.int .u64 (r.getD i (0, 0)).2) := by
  obtain ⟨ao, c, h1, h2, h3⟩ := h
  obtain ⟨g', o', _, h5, h6⟩ := h3 (by simp)
  cases h1
  cases h5
  have := h6 (i + 1) (by simp; omega)
  rw [List.getD_cons_succ] at this
  rw [show o + 2 + i * 2 = o + 2 * (i + 1) by omega]
  exact this

theorem St.drop {K : Nat → Prop} {w wr w5 : World} {p q : Nat} {B B' : List Nat} {t t' : Tr} {o : Obj} (h5 : St (And1 K wr.heap.size) (wr.alloc o) w5 p q B' t') (h : St K w wr p q B t) (F : Fix K w p q) : St K w w5 p q B' t' := by
  have h2 := h.below F ((Below.refl _ wr).alloc (Nat.le_refl _) o)
  refine ⟨h5.wr.sub ?_, h5.tr, h2.kept.trans (h5.kept.sub (fun k hk => Or.inl hk)), h5.tabs⟩
  rintro k (hk | hk)
  · exact Or.inl (Or.inl hk)
  · exact Or.inr hk

end Go.Proofs.YtgekdmjneogdoaaGreatDoor
