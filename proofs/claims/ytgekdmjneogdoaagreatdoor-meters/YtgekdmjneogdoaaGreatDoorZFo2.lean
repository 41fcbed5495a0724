import Derived.Test.YtgekdmjneogdoaaGreatDoorZFo1
import Derived.Test.YtgekdmjneogdoaaGreatDoorZMq4
namespace Go.Proofs.YtgekdmjneogdoaaGreatDoor
open Go.RowKit Go.Shelf Go.Maps Go.Sort Go.Lib

/-! buckets in their order -/
def isB (x : Nat) : Prop := isNum x ∧ x ≠ 9223372036854775808

theorem ordI_inj {x y : Nat} (hx : isB x) (hy : isB y) (h : ordI x = ordI y) : x = y := by
  obtain ⟨⟨h1, _⟩, h2⟩ := hx
  obtain ⟨⟨h3, _⟩, h4⟩ := hy
  unfold ordI at h
  split at h <;> split at h <;> omega

theorem cmpV_ord (x y : Nat) (hx : isNum x) (hy : isNum y) : cmpV x y = if ordI x < ordI y then -1 else if ordI y < ordI x then 1 else 0 := by
  unfold cmpV
  rw [order_eq x y hx hy]
  rcases Int.lt_trichotomy (ordI x) (ordI y) with h | h | h
  · rw [cmp_lt h]; simp [h]
  · have n1 : ¬ ordI x < ordI y := by omega
    have n2 : ¬ ordI y < ordI x := by omega
    rw [cmp_eq h]; simp [n1, n2]
  · have n1 : ¬ ordI x < ordI y := by omega
    rw [cmp_gt h]; simp [n1, h]

abbrev Bkt := { x : Nat // isB x }

theorem isB_zero : isB 0 := ⟨⟨by omega, by omega⟩, by omega⟩

theorem sorted_eq : ∀ (l m : List Nat), l.Pairwise (fun x y => ordI x < ordI y) → m.Pairwise (fun x y => ordI x < ordI y) → (∀ x, x ∈ l ↔ x ∈ m) → l = m
  | [], [], _, _, _ => rfl
  | [], y :: m, _, _, h => by have := (h y).2 (by simp); cases this
  | x :: l, [], _, _, h => by have := (h x).1 (by simp); cases this
  | x :: l, y :: m, hl, hm, h => by
    obtain ⟨l1, l2⟩ := List.pairwise_cons.1 hl
    obtain ⟨m1, m2⟩ := List.pairwise_cons.1 hm
    have hxy : x = y := by
      rcases List.mem_cons.1 ((h x).1 (by simp)) with e | e
      · exact e
      · rcases List.mem_cons.1 ((h y).2 (by simp)) with e' | e'
        · exact e'.symm
        · have a1 := m1 x e
          have a2 := l1 y e'
          omega
    subst hxy
    have : l = m := sorted_eq l m l2 m2 (fun z => by
      constructor
      · intro hz
        rcases List.mem_cons.1 ((h z).1 (by simp [hz])) with e | e
        · subst e
          have := l1 z hz
          omega
        · exact e
      · intro hz
        rcases List.mem_cons.1 ((h z).2 (by simp [hz])) with e | e
        · subst e
          have := m1 z hz
          omega
        · exact e)
    rw [this]

/-- a bag's buckets, each once, in order -/
def ksOf (bag : List Nat) : List Nat := bag.eraseDups.mergeSort fun x y => decide (ordI x ≤ ordI y)

theorem mem_ksOf (bag : List Nat) (x : Nat) : x ∈ ksOf bag ↔ x ∈ bag := by
  unfold ksOf
  rw [List.mem_mergeSort, List.mem_eraseDups]

theorem strict_of {l : List Nat} (h : l.Pairwise (fun x y => ordI x ≤ ordI y)) (hn : l.Nodup) (hB : ∀ x ∈ l, isB x) : l.Pairwise (fun x y => ordI x < ordI y) := by
  induction l with
  | nil => exact List.Pairwise.nil
  | cons a r ih =>
    obtain ⟨h1, h2⟩ := List.pairwise_cons.1 h
    obtain ⟨n1, n2⟩ := List.nodup_cons.1 hn
    refine List.pairwise_cons.2 ⟨fun y hy => ?_, ih h2 n2 (fun x hx => hB x (by simp [hx]))⟩
    have k1 := h1 y hy
    have k2 : ordI a ≠ ordI y := fun e => n1 (ordI_inj (hB a (by simp)) (hB y (by simp [hy])) e ▸ hy)
    omega

theorem nodup_erase : ∀ (n : Nat) (l : List Nat), l.length ≤ n → l.eraseDups.Nodup
  | 0, l, h => by
    have : l = [] := List.eq_nil_of_length_eq_zero (by omega)
    subst this
    simp
  | n + 1, [], _ => by simp
  | n + 1, a :: l, h => by
    rw [List.eraseDups_cons, List.nodup_cons]
    refine ⟨?_, nodup_erase n _ ?_⟩
    · rw [List.mem_eraseDups]
      simp
    · have := List.length_filter_le (fun b => !b == a) l
      simp only [List.length_cons] at h
      omega

theorem ksOf_sorted (bag : List Nat) (hB : ∀ x ∈ bag, isB x) : (ksOf bag).Pairwise (fun x y => ordI x < ordI y) := by
  have h1 := List.pairwise_mergeSort (le := fun x y => decide (ordI x ≤ ordI y)) (fun a b c h1 h2 => by simp at *; omega) (fun a b => by simp; omega) bag.eraseDups
  refine strict_of (h1.imp (fun h => by simpa using h)) ?_ (fun x hx => hB x ((mem_ksOf bag x).1 hx))
  exact (List.mergeSort_perm _ _).nodup_iff.2 (nodup_erase _ bag (Nat.le_refl _))

theorem lt_cf (x y : Bkt) : ltOf (fun (x y : Bkt) => cmpV x.1 y.1) x y = decide (ordI x.1 < ordI y.1) := by
  show decide (cmpV x.1 y.1 < 0) = _
  rw [cmpV_ord x.1 y.1 x.2.1 y.2.1]
  by_cases h : ordI x.1 < ordI y.1
  · simp [h]
  · by_cases h2 : ordI y.1 < ordI x.1 <;> simp [h, h2]

theorem swo_cf : SWO (ltOf (fun (x y : Bkt) => cmpV x.1 y.1)) where
  irrefl x := by rw [lt_cf]; simp
  trans x y z h1 h2 := by rw [lt_cf] at *; simp at *; omega
  ntrans x y z h1 h2 := by rw [lt_cf] at *; simp at *; omega

theorem isB_num {x : Nat} (h : isB x) : (FloatKind.f64.format.order x x != some .eq) = false := by
  rw [num_iff x h.1.1]
  have := h.1.2
  simp; omega

theorem lift_bag : ∀ (bag : List Nat), (∀ x ∈ bag, isB x) → ∃ l : List Bkt, l.map (·.1) = bag
  | [], _ => ⟨[], rfl⟩
  | x :: r, h => by
    obtain ⟨l, hl⟩ := lift_bag r (fun y hy => h y (by simp [hy]))
    exact ⟨⟨x, h x (by simp)⟩ :: l, by simp [hl]⟩

/-- what SortedFunc makes of a tally's keys: the bag's buckets, each once, in order -/
theorem sorts_bag (bag : List Nat) (hB : ∀ x ∈ bag, isB x) (hl : bag.length < 4000000000000) : SortsTo bag (ksOf bag) := by
  intro w b hT
  obtain ⟨xs, hxs⟩ := lift_bag bag hB
  have hxl : xs.length = bag.length := by rw [← hxs]; simp
  have hI : Inhabited Bkt := ⟨⟨0, isB_zero⟩⟩
  have h0 := sortedF (α := Bkt) (fun x => x.1) (fun x y => cmpV x.1 y.1) swo_cf (fun x y h1 h2 => by
      rw [lt_cf] at h1 h2
      simp at h1 h2
      exact Subtype.ext (ordI_inj x.2 y.2 (by omega))) (fun x y w => compare_any x.1 y.1 w (isB_num x.2) (isB_num y.2)) w.heap.size b xs
    (w.alloc (.cells #[.map (some b)] 96)) (by omega) (by simp) (World.cell?_alloc_at _ _ _ _ rfl) (by rw [hxs]; exact hT.block (Below.heap_alloc w _ b hT.lt))
  refine h0.mono ?_
  rintro e W' ⟨v, ys, rfl, ⟨hnd, hmem⟩, hrow, hb⟩
  rw [World.size_alloc] at hrow hb
  have hle : (fun (x y : Bkt) => !(ltOf (fun (x y : Bkt) => cmpV x.1 y.1)) y x) = fun x y => decide (ordI x.1 ≤ ordI y.1) := by
    funext x y
    rw [lt_cf]
    by_cases h : ordI y.1 < ordI x.1
    · have : ¬ ordI x.1 ≤ ordI y.1 := by omega
      simp [h, this]
    · have : ordI x.1 ≤ ordI y.1 := by omega
      simp [h, this]
  rw [hle] at hrow
  have hks : (ys.mergeSort fun x y => decide (ordI x.1 ≤ ordI y.1)).map (·.1) = ksOf bag := by
    apply sorted_eq
    · have h1 := List.pairwise_mergeSort (le := fun (x y : Bkt) => decide (ordI x.1 ≤ ordI y.1)) (fun a b c h1 h2 => by simp at *; omega) (fun a b => by simp; omega) ys
      have h2 : ((ys.mergeSort fun x y => decide (ordI x.1 ≤ ordI y.1)).map (·.1)).Pairwise (fun x y => ordI x ≤ ordI y) := List.pairwise_map.2 (h1.imp (fun h => by simpa using h))
      refine strict_of h2 ?_ (fun x hx => ?_)
      · exact ((List.mergeSort_perm ys _).map (·.1)).nodup_iff.2 hnd
      · obtain ⟨a, _, rfl⟩ := List.mem_map.1 hx
        exact a.2
    · exact ksOf_sorted bag hB
    · intro x
      rw [mem_ksOf, ← hxs, ← hmem x]
      constructor
      · intro hx
        obtain ⟨a, ha, rfl⟩ := List.mem_map.1 hx
        exact List.mem_map.2 ⟨a, List.mem_mergeSort.1 ha, rfl⟩
      · intro hx
        obtain ⟨a, ha, rfl⟩ := List.mem_map.1 hx
        exact List.mem_map.2 ⟨a, List.mem_mergeSort.2 ha, rfl⟩
  have hlen : ys.length = (ksOf bag).length := by rw [← hks]; simp
  refine ⟨v, rfl, ?_, hb⟩
  have hmap : (ys.mergeSort fun x y => decide (ordI x.1 ≤ ordI y.1)).map (encV fun (x : Bkt) => x.1) = (ksOf bag).map encK := by
    rw [← hks, List.map_map]
    rfl
  rw [hmap, hlen] at hrow
  exact hrow
end Go.Proofs.YtgekdmjneogdoaaGreatDoor
