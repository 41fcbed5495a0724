import Derived.Test.YtgekdmjneogdoaaGreatDoorZAk2
import Derived.Test.YtgekdmjneogdoaaGreatDoorZChU3
import Derived.Test.YtgekdmjneogdoaaGreatDoorZFo2
import Derived.Test.YtgekdmjneogdoaaGreatDoorZPk
namespace Go.Proofs.YtgekdmjneogdoaaGreatDoor
open Go.RowKit Go.Shelf Go.Maps

/-! ranks -/
def cntP (p : Nat → Bool) (l : List Nat) : Nat := (l.filter p).length

theorem cntP_cons (p : Nat → Bool) (x : Nat) (l : List Nat) : cntP p (x :: l) = (if p x then 1 else 0) + cntP p l := by
  unfold cntP
  rw [List.filter_cons]
  split <;> simp <;> omega

theorem sum_count (p : Nat → Bool) : ∀ (bag ks : List Nat), ks.Nodup → (∀ x ∈ bag, x ∈ ks) → ((ks.filter p).map fun k => bag.count k).sum = cntP p bag
  | [], ks, _, _ => by
    have : (ks.filter p).map (fun k => ([] : List Nat).count k) = (ks.filter p).map fun _ => 0 := by simp
    rw [this]
    induction ks.filter p with
    | nil => rfl
    | cons a r ih => simpa using ih
  | x :: bag, ks, hn, hs => by
    have ih := sum_count p bag ks hn (fun y hy => hs y (by simp [hy]))
    rw [cntP_cons, ← ih]
    have hx := hs x (by simp)
    have key : ∀ l : List Nat, l.Nodup → (l.map fun k => (x :: bag).count k).sum = (if x ∈ l then 1 else 0) + (l.map fun k => bag.count k).sum := by
      intro l hl
      induction l with
      | nil => simp
      | cons a r ihr =>
        obtain ⟨h1, h2⟩ := List.nodup_cons.1 hl
        rw [List.map_cons, List.sum_cons, List.map_cons, List.sum_cons, ihr h2, List.count_cons]
        by_cases e : x = a
        · subst e
          simp [h1]
          omega
        · have e2 : (x == a) = false := by simp [e]
          have e3 : (x ∈ a :: r) ↔ x ∈ r := by simp [e]
          simp only [e2, Bool.false_eq_true, if_false, Nat.add_zero]
          by_cases hr : x ∈ r
          · rw [if_pos hr, if_pos (e3.2 hr)]; omega
          · rw [if_neg hr, if_neg (fun k => hr (e3.1 k))]; omega
    rw [key _ (hn.filter p)]
    congr 1
    by_cases hp : p x = true
    · rw [if_pos hp, if_pos (List.mem_filter.2 ⟨hx, hp⟩)]
    · rw [if_neg hp, if_neg (fun k => hp (List.mem_filter.1 k).2)]

theorem nodup_of_strict {l : List Nat} (h : l.Pairwise (fun x y => ordI x < ordI y)) : l.Nodup := by
  refine List.Pairwise.imp ?_ h
  intro a b hab e
  subst e
  omega

theorem total_ks (bag : List Nat) (hB : ∀ x ∈ bag, isB x) : totalOf (fun k => bag.count k) (ksOf bag) = bag.length := by
  have h := sum_count (fun _ => true) bag (ksOf bag) (nodup_of_strict (ksOf_sorted bag hB)) (fun x hx => (mem_ksOf bag x).2 hx)
  have e1 : (ksOf bag).filter (fun _ => true) = ksOf bag := List.filter_eq_self.2 (fun _ _ => rfl)
  have e2 : cntP (fun _ => true) bag = bag.length := by
    unfold cntP
    rw [List.filter_eq_self.2 (fun _ _ => rfl)]
  rw [e1, e2] at h
  exact h

theorem rank_is (cnt : Nat → Nat) (b : Nat) : ∀ (ks : List Nat) (r : Nat), ks.Pairwise (fun x y => ordI x < ordI y) → b ∈ ks → ((ks.filter fun y => decide (ordI y < ordI b)).map cnt).sum < r → r ≤ ((ks.filter fun y => decide (ordI y < ordI b)).map cnt).sum + cnt b → rankOf cnt ks r = b
  | [], _, _, hb, _, _ => by cases hb
  | k :: ks, r, hs, hb, h1, h2 => by
    obtain ⟨s1, s2⟩ := List.pairwise_cons.1 hs
    by_cases e : b = k
    · subst e
      have e0 : (b :: ks).filter (fun y => decide (ordI y < ordI b)) = [] := by
        rw [List.filter_eq_nil_iff]
        intro y hy
        rcases List.mem_cons.1 hy with rfl | hy
        · simp
        · have := s1 y hy
          simp; omega
      rw [e0] at h2
      simp at h2
      rw [rankOf, if_pos h2]
    · have hb2 : b ∈ ks := by
        rcases List.mem_cons.1 hb with h | h
        · exact absurd h e
        · exact h
      have hkb := s1 b hb2
      have e0 : (k :: ks).filter (fun y => decide (ordI y < ordI b)) = k :: ks.filter (fun y => decide (ordI y < ordI b)) := by
        rw [List.filter_cons, if_pos (by simpa using hkb)]
      rw [e0, List.map_cons, List.sum_cons] at h1 h2
      rw [rankOf, if_neg (by omega)]
      exact rank_is cnt b ks (r - cnt k) s2 hb2 (by omega) (by omega)

/-- the bucket at a rank, by how many lie below it -/
theorem rank_bag (bag : List Nat) (hB : ∀ x ∈ bag, isB x) (b r : Nat) (hb : b ∈ bag) (h1 : cntP (fun y => decide (ordI y < ordI b)) bag < r) (h2 : r ≤ cntP (fun y => decide (ordI y ≤ ordI b)) bag) :
    rankOf (fun k => bag.count k) (ksOf bag) r = b := by
  have hs := ksOf_sorted bag hB
  have hsum := sum_count (fun y => decide (ordI y < ordI b)) bag (ksOf bag) (nodup_of_strict hs) (fun x hx => (mem_ksOf bag x).2 hx)
  refine rank_is _ b (ksOf bag) r hs ((mem_ksOf bag b).2 hb) (by rw [hsum]; exact h1) ?_
  rw [hsum]
  refine Nat.le_trans h2 ?_
  have : ∀ l : List Nat, (∀ x ∈ l, isB x) → cntP (fun y => decide (ordI y ≤ ordI b)) l ≤ cntP (fun y => decide (ordI y < ordI b)) l + l.count b := by
    intro l hl
    induction l with
    | nil => simp [cntP]
    | cons a r ih =>
      have ih2 := ih (fun x hx => hl x (by simp [hx]))
      rw [cntP_cons, cntP_cons, List.count_cons]
      by_cases k1 : ordI a < ordI b
      · have k2 : ordI a ≤ ordI b := by omega
        simp only [k1, k2, decide_true, if_true]
        omega
      · by_cases k2 : ordI a ≤ ordI b
        · have e : a = b := ordI_inj (hl a (by simp)) (hB b hb) (by omega)
          simp [e]
          omega
        · simp only [k1, k2, decide_false, Bool.false_eq_true, if_false]
          omega
  exact this bag hB
end Go.Proofs.YtgekdmjneogdoaaGreatDoor

namespace Go.Proofs.YtgekdmjneogdoaaGreatDoor
open Go.RowKit Go.Shelf Go.Maps

/-! buckets keep the order -/
theorem small_iff (v : Nat) (h : isNum v) : smallB v = decide (v % 9223372036854775808 < 4503599627370496) := by
  obtain ⟨h1, h2⟩ := h
  unfold smallB
  have hr : v % 9223372036854775808 < 9223372036854775808 := Nat.mod_lt _ (by omega)
  generalize v % 9223372036854775808 = r at *
  rw [order_eq r 4503599627370496 ⟨by omega, by rw [Nat.mod_eq_of_lt hr]; exact h2⟩ ⟨by omega, by omega⟩]
  have e1 : ordI r = (r : Int) := by
    unfold ordI
    rw [if_neg (by omega), Nat.mod_eq_of_lt hr]
  have e2 : ordI 4503599627370496 = 4503599627370496 := by decide
  rw [e1, e2]
  by_cases c : r < 4503599627370496
  · rw [cmp_lt (by omega)]; simp [c]
  · rcases Nat.lt_or_ge 4503599627370496 r with c2 | c2
    · rw [cmp_gt (by omega)]; simp [c]
    · rw [cmp_eq (by omega)]; simp [c]

theorem bucket_val (v : Nat) (h : isNum v) : bucketN v = if v % 9223372036854775808 < 4503599627370496 then 0 else v / 35184372088832 * 35184372088832 := by
  unfold bucketN
  rw [small_iff v h]
  simp

theorem bucket_isB (v : Nat) (h : isNum v) : isB (bucketN v) := by
  obtain ⟨h1, h2⟩ := h
  rw [bucket_val v ⟨h1, h2⟩]
  unfold isB isNum
  split
  · omega
  · omega

theorem cnt_le {p q : Nat → Bool} {l : List Nat} (h : ∀ x ∈ l, p x = true → q x = true) : cntP p l ≤ cntP q l := by
  induction l with
  | nil => simp [cntP]
  | cons a r ih =>
    have i2 := ih (fun x hx => h x (by simp [hx]))
    have i1 := h a (by simp)
    rw [cntP_cons, cntP_cons]
    by_cases hp : p a = true
    · rw [if_pos hp, if_pos (i1 hp)]; omega
    · rw [if_neg hp]; omega

theorem exists_max : ∀ (l : List Nat), l ≠ [] → ∃ m ∈ l, ∀ x ∈ l, ordI x ≤ ordI m
  | [], h => absurd rfl h
  | [a], _ => ⟨a, by simp, fun x hx => by rw [List.mem_singleton.1 hx]; exact Int.le_refl _⟩
  | a :: b :: r, _ => by
    obtain ⟨m, hm, hmax⟩ := exists_max (b :: r) (by simp)
    by_cases h : ordI m ≤ ordI a
    · refine ⟨a, by simp, fun x hx => ?_⟩
      rcases List.mem_cons.1 hx with rfl | hx
      · exact Int.le_refl _
      · have := hmax x hx; omega
    · refine ⟨m, by simp [hm], fun x hx => ?_⟩
      rcases List.mem_cons.1 hx with rfl | hx
      · omega
      · exact hmax x hx

theorem cnt_all (p : Nat → Bool) (l : List Nat) (h : ∀ x ∈ l, p x = true) : cntP p l = l.length := by
  unfold cntP
  rw [List.filter_eq_self.2 h]

/-- some value has the rank -/
theorem exists_rank (L : List Nat) (r : Nat) (hr1 : 1 ≤ r) (hr2 : r ≤ L.length) : ∃ v ∈ L, cntP (fun y => decide (ordI y < ordI v)) L < r ∧ r ≤ cntP (fun y => decide (ordI y ≤ ordI v)) L := by
  have step : ∀ (n : Nat) (v : Nat), v ∈ L → r ≤ cntP (fun y => decide (ordI y ≤ ordI v)) L → cntP (fun y => decide (ordI y < ordI v)) L ≤ n → ∃ v ∈ L, cntP (fun y => decide (ordI y < ordI v)) L < r ∧ r ≤ cntP (fun y => decide (ordI y ≤ ordI v)) L := by
    intro n
    induction n with
    | zero => intro v hv h1 h2; exact ⟨v, hv, by omega, h1⟩
    | succ n ih =>
      intro v hv h1 h2
      by_cases hlt : cntP (fun y => decide (ordI y < ordI v)) L < r
      · exact ⟨v, hv, hlt, h1⟩
      · have hne : L.filter (fun y => decide (ordI y < ordI v)) ≠ [] := fun e => by
          unfold cntP at hlt
          rw [e] at hlt
          simp at hlt
          omega
        obtain ⟨m, hm, hmax⟩ := exists_max _ hne
        obtain ⟨m1, m2⟩ := List.mem_filter.1 hm
        simp only [decide_eq_true_eq] at m2
        have e1 : cntP (fun y => decide (ordI y < ordI v)) L ≤ cntP (fun y => decide (ordI y ≤ ordI m)) L := cnt_le (fun x hx hp => by
          simp only [decide_eq_true_eq] at hp ⊢
          exact hmax x (List.mem_filter.2 ⟨hx, by simpa using hp⟩))
        have e2 : cntP (fun y => decide (ordI y < ordI m)) L < cntP (fun y => decide (ordI y < ordI v)) L := by
          have key : ∀ l : List Nat, m ∈ l → cntP (fun y => decide (ordI y < ordI m)) l + 1 ≤ cntP (fun y => decide (ordI y < ordI v)) l := by
            intro l
            induction l with
            | nil => intro h; cases h
            | cons a r ihl =>
              intro hmem
              rw [cntP_cons, cntP_cons]
              by_cases ea : m = a
              · subst ea
                have := cnt_le (p := fun y => decide (ordI y < ordI m)) (q := fun y => decide (ordI y < ordI v)) (l := r) (fun x _ hp => by simp only [decide_eq_true_eq] at hp ⊢; omega)
                simp only [Int.lt_irrefl, decide_false, m2, decide_true, if_true, Bool.false_eq_true, if_false]
                omega
              · have hr := ihl (by
                  rcases List.mem_cons.1 hmem with h | h
                  · exact absurd h ea
                  · exact h)
                by_cases k1 : ordI a < ordI m
                · have k2 : ordI a < ordI v := by omega
                  simp only [k1, k2, decide_true, if_true]
                  omega
                · simp only [k1, decide_false, Bool.false_eq_true, if_false]
                  omega
          exact key L m1
        exact ih m m1 (by omega) (by omega)
  have hne : L ≠ [] := fun e => by subst e; simp at hr2; omega
  obtain ⟨m, hm, hmax⟩ := exists_max L hne
  refine step L.length m hm ?_ (List.length_filter_le _ _)
  rw [cnt_all _ L (fun x hx => by simpa using hmax x hx)]
  exact hr2
end Go.Proofs.YtgekdmjneogdoaaGreatDoor
