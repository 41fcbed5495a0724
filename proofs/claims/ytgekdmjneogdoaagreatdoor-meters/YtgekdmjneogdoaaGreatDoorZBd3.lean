import Derived.Test.YtgekdmjneogdoaaGreatDoorZBd1
import Derived.Test.YtgekdmjneogdoaaGreatDoorZFg1
namespace Go.Proofs.YtgekdmjneogdoaaGreatDoor
open Go.RowKit Go.Shelf Go.Maps

def numB (v : Nat) : Bool := decide (v % 9223372036854775808 ≤ 9218868437227405312)

/-! a meter beside a row -/
theorem Mtr.same {K : Nat → Prop} {w w' : World} {mb kb W C : Nat} {S : MS} {ms : List (Option Nat)} {bags : List (List Nat)} (h : Mtr K w mb kb W C S ms bags) (hs : w.heap.size ≤ w'.heap.size) (hk : ∀ k, k < w.heap.size → (k = mb ∨ k = kb ∨ some k ∈ ms) → w'.heap[k]? = w.heap[k]?) : Mtr K w' mb kb W C S ms bags := by
  have hmlt : mb < w.heap.size := (Array.getElem?_eq_some_iff.1 h.z.hm).1
  have hklt : kb < w.heap.size := (Array.getElem?_eq_some_iff.1 h.z.hk).1
  refine ⟨⟨(hk mb hmlt (Or.inl rfl)).trans h.z.hm, (hk kb hklt (Or.inr (Or.inl rfl))).trans h.z.hk⟩, h.len, fun i m g h1 h2 => (h.sl i m g h1 h2).block (fun b hb => ?_), h.nd, h.hW, h.hC, h.hn, fun k hK => ?_⟩
  · subst hb
    have hm := List.mem_of_getElem? h1
    exact hk b (h.apart hm).2.2 (Or.inr (Or.inr hm))
  · obtain ⟨a1, a2⟩ := h.out k hK
    exact ⟨Nat.lt_of_lt_of_le a1 hs, a2⟩

/-- a meter of four slices that has these values in its present one -/
def Fill (K : Nat → Prop) (w : World) (mb : Nat) (l : List Nat) : Prop := ∃ (kb : Nat) (ms : List (Option Nat)), ms.length = 4 ∧ Mtr K w mb kb 100 0 MS.zero ms [l.map bucketN, [], [], []]

theorem num_of {v : Nat} (hv : v < 18446744073709551616) (h : numB v = true) : isNum v := ⟨hv, of_decide_eq_true h⟩

theorem erase_length : ∀ (n : Nat) (l : List Nat), l.length ≤ n → l.eraseDups.length ≤ l.length
  | 0, l, h => by
    have : l = [] := List.eq_nil_of_length_eq_zero (by omega)
    subst this; simp
  | n + 1, [], _ => by simp
  | n + 1, a :: r, h => by
    rw [List.eraseDups_cons]
    have h1 : (r.filter fun b => !b == a).length ≤ r.length := List.length_filter_le _ _
    have h2 := erase_length n (r.filter fun b => !b == a) (by simp at h; omega)
    simp only [List.length_cons]
    omega

theorem ksOf_length (bag : List Nat) : (ksOf bag).length ≤ bag.length := by
  unfold ksOf
  rw [List.length_mergeSort]
  exact erase_length _ bag (Nat.le_refl _)

theorem Fill.below {K : Nat → Prop} {w w' : World} {mb : Nat} {l : List Nat} (h : Fill K w mb l) (hb : Below w.heap.size w w') : Fill K w' mb l := by
  obtain ⟨kb, ms, h4, hM⟩ := h
  exact ⟨kb, ms, h4, hM.below hb⟩

theorem Fill.drewN {K : Nat → Prop} {w : World} {mb : Nat} {l : List Nat} (h : Fill K w mb l) (n : Nat) : Fill K (w.drewN n) mb l := by
  obtain ⟨kb, ms, h4, hM⟩ := h
  exact ⟨kb, ms, h4, hM.drewN n⟩

end Go.Proofs.YtgekdmjneogdoaaGreatDoor

namespace Go.Proofs.YtgekdmjneogdoaaGreatDoor
open Go.RowKit Go.Shelf Go.Maps

def cL (D : List Nat) (z t : Nat) : Nat := cntP (fun y => decide (ordI y < ordI z)) (D.take t)
def cE (D : List Nat) (z t : Nat) : Nat := cntP (fun y => decide (ordI y = ordI z)) (D.take t)

theorem cntP_snoc (p : Nat → Bool) (l : List Nat) (x : Nat) : cntP p (l ++ [x]) = cntP p l + (if p x then 1 else 0) := by
  unfold cntP
  rw [List.filter_append, List.length_append]
  by_cases h : p x = true
  · simp [h]
  · simp [h]

theorem cL_step (D : List Nat) (z t : Nat) (h : t < D.length) : cL D z (t + 1) = cL D z t + (if ordI (D.getD t 0) < ordI z then 1 else 0) := by
  unfold cL
  rw [List.take_succ_eq_append_getElem h, cntP_snoc]
  have e : D.getD t 0 = D[t] := by rw [List.getD_eq_getElem?_getD, List.getElem?_eq_getElem h]; rfl
  rw [e]
  simp

theorem cE_step (D : List Nat) (z t : Nat) (h : t < D.length) : cE D z (t + 1) = cE D z t + (if ordI (D.getD t 0) = ordI z then 1 else 0) := by
  unfold cE
  rw [List.take_succ_eq_append_getElem h, cntP_snoc]
  have e : D.getD t 0 = D[t] := by rw [List.getD_eq_getElem?_getD, List.getElem?_eq_getElem h]; rfl
  rw [e]
  simp

theorem cL_le (D : List Nat) (z t : Nat) : cL D z t ≤ t := Nat.le_trans (List.length_filter_le _ _) (by rw [List.length_take]; omega)
theorem cE_le (D : List Nat) (z t : Nat) : cE D z t ≤ t := Nat.le_trans (List.length_filter_le _ _) (by rw [List.length_take]; omega)

theorem cLE (D : List Nat) (z t : Nat) : cL D z t + cE D z t = cntP (fun y => decide (ordI y ≤ ordI z)) (D.take t) := by
  unfold cL cE
  induction D.take t with
  | nil => rfl
  | cons a r ih =>
    rw [cntP_cons, cntP_cons, cntP_cons, ← ih]
    rcases Int.lt_trichotomy (ordI a) (ordI z) with h | h | h
    · have k1 : ¬ ordI a = ordI z := by omega
      have k2 : ordI a ≤ ordI z := by omega
      simp only [h, k1, k2, decide_true, decide_false, if_true, Bool.false_eq_true, if_false]
      omega
    · simp only [h, decide_true, Int.lt_irrefl, decide_false, if_true, Bool.false_eq_true, if_false, Int.le_refl]
      omega
    · have k0 : ¬ ordI a < ordI z := by omega
      have k1 : ¬ ordI a = ordI z := by omega
      have k2 : ¬ ordI a ≤ ordI z := by omega
      simp only [k0, k1, k2, decide_false, Bool.false_eq_true, if_false]
      omega

/-- the value at a place has the rank -/
def hasRank (D : List Nat) (R t : Nat) : Prop := cL D (D.getD t 0) D.length < R ∧ R ≤ cL D (D.getD t 0) D.length + cE D (D.getD t 0) D.length

theorem some_rank (D : List Nat) (R : Nat) (h1 : 1 ≤ R) (h2 : R ≤ D.length) : ∃ t, t < D.length ∧ hasRank D R t := by
  obtain ⟨v, hv, k1, k2⟩ := exists_rank D R h1 h2
  obtain ⟨t, ht, rfl⟩ := List.mem_iff_getElem.1 hv
  refine ⟨t, ht, ?_⟩
  have e : D.getD t 0 = D[t] := by rw [List.getD_eq_getElem?_getD, List.getElem?_eq_getElem ht]; rfl
  unfold hasRank
  rw [e, cLE, List.take_length]
  unfold cL
  rw [List.take_length]
  exact ⟨k1, k2⟩

end Go.Proofs.YtgekdmjneogdoaaGreatDoor
