import Derived.Test.YtgekdmjneogdoabGreatDoorHChSpec
import Derived.Test.YtgekdmjneogdoabGreatDoorHChW6
import Derived.Test.YtgekdmjneogdoabGreatDoorHMq1
import Derived.WalkSmall
import Derived.Lib.SmallJoins
namespace Go.Proofs.YtgekdmjneogdoabGreatDoor

/-! heaps, plain -/
/-- what is left of a list: the slice, what it reads as, its list's place -/
structure QE where
  v : Value
  l : List Smp
  p : Nat

def QE.t (e : QE) : Int := (e.l.headD (0, 0)).1
abbrev QE.zero : QE := ⟨.slice none 0 0, [], 0⟩

def lessE (a b : QE) : Bool := decide (a.t < b.t) || (decide (a.t = b.t) && decide (a.p < b.p))
def leE (a b : QE) : Prop := a.t < b.t ∨ (a.t = b.t ∧ a.p ≤ b.p)

theorem lessE_true {a b : QE} (h : lessE a b = true) : leE a b := by
  simp [lessE] at h; unfold leE; omega
theorem lessE_false {a b : QE} (h : lessE a b = false) : leE b a := by
  simp [lessE] at h; unfold leE; omega
theorem leE_refl (a : QE) : leE a a := by unfold leE; omega
theorem leE_trans {a b c : QE} (h : leE a b) (h2 : leE b c) : leE a c := by unfold leE at *; omega

def HeapF (f : Nat → QE) (n : Nat) : Prop := ∀ i, 0 < i → i < n → leE (f ((i - 1) / 2)) (f i)
def swapF (f : Nat → QE) (i j : Nat) : Nat → QE := fun k => if k = i then f j else if k = j then f i else f k

theorem swapF_i (f : Nat → QE) (i j : Nat) : swapF f i j i = f j := by simp [swapF]
theorem swapF_j (f : Nat → QE) (i j : Nat) : swapF f i j j = f i := by
  unfold swapF; split
  · rename_i h; rw [h]
  · simp
theorem swapF_o (f : Nat → QE) (i j k : Nat) (h1 : k ≠ i) (h2 : k ≠ j) : swapF f i j k = f k := by simp [swapF, h1, h2]

/-- a heap but at j, on its way up -/
def UpI (f : Nat → QE) (n j : Nat) : Prop :=
  (∀ i, 0 < i → i < n → i ≠ j → leE (f ((i - 1) / 2)) (f i)) ∧ (∀ c, 0 < c → c < n → (c - 1) / 2 = j → 0 < j → leE (f ((j - 1) / 2)) (f c))

theorem UpI.start {f : Nat → QE} {n : Nat} (h : HeapF f n) : UpI f (n + 1) n :=
  ⟨fun i h1 h2 h3 => h i h1 (by omega), fun c h1 h2 h3 _ => by omega⟩

theorem UpI.root {f : Nat → QE} {n : Nat} (h : UpI f n 0) : HeapF f n := fun i h1 h2 => h.1 i h1 h2 (by omega)

theorem UpI.stop {f : Nat → QE} {n j : Nat} (h : UpI f n j) (hl : lessE (f j) (f ((j - 1) / 2)) = false) : HeapF f n := fun i h1 h2 => by
  by_cases e : i = j
  · subst e; exact lessE_false hl
  · exact h.1 i h1 h2 e

theorem UpI.step {f : Nat → QE} {n j : Nat} (h : UpI f n j) (hj : 0 < j) (hn : j < n) (hl : lessE (f j) (f ((j - 1) / 2)) = true) : UpI (swapF f ((j - 1) / 2) j) n ((j - 1) / 2) := by
  have hle := lessE_true hl
  generalize hi : (j - 1) / 2 = i at *
  have hij : i < j := by omega
  refine ⟨fun k h1 h2 h3 => ?_, fun c h1 h2 h3 h4 => ?_⟩
  · by_cases e : k = j
    · subst e
      rw [hi, swapF_i, swapF_j]; exact hle
    · rw [swapF_o f i j k h3 e]
      by_cases e1 : (k - 1) / 2 = i
      · rw [e1, swapF_i]
        have := h.1 k h1 h2 e
        rw [e1] at this
        exact leE_trans hle this
      · by_cases e2 : (k - 1) / 2 = j
        · rw [e2, swapF_j]
          have := h.2 k h1 h2 e2 hj
          rw [hi] at this
          exact this
        · rw [swapF_o f i j _ e1 e2]
          exact h.1 k h1 h2 e
  · have hg : (i - 1) / 2 < i := by omega
    rw [swapF_o f i j ((i - 1) / 2) (by omega) (by omega)]
    have h5 := h.1 i h4 (by omega) (by omega)
    by_cases e : c = j
    · subst e
      rw [swapF_j]; exact h5
    · rw [swapF_o f i j c (by omega) e]
      have := h.1 c h1 h2 e
      rw [h3] at this
      exact leE_trans h5 this

/-- a heap but below i, on its way down -/
def DnI (f : Nat → QE) (n i : Nat) : Prop :=
  (∀ k, 0 < k → k < n → (k - 1) / 2 ≠ i → leE (f ((k - 1) / 2)) (f k)) ∧ (∀ c, 0 < c → c < n → (c - 1) / 2 = i → 0 < i → leE (f ((i - 1) / 2)) (f c))

theorem DnI.start {f : Nat → QE} {n : Nat} (h : HeapF f (n + 1)) : DnI (swapF f 0 n) n 0 :=
  ⟨fun k h1 h2 h3 => by
    rw [swapF_o f 0 n k (by omega) (by omega), swapF_o f 0 n _ (by omega) (by omega)]
    exact h k h1 (by omega), fun c _ _ _ h => absurd h (by omega)⟩

theorem DnI.leaf {f : Nat → QE} {n i : Nat} (h : DnI f n i) (hn : n ≤ 2 * i + 1) : HeapF f n := fun k h1 h2 => h.1 k h1 h2 (by omega)

/-- the lesser child -/
def lesser (f : Nat → QE) (n i : Nat) : Nat := if decide (2 * i + 2 < n) && lessE (f (2 * i + 2)) (f (2 * i + 1)) then 2 * i + 2 else 2 * i + 1

theorem lesser_le (f : Nat → QE) (n i c : Nat) (h1 : 0 < c) (h2 : c < n) (h3 : (c - 1) / 2 = i) : leE (f (lesser f n i)) (f c) := by
  unfold lesser
  split
  · rename_i h
    simp only [Bool.and_eq_true, decide_eq_true_eq] at h
    rcases (by omega : c = 2 * i + 1 ∨ c = 2 * i + 2) with rfl | rfl
    · exact lessE_true h.2
    · exact leE_refl _
  · rename_i h
    rcases (by omega : c = 2 * i + 1 ∨ c = 2 * i + 2) with rfl | rfl
    · exact leE_refl _
    · have : lessE (f (2 * i + 2)) (f (2 * i + 1)) = false := by
        cases hb : lessE (f (2 * i + 2)) (f (2 * i + 1)) with
        | false => rfl
        | true => exact absurd (by simp [hb, h2]) h
      exact lessE_false this

theorem lesser_bounds (f : Nat → QE) (n i : Nat) (h : 2 * i + 1 < n) : (lesser f n i - 1) / 2 = i ∧ i < lesser f n i ∧ lesser f n i < n := by
  unfold lesser
  split
  · rename_i h; simp only [Bool.and_eq_true, decide_eq_true_eq] at h; omega
  · omega

theorem DnI.stop {f : Nat → QE} {n i : Nat} (h : DnI f n i) (hl : lessE (f (lesser f n i)) (f i) = false) : HeapF f n := fun k h1 h2 => by
  by_cases e : (k - 1) / 2 = i
  · rw [e]; exact leE_trans (lessE_false hl) (lesser_le f n i k h1 h2 e)
  · exact h.1 k h1 h2 e

theorem DnI.step {f : Nat → QE} {n i : Nat} (h : DnI f n i) (hn : 2 * i + 1 < n) (hl : lessE (f (lesser f n i)) (f i) = true) : DnI (swapF f i (lesser f n i)) n (lesser f n i) := by
  obtain ⟨b1, b2, b3⟩ := lesser_bounds f n i hn
  have hle := lessE_true hl
  have hmin := fun c h1 h2 h3 => lesser_le f n i c h1 h2 h3
  generalize lesser f n i = j at *
  refine ⟨fun k h1 h2 h3 => ?_, fun c h1 h2 h3 h4 => ?_⟩
  · by_cases e : k = j
    · subst e
      rw [b1, swapF_i, swapF_j]; exact hle
    · by_cases e1 : k = i
      · subst e1
        rw [swapF_i, swapF_o f k j _ (by omega) (by omega)]
        exact h.2 j (by omega) b3 b1 h1
      · rw [swapF_o f i j k e1 e]
        by_cases e2 : (k - 1) / 2 = i
        · rw [e2, swapF_i]; exact hmin k h1 h2 e2
        · rw [swapF_o f i j _ e2 h3]
          exact h.1 k h1 h2 e2
  · rw [b1, swapF_i, swapF_o f i j c (by omega) (by omega)]
    have := h.1 c h1 h2 (by omega)
    rw [h3] at this
    exact this

theorem HeapF.least {f : Nat → QE} {n : Nat} (h : HeapF f n) : ∀ k, k < n → leE (f 0) (f k) := by
  intro k
  induction k using Nat.strongRecOn with
  | ind k ih =>
    intro hk
    by_cases e : k = 0
    · subst e; exact leE_refl _
    · exact leE_trans (ih ((k - 1) / 2) (by omega) (by omega)) (h k (by omega) hk)

/-! the same of lists -/
def atE (es : List QE) (k : Nat) : QE := es.getD k QE.zero
def swapL (es : List QE) (i j : Nat) : List QE := (es.set i (atE es j)).set j (atE es i)

theorem swapL_length (es : List QE) (i j : Nat) : (swapL es i j).length = es.length := by simp [swapL]

theorem swapL_at (es : List QE) (i j : Nat) (hi : i < es.length) (hj : j < es.length) : atE (swapL es i j) = swapF (atE es) i j := by
  funext k
  unfold atE swapL swapF
  simp only [List.getD_eq_getElem?_getD, List.getElem?_set, List.length_set]
  by_cases e1 : k = j
  · subst e1
    rw [if_pos rfl, if_pos hj]
    split
    · rename_i h; subst h; simp [atE]
    · simp [atE]
  · rw [if_neg (Ne.symm e1)]
    by_cases e2 : k = i
    · subst e2
      simp [hi, atE]
    · rw [if_neg (Ne.symm e2), if_neg e2, if_neg e1]

theorem swapL_perm (es : List QE) (i j : Nat) (hi : i < es.length) (hj : j < es.length) : (swapL es i j).Perm es := by
  have h := List.set_set_perm hi hj
  have e1 : atE es j = es[j] := by simp [atE, hj]
  have e2 : atE es i = es[i] := by simp [atE, hi]
  unfold swapL
  rw [e1, e2]
  exact h

abbrev Heap (es : List QE) : Prop := HeapF (atE es) es.length
end Go.Proofs.YtgekdmjneogdoabGreatDoor

namespace Go.Proofs.YtgekdmjneogdoabGreatDoor
open Go.RowKit Go.Maps

/-! the heap in memory -/
def flatQ (es : List QE) : List Value := es.flatMap fun e => [e.v, .int .i64 e.p]

theorem flatQ_length (es : List QE) : (flatQ es).length = es.length * 2 := by
  induction es with
  | nil => rfl
  | cons e r ih => simp only [flatQ, List.flatMap_cons, List.length_append, List.length_cons, List.length_nil] at *; omega

theorem flatQ_get0 (es : List QE) (i : Nat) (h : i < es.length) : (flatQ es)[i * 2]? = some (atE es i).v := by
  induction es generalizing i with
  | nil => simp at h
  | cons e r ih =>
    cases i with
    | zero => simp [flatQ, atE]
    | succ i =>
      have := ih i (by simpa using h)
      rw [show (i + 1) * 2 = i * 2 + 1 + 1 by omega]
      simpa [flatQ, atE] using this

theorem flatQ_get1 (es : List QE) (i : Nat) (h : i < es.length) : (flatQ es)[i * 2 + 1]? = some (.int .i64 (atE es i).p) := by
  induction es generalizing i with
  | nil => simp at h
  | cons e r ih =>
    cases i with
    | zero => simp [flatQ, atE]
    | succ i =>
      have := ih i (by simpa using h)
      rw [show (i + 1) * 2 + 1 = i * 2 + 1 + 1 + 1 by omega]
      simpa [flatQ, atE] using this

theorem flatQ_set (es : List QE) (i : Nat) (e : QE) : ((flatQ es).set (i * 2) e.v).set (i * 2 + 1) (.int .i64 e.p) = flatQ (es.set i e) := by
  induction es generalizing i with
  | nil => simp [flatQ]
  | cons x r ih =>
    cases i with
    | zero => simp [flatQ]
    | succ i =>
      have := ih i
      rw [show (i + 1) * 2 + 1 = i * 2 + 1 + 1 + 1 by omega, show (i + 1) * 2 = i * 2 + 1 + 1 by omega]
      simpa [flatQ] using this

structure QS (K : Nat → Prop) (w : World) (qb : Nat) (sv : Value) (es : List QE) : Prop where
  hq : w.heap[qb]? = some (.cells #[sv] 97 (0, 0))
  own : w.ownsRow (qb + 1) 100 2 sv es.length (flatQ es)
  rd : ∀ e ∈ es, e.l ≠ [] ∧ RdS K w e.v e.l
  lo : ∀ k, K k → k < w.heap.size ∧ k ≠ qb ∧ sv.ownBlock ≠ some k

theorem QS.drewN {K : Nat → Prop} {w : World} {qb : Nat} {sv : Value} {es : List QE} (h : QS K w qb sv es) (n : Nat) : QS K (w.drewN n) qb sv es := ⟨h.hq, h.own, h.rd, h.lo⟩

theorem QS.at {K : Nat → Prop} {w : World} {qb : Nat} {sv : Value} {es : List QE} (h : QS K w qb sv es) {i : Nat} (hi : i < es.length) : (atE es i).l ≠ [] ∧ RdS K w (atE es i).v (atE es i).l := by
  apply h.rd
  unfold atE
  rw [List.getD_eq_getElem?_getD, List.getElem?_eq_getElem hi]
  exact List.getElem_mem _

theorem Kept.dN {K : Nat → Prop} {w w1 : World} (h : Kept K w w1) (n : Nat) : Kept K w (w1.drewN n) := ⟨h.os, h.tape, h.output, h.size, h.block⟩

/-- the first sample of what is left -/
theorem rds_first {K : Nat → Prop} {w : World} {v : Value} {l : List Smp} (h : RdS K w v l) (hl : l ≠ []) : ∃ g o cap, K g ∧ v = .slice (some ⟨g, o, none⟩) l.length cap ∧ l.length ≤ cap ∧ w.cell? ⟨g, o, none⟩ = some (.int .i64 (l.headD (0, 0)).1) ∧ w.cell? ⟨g, o + 1, none⟩ = some (.int .u64 (l.headD (0, 0)).2) := by
  obtain ⟨ao, cap, h1, h2, h3⟩ := h
  have hp : 0 < l.length := by cases l with | nil => exact absurd rfl hl | cons a r => simp
  obtain ⟨g, o, h4, h5, h6⟩ := h3 hp
  have h7 := h6 0 hp
  have e : l.getD 0 (0, 0) = l.headD (0, 0) := by cases l with | nil => rfl | cons a r => rfl
  rw [e] at h7
  exact ⟨g, o, cap, h4, by rw [h1, h5], h2, h7.1, h7.2⟩

set_option maxRecDepth 20000 in
set_option maxHeartbeats 800000 in
theorem less_any {K : Nat → Prop} {w : World} {qb : Nat} {sv : Value} {es : List QE} (h : QS K w qb sv es) (i j : Nat) (hi : i < es.length) (hj : j < es.length) (_hn : es.length ≤ 1000) :
    Calls Tryz.prog 303 #[sv, .int .i64 i, .int .i64 j] w fun e w' => e = .returned (.bool (lessE (atE es i) (atE es j))) ∧ ∃ n, w' = w.drewN n := by
  obtain ⟨g, cap, rfl⟩ := Go.Joins.ownsRow_form h.own (by omega)
  have a0 := (h.own.cellAt (i * 2) (by omega)).trans (flatQ_get0 es i hi)
  have a1 := (h.own.cellAt (i * 2 + 1) (by omega)).trans (flatQ_get1 es i hi)
  have b0 := (h.own.cellAt (j * 2) (by omega)).trans (flatQ_get0 es j hj)
  have b1 := (h.own.cellAt (j * 2 + 1) (by omega)).trans (flatQ_get1 es j hj)
  obtain ⟨hil, hir⟩ := h.at hi
  obtain ⟨hjl, hjr⟩ := h.at hj
  obtain ⟨gi, oi, ci, _, hvi, hci, ti, _⟩ := rds_first hir hil
  obtain ⟨gj, oj, cj, _, hvj, hcj, tj, _⟩ := rds_first hjr hjl
  rw [hvi] at a0
  rw [hvj] at b0
  have hpi : 0 < (atE es i).l.length := by cases hx : (atE es i).l with | nil => exact absurd hx hil | cons a r => simp
  have hpj : 0 < (atE es j).l.length := by cases hx : (atE es j).l with | nil => exact absurd hx hjl | cons a r => simp
  have hle : lessE (atE es i) (atE es j) = (decide ((atE es i).t < (atE es j).t) || (decide ((atE es i).t = (atE es j).t) && decide ((atE es i).p < (atE es j).p))) := rfl
  rw [hle]
  have ti' : w.cell? ⟨gi, oi, none⟩ = some (.int .i64 (atE es i).t) := ti
  have tj' : w.cell? ⟨gj, oj, none⟩ = some (.int .i64 (atE es j).t) := tj
  clear hle hil hir hjl hjr hvi hvj h ti tj
  generalize (atE es i).t = Ti at *
  generalize (atE es j).t = Tj at *
  generalize (atE es i).p = pi at *
  generalize (atE es j).p = pj at *
  generalize (atE es i).l.length = ni at *
  generalize (atE es j).l.length = nj at *
  generalize es.length = n at *
  rcases Int.lt_trichotomy Ti Tj with hc | hc | hc
  · have hd : decide (Ti < Tj) = true := by simp [hc]
    rw [hd]
    go_enter Tryz.func303, Tryz.ntmps303
    go_wp2_with fail
    go_quiet (fail)
    have a1' : (w.drewN nq).cell? ⟨g, i * 2 + 1, none⟩ = some (.int .i64 pi) := a1
    have b1' : (w.drewN nq).cell? ⟨g, j * 2 + 1, none⟩ = some (.int .i64 pj) := b1
    obtain ⟨w1, hw1⟩ : ∃ w1, w.drewN nq = w1 := ⟨_, rfl⟩
    have HW := hide (Exists.intro nq hw1.symm : ∃ q, w1 = w.drewN q)
    rw [hw1] at a1' b1' ⊢
    clear hw1
    go_wp2_with fail
    go_quiet (fail)
    go_wp2_with fail
    go_ret
    obtain ⟨q, hq⟩ := unhide HW
    exact ⟨rfl, q + nq, by rw [hq]; unfold World.drewN; rw [Nat.add_assoc]⟩
  · subst hc
    by_cases hp : pi < pj
    · have hd : decide (pi < pj) = true := by simp [hp]
      have hx : (decide (Ti < Ti) || (decide (Ti = Ti) && decide (pi < pj))) = true := by simp [hp]
      rw [hx]
      go_enter Tryz.func303, Tryz.ntmps303
      go_wp2_with fail
      go_quiet (fail)
      have a1' : (w.drewN nq).cell? ⟨g, i * 2 + 1, none⟩ = some (.int .i64 pi) := a1
      have b1' : (w.drewN nq).cell? ⟨g, j * 2 + 1, none⟩ = some (.int .i64 pj) := b1
      obtain ⟨w1, hw1⟩ : ∃ w1, w.drewN nq = w1 := ⟨_, rfl⟩
      have HW := hide (Exists.intro nq hw1.symm : ∃ q, w1 = w.drewN q)
      rw [hw1] at a1' b1' ⊢
      clear hw1
      go_wp2_with fail
      go_quiet (fail)
      go_wp2_with fail
      go_ret
      obtain ⟨q, hq⟩ := unhide HW
      exact ⟨rfl, q + nq, by rw [hq]; unfold World.drewN; rw [Nat.add_assoc]⟩
    · have hd : decide (pi < pj) = false := by simp [hp]
      have hx : (decide (Ti < Ti) || (decide (Ti = Ti) && decide (pi < pj))) = false := by simp [hp]
      rw [hx]
      go_enter Tryz.func303, Tryz.ntmps303
      go_wp2_with fail
      go_quiet (fail)
      have a1' : (w.drewN nq).cell? ⟨g, i * 2 + 1, none⟩ = some (.int .i64 pi) := a1
      have b1' : (w.drewN nq).cell? ⟨g, j * 2 + 1, none⟩ = some (.int .i64 pj) := b1
      obtain ⟨w1, hw1⟩ : ∃ w1, w.drewN nq = w1 := ⟨_, rfl⟩
      have HW := hide (Exists.intro nq hw1.symm : ∃ q, w1 = w.drewN q)
      rw [hw1] at a1' b1' ⊢
      clear hw1
      go_wp2_with fail
      go_quiet (fail)
      go_wp2_with fail
      go_ret
      obtain ⟨q, hq⟩ := unhide HW
      exact ⟨rfl, q + nq, by rw [hq]; unfold World.drewN; rw [Nat.add_assoc]⟩
  · have hd : decide (Ti < Tj) = false := by simp; omega
    have hne : (Ti == Tj) = false := by simp; omega
    have hx : (decide (Ti < Tj) || (decide (Ti = Tj) && decide (pi < pj))) = false := by simp; omega
    rw [hx]
    go_enter Tryz.func303, Tryz.ntmps303
    go_wp2_with fail
    go_quiet (fail)
    have a1' : (w.drewN nq).cell? ⟨g, i * 2 + 1, none⟩ = some (.int .i64 pi) := a1
    have b1' : (w.drewN nq).cell? ⟨g, j * 2 + 1, none⟩ = some (.int .i64 pj) := b1
    obtain ⟨w1, hw1⟩ : ∃ w1, w.drewN nq = w1 := ⟨_, rfl⟩
    have HW := hide (Exists.intro nq hw1.symm : ∃ q, w1 = w.drewN q)
    rw [hw1] at a1' b1' ⊢
    clear hw1
    go_wp2_with fail
    go_quiet (fail)
    go_wp2_with fail
    go_ret
    obtain ⟨q, hq⟩ := unhide HW
    exact ⟨rfl, q + nq, by rw [hq]; unfold World.drewN; rw [Nat.add_assoc]⟩
end Go.Proofs.YtgekdmjneogdoabGreatDoor

namespace Go.Proofs.YtgekdmjneogdoabGreatDoor
open Go.RowKit Go.Maps

theorem swap_row {w : World} {base : Nat} {g cap n : Nat} {es : List QE} (h : w.ownsRow base 100 2 (.slice (some ⟨g, 0, none⟩) n cap) n (flatQ es)) (i : Nat) (e : QE) :
    ((w.setCell ⟨g, i * 2, none⟩ e.v).setCell ⟨g, i * 2 + 1, none⟩ (.int .i64 e.p)).ownsRow base 100 2 (.slice (some ⟨g, 0, none⟩) n cap) n (flatQ (es.set i e)) ∧ w.grownBy ((w.setCell ⟨g, i * 2, none⟩ e.v).setCell ⟨g, i * 2 + 1, none⟩ (.int .i64 e.p)) (some g) := by
  have h1 := h.stored (i * 2) e.v
  have h2 := h1.1.stored (i * 2 + 1) (.int .i64 e.p)
  rw [flatQ_set] at h2
  exact ⟨h2.1, ⟨h2.2.os.trans h1.2.os, h2.2.tape.trans h1.2.tape, h2.2.output.trans h1.2.output, Nat.le_trans h1.2.size h2.2.size, fun k hk hne => (h2.2.block k (Nat.lt_of_lt_of_le hk h1.2.size) hne).trans (h1.2.block k hk hne)⟩⟩

theorem QS.reRow {K : Nat → Prop} {w w' : World} {qb g n cap : Nat} {es es' : List QE} (h : QS K w qb (.slice (some ⟨g, 0, none⟩) n cap) es) (hn : n = es.length) (hl : es'.length = es.length) (hsub : ∀ e ∈ es', e ∈ es)
    (ho : w'.ownsRow (qb + 1) 100 2 (.slice (some ⟨g, 0, none⟩) n cap) n (flatQ es')) (hg : w.grownBy w' (some g)) : QS K w' qb (.slice (some ⟨g, 0, none⟩) n cap) es' ∧ Kept K w w' := by
  have hgl : qb + 1 ≤ g := (h.own.lt g rfl).1
  have hqlt : qb < w.heap.size := (Array.getElem?_eq_some_iff.1 h.hq).1
  have hb : Kept K w w' := ⟨hg.os, hg.tape, hg.output, hg.size, fun k hk => hg.block k (h.lo k hk).1 (fun e => (h.lo k hk).2.2 e.symm)⟩
  exact ⟨⟨(hg.block qb hqlt (by simp; omega)).trans h.hq, by rw [hl, ← hn]; exact ho, fun e he => ⟨(h.rd e (hsub e he)).1, (h.rd e (hsub e he)).2.kept hb⟩, fun k hk => ⟨Nat.lt_of_lt_of_le (h.lo k hk).1 hg.size, (h.lo k hk).2⟩⟩, hb⟩

set_option maxRecDepth 20000 in
set_option maxHeartbeats 800000 in
theorem swap_any {K : Nat → Prop} {w : World} {qb : Nat} {sv : Value} {es : List QE} (h : QS K w qb sv es) (i j : Nat) (hi : i < es.length) (hj : j < es.length) (_hn : es.length ≤ 1000) :
    Calls Tryz.prog 306 #[sv, .int .i64 i, .int .i64 j] w fun e w' => e = .returned (.tuple #[]) ∧ QS K w' qb sv (swapL es i j) ∧ Kept K w w' := by
  obtain ⟨g, cap, rfl⟩ := Go.Joins.ownsRow_form h.own (by omega)
  have aw0 := (h.own.cellAt (i * 2) (by omega)).trans (flatQ_get0 es i hi)
  have aw1 := (h.own.cellAt (i * 2 + 1) (by omega)).trans (flatQ_get1 es i hi)
  have bw0 := (h.own.cellAt (j * 2) (by omega)).trans (flatQ_get0 es j hj)
  have bw1 := (h.own.cellAt (j * 2 + 1) (by omega)).trans (flatQ_get1 es j hj)
  have fw0 := h.own.frozenAt (i * 2)
  have fw1 := h.own.frozenAt (i * 2 + 1)
  have fw2 := h.own.frozenAt (j * 2)
  have fw3 := h.own.frozenAt (j * 2 + 1)
  have hw0 : QS K w.drew qb (.slice (some ⟨g, 0, none⟩) es.length cap) es := h.drewN 1
  have a0 : w.drew.cell? ⟨g, i * 2, none⟩ = some (atE es i).v := aw0
  have a1 : w.drew.cell? ⟨g, i * 2 + 1, none⟩ = some (.int .i64 (atE es i).p) := aw1
  have b0 : w.drew.cell? ⟨g, j * 2, none⟩ = some (atE es j).v := bw0
  have b1 : w.drew.cell? ⟨g, j * 2 + 1, none⟩ = some (.int .i64 (atE es j).p) := bw1
  have s1 := h.own.stored (i * 2) (atE es j).v
  have s2 := s1.1.stored (i * 2 + 1) (.int .i64 (atE es j).p)
  have bc0 : ∃ u, (w.setCell ⟨g, i * 2, none⟩ (atE es j).v).cell? ⟨g, j * 2, none⟩ = some u := ⟨_, (s1.1.cellAt (j * 2) (by omega)).trans (List.getElem?_eq_getElem (by rw [List.length_set, flatQ_length]; omega))⟩
  have bc1 : ∃ u, ((w.setCell ⟨g, i * 2, none⟩ (atE es j).v).setCell ⟨g, i * 2 + 1, none⟩ (.int .i64 (atE es j).p)).cell? ⟨g, j * 2 + 1, none⟩ = some u := ⟨_, (s2.1.cellAt (j * 2 + 1) (by omega)).trans (List.getElem?_eq_getElem (by rw [List.length_set, List.length_set, flatQ_length]; omega))⟩
  have r1 := swap_row hw0.own i (atE es j)
  have r2 := swap_row (by exact r1.1) j (atE es i)
  have hfin := hw0.reRow rfl (swapL_length es i j) (fun e he => (swapL_perm es i j hi hj).mem_iff.1 he) r2.1 ⟨r2.2.os.trans r1.2.os, r2.2.tape.trans r1.2.tape, r2.2.output.trans r1.2.output, Nat.le_trans r1.2.size r2.2.size, fun k hk hne => (r2.2.block k (Nat.lt_of_lt_of_le hk r1.2.size) hne).trans (r1.2.block k hk hne)⟩
  have HF := hide hfin
  obtain ⟨u2, bc0⟩ := bc0
  obtain ⟨u3, bc1⟩ := bc1
  obtain ⟨hil, hir⟩ := h.at hi
  obtain ⟨hjl, hjr⟩ := h.at hj
  obtain ⟨gi, oi, ci, _, hvi, _, _, _⟩ := rds_first hir hil
  obtain ⟨gj, oj, cj, _, hvj, _, _, _⟩ := rds_first hjr hjl
  simp only [hvi, hvj] at aw0 bw0 a0 b0 bc0 bc1 HF
  clear s1 s2 r1 r2 hfin hw0 h hil hir hjl hjr hvi hvj
  generalize (atE es i).p = pi at *
  generalize (atE es j).p = pj at *
  generalize (atE es i).l.length = ni at *
  generalize (atE es j).l.length = nj at *
  generalize hnn : es.length = n at *
  clear hnn
  go_enter Tryz.func306, Tryz.ntmps306
  go_wp2_with fail
  go_region
  all_goals
    go_wp2_with fail
    go_end0
    have hb := (unhide HF).2
    exact ⟨rfl, (unhide HF).1, ⟨hb.os, hb.tape, hb.output, hb.size, hb.block⟩⟩

set_option maxHeartbeats 400000 in
theorem len_any (a : Option Addr) (n cap : Nat) (w : World) :
    Calls Tryz.prog 24 #[.slice a n cap] w fun e w' => e = .returned (.int .i64 n) ∧ w' = w := by
  go_enter Tryz.func24, Tryz.ntmps24
  go_wp2_with fail
  go_ret
  exact ⟨rfl, rfl⟩

/-! methods by the heap's interface -/
abbrev hI (qb : Nat) : Value := .iface 56 (.pointer (some ⟨qb, 0, none⟩))

theorem load_queues (qb : Nat) (a : Option Addr) (n c : Nat) (w : World) (hq : w.cell? ⟨qb, 0, none⟩ = some (.slice a n c)) : (loadVar 97 ⟨qb, 0, none⟩).run Tryz.prog w = .ok (.slice a n c) w := by
  simp [go_sem, hq]
theorem m_less (fuel qb : Nat) (a : Option Addr) (n c : Nat) (w : World) (hq : w.cell? ⟨qb, 0, none⟩ = some (.slice a n c)) : (method (fuel + 1) 56 (.pointer (some ⟨qb, 0, none⟩)) "Less").run Tryz.prog w = .ok (303, .slice a n c) w := by
  have h : (method (fuel + 1) 56 (.pointer (some ⟨qb, 0, none⟩)) "Less").run Tryz.prog w = (do let v ← loadVar 97 ⟨qb, 0, none⟩; pure (303, v) : Sem (FuncId × Value)).run Tryz.prog w := by kernel_rfl
  rw [h]
  simp [load_queues qb a n c w hq]
theorem m_swap (fuel qb : Nat) (a : Option Addr) (n c : Nat) (w : World) (hq : w.cell? ⟨qb, 0, none⟩ = some (.slice a n c)) : (method (fuel + 1) 56 (.pointer (some ⟨qb, 0, none⟩)) "Swap").run Tryz.prog w = .ok (306, .slice a n c) w := by
  have h : (method (fuel + 1) 56 (.pointer (some ⟨qb, 0, none⟩)) "Swap").run Tryz.prog w = (do let v ← loadVar 97 ⟨qb, 0, none⟩; pure (306, v) : Sem (FuncId × Value)).run Tryz.prog w := by kernel_rfl
  rw [h]
  simp [load_queues qb a n c w hq]
theorem m_len (fuel qb : Nat) (a : Option Addr) (n c : Nat) (w : World) (hq : w.cell? ⟨qb, 0, none⟩ = some (.slice a n c)) : (method (fuel + 1) 56 (.pointer (some ⟨qb, 0, none⟩)) "Len").run Tryz.prog w = .ok (24, .slice a n c) w := by
  have h : (method (fuel + 1) 56 (.pointer (some ⟨qb, 0, none⟩)) "Len").run Tryz.prog w = (do let v ← loadVar 97 ⟨qb, 0, none⟩; pure (24, v) : Sem (FuncId × Value)).run Tryz.prog w := by kernel_rfl
  rw [h]
  simp [load_queues qb a n c w hq]
theorem m_push (fuel qb : Nat) (w : World) : (method (fuel + 1) 56 (.pointer (some ⟨qb, 0, none⟩)) "Push").run Tryz.prog w = .ok (305, .pointer (some ⟨qb, 0, none⟩)) w := by kernel_rfl
theorem m_pop (fuel qb : Nat) (w : World) : (method (fuel + 1) 56 (.pointer (some ⟨qb, 0, none⟩)) "Pop").run Tryz.prog w = .ok (304, .pointer (some ⟨qb, 0, none⟩)) w := by kernel_rfl

theorem QS.cell {K : Nat → Prop} {w : World} {qb : Nat} {sv : Value} {es : List QE} (h : QS K w qb sv es) : w.cell? ⟨qb, 0, none⟩ = some sv := by simp [World.cell?, h.hq]

set_option maxRecDepth 20000 in
set_option maxHeartbeats 1600000 in
theorem up_any {K : Nat → Prop} {w : World} {qb : Nat} {a : Option Addr} {n cap : Nat} {es : List QE} (h : QS K w qb (.slice a n cap) es) (hn : n = es.length) (j : Nat) (hj : j < n) (hn2 : n ≤ 1000) (hu : UpI (atE es) n j) :
    Calls Tryz.prog 115 #[hI qb, .int .i64 j] w fun e w' => e = .returned (.tuple #[]) ∧ Kept K w w' ∧ ∃ es', es'.Perm es ∧ Heap es' ∧ QS K w' qb (.slice a n cap) es' := by
  have H := hide h
  have HN := hide hn
  have HU := hide hu
  clear h hn hu
  go_enter Tryz.func115, Tryz.ntmps115
  go_wp2_with fail
  go_loopw [1, 4] (fun x _ wr => ∃ (k : Nat) (es' : List QE), k < n ∧ x = .int .i64 k ∧ Hid (QS K wr qb (.slice a n cap) es' ∧ es'.Perm es ∧ UpI (atE es') n k ∧ Kept K w wr)) (fun x _ _ => (RowKit.intOf x).toNat)
  case atStart => exact ⟨j, es, hj, rfl, ⟨unhide H, List.Perm.refl _, unhide HU, Kept.refl _ _⟩⟩
  case round =>
    obtain ⟨k, es', hk, rfl, HS⟩ := hrel
    have hlen : es'.length = n := by rw [(unhide HS).2.1.length_eq]; exact (unhide HN).symm
    have hml := fun f => m_less f qb a n cap wr (unhide HS).1.cell
    by_cases h0 : 0 < k
    · obtain ⟨p, hp⟩ : ∃ p, p = (k - 1) / 2 := ⟨_, rfl⟩
      have HPI : Hid (((k : Int) - 1) / 2 = (p : Int)) := by show ((k : Int) - 1) / 2 = (p : Int); omega
      have HP := hide hp
      have hpk : p < k := by omega
      have hne : ((p : Int) == (k : Int)) = false := by simp; omega
      clear hp
      cases hb : lessE (atE es' k) (atE es' p) with
      | true =>
        have HL := hide (less_any (unhide HS).1 k p (by omega) (by omega) (by omega))
        rw [hb] at HL
        have HBt := hide hb
        clear hb
        go_wp2_with fail
        rw [unhide HPI]
        refine (unhide HL).mono ?_
        rintro e w1 ⟨rfl, q, rfl⟩
        have HS1 : Hid (QS K (wr.drewN q) qb (.slice a n cap) es') := (unhide HS).1.drewN q
        have HSw := hide (swap_any (unhide HS1) p k (by omega) (by omega) (by omega))
        have hms := fun f => m_swap f qb a n cap (wr.drewN q) (unhide HS1).cell
        have HB1 : Hid (Kept K w (wr.drewN q)) := Kept.dN (unhide HS).2.2.2 q
        generalize wr.drewN q = w1 at *
        go_wp2_with fail
        refine (unhide HSw).mono ?_
        rintro e w2 ⟨rfl, hs2, hb2⟩
        have HS2 : Hid (QS K w2 qb (.slice a n cap) (swapL es' p k) ∧ (swapL es' p k).Perm es ∧ UpI (atE (swapL es' p k)) n p ∧ Kept K w w2) := by
          obtain ⟨h1, h2, h3, h4⟩ := unhide HS
          refine ⟨hs2, (swapL_perm es' p k (by omega) (by omega)).trans h2, ?_, (unhide HB1).trans hb2⟩
          rw [swapL_at es' p k (by omega) (by omega)]
          have h5 := unhide HP
          have h6 := unhide HBt
          rw [h5] at h6 ⊢
          exact h3.step h0 (by omega) h6
        clear hs2 hb2 HSw HS HS1 HB1 HL hml hms
        go_wp2_with fail
        go_roundw
        case rel => exact ⟨p, swapL es' p k, by omega, rfl, HS2⟩
        case measure => simp [RowKit.intOf]; omega
      | false =>
        have HL := hide (less_any (unhide HS).1 k p (by omega) (by omega) (by omega))
        rw [hb] at HL
        have HBt := hide hb
        clear hb
        go_wp2_with fail
        rw [unhide HPI]
        refine (unhide HL).mono ?_
        rintro e w1 ⟨rfl, q, rfl⟩
        go_wp2_with fail
        go_end0
        obtain ⟨h1, h2, h3, h4⟩ := unhide HS
        have h6 := unhide HBt
        rw [unhide HP] at h6
        exact ⟨rfl, Kept.dN h4 q, es', h2, by show HeapF _ _; rw [hlen]; exact h3.stop h6, h1.drewN q⟩
    · obtain rfl : k = 0 := by omega
      go_wp2_with fail
      go_end0
      obtain ⟨h1, h2, h3, h4⟩ := unhide HS
      exact ⟨rfl, h4, es', h2, by show HeapF _ _; rw [hlen]; exact h3.root, h1⟩
end Go.Proofs.YtgekdmjneogdoabGreatDoor

namespace Go.Proofs.YtgekdmjneogdoabGreatDoor
open Go.RowKit Go.Maps

set_option maxRecDepth 20000 in
set_option maxHeartbeats 3200000 in
theorem down_any {K : Nat → Prop} {w : World} {qb : Nat} {a : Option Addr} {n cap : Nat} {es : List QE} (h : QS K w qb (.slice a n cap) es) (hn : n = es.length) (m : Nat) (hm : m < n) (hn2 : n ≤ 1000) (hu : DnI (atE es) m 0) :
    Calls Tryz.prog 75 #[hI qb, .int .i64 0, .int .i64 m] w fun e w' => (∃ b, e = .returned (.bool b)) ∧ Kept K w w' ∧ ∃ es', es'.Perm es ∧ atE es' m = atE es m ∧ HeapF (atE es') m ∧ QS K w' qb (.slice a n cap) es' := by
  have H := hide h
  have HN := hide hn
  have HU := hide hu
  clear h hn hu
  go_enter Tryz.func75, Tryz.ntmps75
  go_wp2_with fail
  go_loopw [7, 8, 9, 10] (fun x _ _ _ wr => ∃ (i : Nat) (es' : List QE), i ≤ m ∧ x = .int .i64 i ∧ Hid (QS K wr qb (.slice a n cap) es' ∧ es'.Perm es ∧ atE es' m = atE es m ∧ DnI (atE es') m i ∧ Kept K w wr)) (fun x _ _ _ _ => m - (RowKit.intOf x).toNat)
  case atStart => exact ⟨0, es, Nat.zero_le _, rfl, ⟨unhide H, List.Perm.refl _, rfl, unhide HU, Kept.refl _ _⟩⟩
  case round =>
    obtain ⟨i, es', hi, rfl, HS⟩ := hrel
    have hlen : es'.length = n := by rw [(unhide HS).2.1.length_eq]; exact (unhide HN).symm
    have hml := fun f => m_less f qb a n cap wr (unhide HS).1.cell
    by_cases h1 : 2 * i + 1 < m
    · by_cases h2 : 2 * i + 2 < m
      · cases hb1 : lessE (atE es' (2 * i + 2)) (atE es' (2 * i + 1)) with
        | true =>
          have HL := hide (less_any (unhide HS).1 (2 * i + 2) (2 * i + 1) (by omega) (by omega) (by omega))
          rw [hb1] at HL
          have HJ : Hid (2 * i + 2 = lesser (atE es') m i) := by show 2 * i + 2 = lesser (atE es') m i; simp [lesser, hb1, h2]
          have HJ2 : Hid (i < 2 * i + 2 ∧ 2 * i + 2 < m) := ⟨by omega, by omega⟩
          clear hb1
          go_wp2_with fail
          rw [show 2 * (i : Int) + 1 + 1 = ((2 * i + 2 : Nat) : Int) from by omega, show 2 * (i : Int) + 1 = ((2 * i + 1 : Nat) : Int) from by omega]
          refine (unhide HL).mono ?_
          rintro e w2 ⟨rfl, q2, rfl⟩
          have HSx : Hid (QS K (wr.drewN q2) qb (.slice a n cap) es') := (unhide HS).1.drewN q2
          have HBx : Hid (Kept K w (wr.drewN q2)) := Kept.dN (unhide HS).2.2.2.2 q2
          have hml2 := fun f => m_less f qb a n cap (wr.drewN q2) (unhide HSx).cell
          generalize wr.drewN q2 = wx at *
          have hjb : 2 * i + 2 < m := by omega
          obtain ⟨j, hj⟩ : ∃ j, j = 2 * i + 2 := ⟨_, rfl⟩
          rw [← hj] at HJ HJ2 hjb ⊢
          have hji : i < j := (unhide HJ2).1
          clear hj HL
          cases hb2 : lessE (atE es' j) (atE es' i) with
          | true =>
            have HL2 := hide (less_any (unhide HSx) j i (by omega) (by omega) (by omega))
            rw [hb2] at HL2
            have HB2 := hide hb2
            clear hb2
            go_wp2_with fail
            refine (unhide HL2).mono ?_
            rintro e w3 ⟨rfl, q3, rfl⟩
            have HS3 : Hid (QS K (wx.drewN q3) qb (.slice a n cap) es') := (unhide HSx).drewN q3
            have HSw := hide (swap_any (unhide HS3) i j (by omega) (by omega) (by omega))
            have hms := fun f => m_swap f qb a n cap (wx.drewN q3) (unhide HS3).cell
            have HB3 : Hid (Kept K w (wx.drewN q3)) := Kept.dN (unhide HBx) q3
            generalize wx.drewN q3 = w3 at *
            go_wp2_with fail
            refine (unhide HSw).mono ?_
            rintro e w4 ⟨rfl, hs4, hb4⟩
            have HS4 : Hid (QS K w4 qb (.slice a n cap) (swapL es' i j) ∧ (swapL es' i j).Perm es ∧ atE (swapL es' i j) m = atE es m ∧ DnI (atE (swapL es' i j)) m j ∧ Kept K w w4) := by
              obtain ⟨h1', h2', h3', h4', h5'⟩ := unhide HS
              have hj := unhide HJ
              have hb := lesser_bounds (atE es') m i h1
              refine ⟨hs4, (swapL_perm es' i j (by omega) (by omega)).trans h2', ?_, ?_, (unhide HB3).trans hb4⟩
              · rw [swapL_at es' i j (by omega) (by omega), swapF_o _ _ _ _ (by omega) (by omega)]; exact h3'
              · rw [swapL_at es' i j (by omega) (by omega)]
                have h6 := unhide HB2
                rw [hj] at h6 ⊢
                exact h4'.step h1 h6
            clear hs4 hb4 HSw HS HS3 HB3 HL2 hml hms HSx HBx
            have hjm : j < m := (unhide HJ2).2
            have hij : i < j := (unhide HJ2).1
            go_wp2_with fail
            go_roundw
            case rel => exact ⟨j, swapL es' i j, by omega, rfl, HS4⟩
            case measure => simp [RowKit.intOf]; omega
          | false =>
            have HL2 := hide (less_any (unhide HSx) j i (by omega) (by omega) (by omega))
            rw [hb2] at HL2
            have HB2 := hide hb2
            clear hb2
            go_wp2_with fail
            refine (unhide HL2).mono ?_
            rintro e w3 ⟨rfl, q3, rfl⟩
            go_wp2_with fail
            go_ret
            obtain ⟨h1', h2', h3', h4', h5'⟩ := unhide HS
            have h6 := unhide HB2
            rw [unhide HJ] at h6
            exact ⟨⟨_, rfl⟩, Kept.dN (unhide HBx) q3, es', h2', h3', h4'.stop h6, (unhide HSx).drewN q3⟩
        | false =>
          have HL := hide (less_any (unhide HS).1 (2 * i + 2) (2 * i + 1) (by omega) (by omega) (by omega))
          rw [hb1] at HL
          have HJ : Hid (2 * i + 1 = lesser (atE es') m i) := by show 2 * i + 1 = lesser (atE es') m i; simp [lesser, hb1, h2]
          have HJ2 : Hid (i < 2 * i + 1 ∧ 2 * i + 1 < m) := ⟨by omega, by omega⟩
          clear hb1
          go_wp2_with fail
          rw [show 2 * (i : Int) + 1 + 1 = ((2 * i + 2 : Nat) : Int) from by omega, show 2 * (i : Int) + 1 = ((2 * i + 1 : Nat) : Int) from by omega]
          refine (unhide HL).mono ?_
          rintro e w2 ⟨rfl, q2, rfl⟩
          have HSx : Hid (QS K (wr.drewN q2) qb (.slice a n cap) es') := (unhide HS).1.drewN q2
          have HBx : Hid (Kept K w (wr.drewN q2)) := Kept.dN (unhide HS).2.2.2.2 q2
          have hml2 := fun f => m_less f qb a n cap (wr.drewN q2) (unhide HSx).cell
          generalize wr.drewN q2 = wx at *
          have hjb : 2 * i + 1 < m := by omega
          obtain ⟨j, hj⟩ : ∃ j, j = 2 * i + 1 := ⟨_, rfl⟩
          rw [← hj] at HJ HJ2 hjb ⊢
          have hji : i < j := (unhide HJ2).1
          clear hj HL
          cases hb2 : lessE (atE es' j) (atE es' i) with
          | true =>
            have HL2 := hide (less_any (unhide HSx) j i (by omega) (by omega) (by omega))
            rw [hb2] at HL2
            have HB2 := hide hb2
            clear hb2
            go_wp2_with fail
            refine (unhide HL2).mono ?_
            rintro e w3 ⟨rfl, q3, rfl⟩
            have HS3 : Hid (QS K (wx.drewN q3) qb (.slice a n cap) es') := (unhide HSx).drewN q3
            have HSw := hide (swap_any (unhide HS3) i j (by omega) (by omega) (by omega))
            have hms := fun f => m_swap f qb a n cap (wx.drewN q3) (unhide HS3).cell
            have HB3 : Hid (Kept K w (wx.drewN q3)) := Kept.dN (unhide HBx) q3
            generalize wx.drewN q3 = w3 at *
            go_wp2_with fail
            refine (unhide HSw).mono ?_
            rintro e w4 ⟨rfl, hs4, hb4⟩
            have HS4 : Hid (QS K w4 qb (.slice a n cap) (swapL es' i j) ∧ (swapL es' i j).Perm es ∧ atE (swapL es' i j) m = atE es m ∧ DnI (atE (swapL es' i j)) m j ∧ Kept K w w4) := by
              obtain ⟨h1', h2', h3', h4', h5'⟩ := unhide HS
              have hj := unhide HJ
              have hb := lesser_bounds (atE es') m i h1
              refine ⟨hs4, (swapL_perm es' i j (by omega) (by omega)).trans h2', ?_, ?_, (unhide HB3).trans hb4⟩
              · rw [swapL_at es' i j (by omega) (by omega), swapF_o _ _ _ _ (by omega) (by omega)]; exact h3'
              · rw [swapL_at es' i j (by omega) (by omega)]
                have h6 := unhide HB2
                rw [hj] at h6 ⊢
                exact h4'.step h1 h6
            clear hs4 hb4 HSw HS HS3 HB3 HL2 hml hms HSx HBx
            have hjm : j < m := (unhide HJ2).2
            have hij : i < j := (unhide HJ2).1
            go_wp2_with fail
            go_roundw
            case rel => exact ⟨j, swapL es' i j, by omega, rfl, HS4⟩
            case measure => simp [RowKit.intOf]; omega
          | false =>
            have HL2 := hide (less_any (unhide HSx) j i (by omega) (by omega) (by omega))
            rw [hb2] at HL2
            have HB2 := hide hb2
            clear hb2
            go_wp2_with fail
            refine (unhide HL2).mono ?_
            rintro e w3 ⟨rfl, q3, rfl⟩
            go_wp2_with fail
            go_ret
            obtain ⟨h1', h2', h3', h4', h5'⟩ := unhide HS
            have h6 := unhide HB2
            rw [unhide HJ] at h6
            exact ⟨⟨_, rfl⟩, Kept.dN (unhide HBx) q3, es', h2', h3', h4'.stop h6, (unhide HSx).drewN q3⟩
      · have HJ : Hid (2 * i + 1 = lesser (atE es') m i) := by show 2 * i + 1 = lesser (atE es') m i; simp [lesser, h2]
        have HJ2 : Hid (i < 2 * i + 1 ∧ 2 * i + 1 < m) := ⟨by omega, by omega⟩
        have HSx : Hid (QS K wr qb (.slice a n cap) es') := (unhide HS).1
        have HBx : Hid (Kept K w wr) := (unhide HS).2.2.2.2
        have hx1 : decide ((m : Int) ≤ 2 * (i : Int) + 1) = false := by simp; omega
        have hx2 : decide (2 * (i : Int) + 1 + 1 < (m : Int)) = false := by simp; omega
        cases hb2 : lessE (atE es' (2 * i + 1)) (atE es' i) with
        | true =>
          have HL2 := hide (less_any (unhide HSx) (2 * i + 1) i (by omega) (by omega) (by omega))
          rw [hb2] at HL2
          have HB2 := hide hb2
          clear hb2
          go_wp2_with fail
          rw [show 2 * (i : Int) + 1 = ((2 * i + 1 : Nat) : Int) from by omega]
          obtain ⟨j, hj⟩ : ∃ j, j = 2 * i + 1 := ⟨_, rfl⟩
          have hjb : 2 * i + 1 < m := by omega
          rw [← hj] at HJ HJ2 HL2 HB2 hjb ⊢
          have hji : i < j := (unhide HJ2).1
          clear hj hx1 hx2
          refine (unhide HL2).mono ?_
          rintro e w3 ⟨rfl, q3, rfl⟩
          have HS3 : Hid (QS K (wr.drewN q3) qb (.slice a n cap) es') := (unhide HSx).drewN q3
          have HSw := hide (swap_any (unhide HS3) i j (by omega) (by omega) (by omega))
          have hms := fun f => m_swap f qb a n cap (wr.drewN q3) (unhide HS3).cell
          have HB3 : Hid (Kept K w (wr.drewN q3)) := Kept.dN (unhide HBx) q3
          generalize wr.drewN q3 = w3 at *
          go_wp2_with fail
          refine (unhide HSw).mono ?_
          rintro e w4 ⟨rfl, hs4, hb4⟩
          have HS4 : Hid (QS K w4 qb (.slice a n cap) (swapL es' i j) ∧ (swapL es' i j).Perm es ∧ atE (swapL es' i j) m = atE es m ∧ DnI (atE (swapL es' i j)) m j ∧ Kept K w w4) := by
            obtain ⟨h1', h2', h3', h4', h5'⟩ := unhide HS
            have hj := unhide HJ
            have hb := lesser_bounds (atE es') m i h1
            refine ⟨hs4, (swapL_perm es' i j (by omega) (by omega)).trans h2', ?_, ?_, (unhide HB3).trans hb4⟩
            · rw [swapL_at es' i j (by omega) (by omega), swapF_o _ _ _ _ (by omega) (by omega)]; exact h3'
            · rw [swapL_at es' i j (by omega) (by omega)]
              have h6 := unhide HB2
              rw [hj] at h6 ⊢
              exact h4'.step h1 h6
          clear hs4 hb4 HSw HS HS3 HB3 HL2 hml hms HSx HBx
          have hjm : j < m := (unhide HJ2).2
          have hij : i < j := (unhide HJ2).1
          go_wp2_with fail
          go_roundw
          case rel => exact ⟨j, swapL es' i j, by omega, rfl, HS4⟩
          case measure => simp [RowKit.intOf]; omega
        | false =>
          have HL2 := hide (less_any (unhide HSx) (2 * i + 1) i (by omega) (by omega) (by omega))
          rw [hb2] at HL2
          have HB2 := hide hb2
          clear hb2
          go_wp2_with fail
          rw [show 2 * (i : Int) + 1 = ((2 * i + 1 : Nat) : Int) from by omega]
          obtain ⟨j, hj⟩ : ∃ j, j = 2 * i + 1 := ⟨_, rfl⟩
          have hjb : 2 * i + 1 < m := by omega
          rw [← hj] at HJ HJ2 HL2 HB2 hjb ⊢
          have hji : i < j := (unhide HJ2).1
          clear hj hx1 hx2
          refine (unhide HL2).mono ?_
          rintro e w3 ⟨rfl, q3, rfl⟩
          go_wp2_with fail
          go_ret
          obtain ⟨h1', h2', h3', h4', h5'⟩ := unhide HS
          have h6 := unhide HB2
          rw [unhide HJ] at h6
          exact ⟨⟨_, rfl⟩, Kept.dN (unhide HBx) q3, es', h2', h3', h4'.stop h6, (unhide HSx).drewN q3⟩
    · have hx1 : decide ((m : Int) ≤ 2 * (i : Int) + 1) = true := by simp; omega
      go_wp2_with fail
      go_ret
      obtain ⟨h1', h2', h3', h4', h5'⟩ := unhide HS
      exact ⟨⟨_, rfl⟩, h5', es', h2', h3', h4'.leaf (by omega), h1'⟩
end Go.Proofs.YtgekdmjneogdoabGreatDoor
