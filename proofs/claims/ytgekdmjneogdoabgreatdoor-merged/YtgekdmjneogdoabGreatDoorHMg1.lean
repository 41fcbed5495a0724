import Derived.Test.YtgekdmjneogdoabGreatDoorHAk1
import Derived.Test.YtgekdmjneogdoabGreatDoorHHp4
namespace Go.Proofs.YtgekdmjneogdoabGreatDoor
open Go.RowKit Go.Shelf Go.Maps

theorem take_snocS {l : List Smp} {j : Nat} (h : j < l.length) : l.take (j + 1) = l.take j ++ [l.getD j (0, 0)] := by
  rw [List.take_add_one, List.getD_eq_getElem?_getD, List.getElem?_eq_getElem h]
  rfl

set_option maxRecDepth 20000 in
set_option maxHeartbeats 1600000 in
theorem copied_ok (v : Value) (l : List Smp) (w : World) (hv : RdS (Under w) w v l) (hl : l.length ≤ 9223372036854775807) :
    Calls Tryz.prog 7 #[v] w fun e w' => ∃ u, e = .returned u ∧ w'.ownsRow w.heap.size 28 2 u (l.take 40).length (flat (l.take 40)) ∧ Below w.heap.size w w' := by
  obtain ⟨i0, hi, hz0, hz1, hz2⟩ := info_parts infoS
  obtain ⟨ao, cap, rfl, hcap, hce⟩ := hv
  have HC := hide hce
  clear hce
  generalize hL : l.length = L at *
  go_enter Tryz.func7, Tryz.ntmps7
  go_wp2_with fail
  go_loopw [3, 4] (fun s i wr => ∃ j : Nat, j ≤ L ∧ j ≤ 40 ∧ i = .int .i64 j ∧ Hid (wr.ownsRow w.heap.size 28 2 s j (flat (l.take j))) ∧ Hid (Below w.heap.size w wr)) (fun _ i _ => 40 - (RowKit.intOf i).toNat)
  case atStart => exact ⟨0, by omega, by omega, rfl, World.ownsRow_nil _ _ _ _, Below.refl _ _⟩
  case round =>
    obtain ⟨j, hjL, hj40, rfl, HO, HB⟩ := hrel
    by_cases hgo : j < L ∧ j < 40
    · obtain ⟨h1, h2⟩ := hgo
      obtain ⟨g, o, hgK, rfl, hce⟩ := unhide HC (by omega)
      have e1 := (hce j h1).1
      have e2 := (hce j h1).2
      have htk := take_snocS (l := l) (j := j) (by omega)
      have c1 : wr.cell? ⟨g, o + j * 2, none⟩ = some (.int .i64 (l.getD j (0, 0)).1) := by
        rw [Nat.mul_comm j 2]; exact ((unhide HB).cell (p := ⟨g, o + 2 * j, none⟩) hgK).trans e1
      have c2 : wr.cell? ⟨g, o + j * 2 + 1, none⟩ = some (.int .u64 (l.getD j (0, 0)).2) := by
        rw [Nat.mul_comm j 2]; exact ((unhide HB).cell (p := ⟨g, o + 2 * j + 1, none⟩) hgK).trans e2
      have HT := hide htk
      have ho := unhide HO
      have hsz := (unhide HB).size
      clear e1 e2 hce htk
      generalize hx : l.getD j (0, 0) = x at *
      obtain ⟨T, V⟩ := x
      have hd1 : decide ((j : Int) < (L : Int)) = true := by simp; omega
      have hd2 : decide ((j : Int) < 40) = true := by simp; omega
      go_wp2_with (first
        | (at_builtin; refine wpList_append_own_at _ rfl _ _ 24 rfl w.heap.size 28 i0 (.agg #[.int .i64 0, .int .u64 0]) 2 16 Tryz.underlying24 hi hz0 hz1 hz2 rfl (by decide) _ _ _ rfl (ho.alloc _) ⟨wr.heap.size, 0, none⟩ 1 1 [.int .i64 T, .int .u64 V] rfl rfl (cell_two_at _ _ _ _ _ rfl) (by intro u hu; simp at hu; rcases hu with rfl | rfl <;> rfl) (by unfold maxLen; omega) (by omega) (by simp; omega) ?_; intro v' W8 hown' hgrow _ hat)
        | go_in)
      have HO8 : Hid (W8.ownsRow w.heap.size 28 2 v' (j + 1) (flat (l.take (j + 1)))) := by
        show W8.ownsRow _ _ _ _ _ _
        rw [unhide HT, flat_snoc]; exact hown'
      have HB8 : Hid (Below w.heap.size w W8) := ((unhide HB).alloc hsz _).grown hgrow (by simp; omega) (fun k e => (ho.lt k e).1)
      clear hown' hgrow hat ho
      go_wp2_with fail
      go_roundw
      case rel => exact ⟨j + 1, by omega, by omega, rfl, HO8, HB8⟩
      case measure => simp [RowKit.intOf]; omega
    · have hj : j = min L 40 := by omega
      have htk : l.take 40 = l.take j := by
        rw [hj]
        rcases Nat.le_total L 40 with h | h
        · rw [Nat.min_eq_left h, List.take_of_length_le (by omega), List.take_of_length_le (by omega)]
        · rw [Nat.min_eq_right h]
      have hlt : (l.take j).length = j := by rw [List.length_take]; omega
      by_cases h1 : j < L
      · have hd1 : decide ((j : Int) < (L : Int)) = true := by simp; omega
        have hd2 : decide ((j : Int) < 40) = false := by simp; omega
        have HF := hide (And.intro htk hlt)
        clear htk hlt hj
        go_wp2_with fail
        go_ret
        refine ⟨_, rfl, ?_, unhide HB⟩
        rw [(unhide HF).1, (unhide HF).2]
        exact unhide HO
      · have hd1 : decide ((j : Int) < (L : Int)) = false := by simp; omega
        have HF := hide (And.intro htk hlt)
        clear htk hlt hj
        go_wp2_with fail
        go_ret
        refine ⟨_, rfl, ?_, unhide HB⟩
        rw [(unhide HF).1, (unhide HF).2]
        exact unhide HO
end Go.Proofs.YtgekdmjneogdoabGreatDoor

namespace Go.Proofs.YtgekdmjneogdoabGreatDoor
open Go.RowKit Go.Shelf Go.Maps

/-! the lists as the law turns them -/
def turnT (r : Bool) (prev : Int) (k : Nat) (t : Int) : Int := if r && decide (0 < k) then prev + ((pickN t 50 / 10 : Nat) : Int) else ((pickN t 50 : Nat) : Int)

def turnL (r : Bool) (i : Nat) : Nat → Int → List Smp → List Smp
  | _, _, [] => []
  | k, prev, x :: l => (turnT r prev k x.1, i * 100 + k) :: turnL r i (k + 1) (turnT r prev k x.1) l

theorem turnL_length (r : Bool) (i k : Nat) (prev : Int) (l : List Smp) : (turnL r i k prev l).length = l.length := by
  induction l generalizing k prev with
  | nil => rfl
  | cons x l ih => simp [turnL, ih]

theorem turnL_V (r : Bool) (i k : Nat) (prev : Int) (l : List Smp) (j : Nat) (h : j < l.length) : ((turnL r i k prev l).getD j (0, 0)).2 = i * 100 + (k + j) := by
  induction l generalizing k prev j with
  | nil => simp at h
  | cons x l ih =>
    cases j with
    | zero => simp [turnL]
    | succ j =>
      have := ih (k + 1) (turnT r prev k x.1) j (by simpa using h)
      simp only [turnL, List.getD_cons_succ]
      rw [this]; omega

/-- the time at a place -/
theorem turnL_T (r : Bool) (i k : Nat) (prev : Int) (l : List Smp) (j : Nat) (h : j < l.length) :
    ((turnL r i k prev l).getD j (0, 0)).1 = turnT r (if j = 0 then prev else ((turnL r i k prev l).getD (j - 1) (0, 0)).1) (k + j) (l.getD j (0, 0)).1 := by
  induction l generalizing k prev j with
  | nil => simp at h
  | cons x l ih =>
    cases j with
    | zero => simp [turnL]
    | succ j =>
      have := ih (k + 1) (turnT r prev k x.1) j (by simpa using h)
      simp only [turnL, List.getD_cons_succ]
      rw [this]
      cases j with
      | zero => simp
      | succ j => simp [Nat.add_comm, Nat.add_left_comm]

theorem turnT_bound (r : Bool) (prev : Int) (k : Nat) (t : Int) (h0 : 0 ≤ prev) (h1 : prev ≤ 50 + 5 * k) : 0 ≤ turnT r prev k t ∧ turnT r prev k t ≤ 50 + 5 * ((k + 1 : Nat) : Int) := by
  have h2 := pickN_lt t 50 (by omega)
  unfold turnT
  split <;> omega

theorem turnL_bound (r : Bool) (i k : Nat) (prev : Int) (l : List Smp) (h0 : 0 ≤ prev) (h1 : prev ≤ 50 + 5 * (k : Int)) (j : Nat) (h : j < l.length) :
    0 ≤ ((turnL r i k prev l).getD j (0, 0)).1 ∧ ((turnL r i k prev l).getD j (0, 0)).1 ≤ 50 + 5 * ((k + j + 1 : Nat) : Int) := by
  induction l generalizing k prev j with
  | nil => simp at h
  | cons x l ih =>
    have hb := turnT_bound r prev k x.1 h0 h1
    cases j with
    | zero => simp only [turnL, List.getD_cons_zero]; exact ⟨hb.1, by have := hb.2; push_cast at *; omega⟩
    | succ j =>
      have := ih (k + 1) (turnT r prev k x.1) hb.1 (by have := hb.2; push_cast at *; omega) j (by simpa using h)
      simp only [turnL, List.getD_cons_succ]
      refine ⟨this.1, ?_⟩
      have h3 := this.2
      push_cast at *
      omega

theorem turnL_rise (i : Nat) (l : List Smp) : RiseL (turnL true i 0 0 l) := fun k hk => by
  rw [turnL_length] at hk
  have h := turnL_T true i 0 0 l (k + 1) hk
  rw [if_neg (by omega), Nat.zero_add, Nat.add_sub_cancel] at h
  rw [h]
  unfold turnT
  rw [if_pos (by simp)]
  omega

/-- while the turning is under way -/
def halfL (r : Bool) (i : Nat) (l : List Smp) (k : Nat) : List Smp := (turnL r i 0 0 l).take k ++ l.drop k

theorem halfL_length (r : Bool) (i : Nat) (l : List Smp) (k : Nat) (h : k ≤ l.length) : (halfL r i l k).length = l.length := by
  simp [halfL, turnL_length]; omega

theorem halfL_full (r : Bool) (i : Nat) (l : List Smp) : halfL r i l l.length = turnL r i 0 0 l := by
  unfold halfL
  rw [List.drop_length, List.append_nil, List.take_of_length_le (by rw [turnL_length]; exact Nat.le_refl _)]

theorem halfL_at (r : Bool) (i : Nat) (l : List Smp) (k : Nat) (h : k < l.length) : (halfL r i l k).getD k (0, 0) = l.getD k (0, 0) := by
  unfold halfL
  rw [List.getD_eq_getElem?_getD, List.getD_eq_getElem?_getD, List.getElem?_append_right (by rw [List.length_take, turnL_length]; omega), List.length_take, turnL_length, Nat.min_eq_left (by omega), Nat.sub_self, List.getElem?_drop]
  simp

theorem halfL_before (r : Bool) (i : Nat) (l : List Smp) (k j : Nat) (h : k ≤ l.length) (hj : j < k) : (halfL r i l k).getD j (0, 0) = (turnL r i 0 0 l).getD j (0, 0) := by
  unfold halfL
  rw [List.getD_eq_getElem?_getD, List.getD_eq_getElem?_getD, List.getElem?_append_left (by rw [List.length_take, turnL_length]; omega), List.getElem?_take_of_lt hj]

theorem halfL_set (r : Bool) (i : Nat) (l : List Smp) (k : Nat) (h : k < l.length) : (halfL r i l k).set k ((turnL r i 0 0 l).getD k (0, 0)) = halfL r i l (k + 1) := by
  apply List.ext_getElem?
  intro j
  have hl := turnL_length r i 0 0 l
  by_cases e : j = k
  · subst e
    rw [List.getElem?_set_self (by rw [halfL_length _ _ _ _ (by omega)]; exact h)]
    unfold halfL
    rw [List.getElem?_append_left (by rw [List.length_take, hl]; omega), List.getElem?_take_of_lt (by omega), List.getD_eq_getElem?_getD, List.getElem?_eq_getElem (by rw [hl]; exact h)]
    rfl
  · rw [List.getElem?_set_ne (Ne.symm e)]
    unfold halfL
    rcases Nat.lt_or_ge j k with h1 | h1
    · rw [List.getElem?_append_left (by rw [List.length_take, hl]; omega), List.getElem?_append_left (by rw [List.length_take, hl]; omega), List.getElem?_take_of_lt h1, List.getElem?_take_of_lt (by omega)]
    · rw [List.getElem?_append_right (by rw [List.length_take, hl]; omega), List.getElem?_append_right (by rw [List.length_take, hl]; omega), List.length_take, List.length_take, hl, Nat.min_eq_left (by omega), Nat.min_eq_left (by omega), List.getElem?_drop, List.getElem?_drop]
      congr 1
      omega

theorem flat_set (l : List Smp) (k : Nat) (x : Smp) : ((flat l).set (k * 2) (.int .i64 x.1)).set (k * 2 + 1) (.int .u64 x.2) = flat (l.set k x) := by
  induction l generalizing k with
  | nil => simp [flat]
  | cons y r ih =>
    cases k with
    | zero => simp [flat]
    | succ k =>
      have := ih k
      rw [show (k + 1) * 2 + 1 = k * 2 + 1 + 1 + 1 by omega, show (k + 1) * 2 = k * 2 + 1 + 1 by omega]
      simpa [flat] using this

theorem flat_get0 (l : List Smp) (k : Nat) (h : k < l.length) : (flat l)[k * 2]? = some (.int .i64 (l.getD k (0, 0)).1) := by
  induction l generalizing k with
  | nil => simp at h
  | cons y r ih =>
    cases k with
    | zero => simp [flat]
    | succ k =>
      have := ih k (by simpa using h)
      rw [show (k + 1) * 2 = k * 2 + 1 + 1 by omega]
      simpa [flat] using this

theorem flat_get1 (l : List Smp) (k : Nat) (h : k < l.length) : (flat l)[k * 2 + 1]? = some (.int .u64 (l.getD k (0, 0)).2) := by
  induction l generalizing k with
  | nil => simp at h
  | cons y r ih =>
    cases k with
    | zero => simp [flat]
    | succ k =>
      have := ih k (by simpa using h)
      rw [show (k + 1) * 2 + 1 = k * 2 + 1 + 1 + 1 by omega]
      simpa [flat] using this

theorem flat_len (l : List Smp) : (flat l).length = l.length * 2 := by
  induction l with
  | nil => rfl
  | cons y r ih => simp only [flat, List.flatMap_cons, List.length_append, List.length_cons, List.length_nil] at *; omega

theorem rowVT {w : World} {B g m cap : Nat} {L : List Smp} (h : w.ownsRow B 28 2 (.slice (some ⟨g, 0, none⟩) m cap) m (flat L)) (k : Nat) (p : Int) (V : Nat) :
    ((w.setCell ⟨g, k * 2 + 1, none⟩ (.int .u64 V)).setCell ⟨g, k * 2, none⟩ (.int .i64 p)).ownsRow B 28 2 (.slice (some ⟨g, 0, none⟩) m cap) m (flat (L.set k (p, V))) ∧ w.grownBy ((w.setCell ⟨g, k * 2 + 1, none⟩ (.int .u64 V)).setCell ⟨g, k * 2, none⟩ (.int .i64 p)) (some g) := by
  have h1 := h.stored (k * 2 + 1) (.int .u64 V)
  have h2 := h1.1.stored (k * 2) (.int .i64 p)
  have e : ((flat L).set (k * 2 + 1) (.int .u64 V)).set (k * 2) (.int .i64 p) = flat (L.set k (p, V)) := by
    rw [List.set_comm _ _ (by omega)]
    exact flat_set L k (p, V)
  rw [e] at h2
  exact ⟨h2.1, ⟨h2.2.os.trans h1.2.os, h2.2.tape.trans h1.2.tape, h2.2.output.trans h1.2.output, Nat.le_trans h1.2.size h2.2.size, fun k hk hne => (h2.2.block k (Nat.lt_of_lt_of_le hk h1.2.size) hne).trans (h1.2.block k hk hne)⟩⟩

theorem flat_setT (L : List Smp) (k : Nat) (p T : Int) (V : Nat) (hk : k < L.length) : (flat (L.set k (p, V))).set (k * 2) (.int .i64 T) = flat (L.set k (T, V)) := by
  have h1 := flat_set (L.set k (p, V)) k (T, V)
  rw [List.set_set] at h1
  rw [← h1]
  have h2 : (flat (L.set k (p, V)))[k * 2 + 1]? = some (.int .u64 V) := by
    have := flat_get1 (L.set k (p, V)) k (by simpa using hk)
    rw [this]
    simp [hk]
  apply List.ext_getElem?
  intro j
  by_cases e : j = k * 2 + 1
  · subst e
    rw [List.getElem?_set_ne (by omega), h2, List.getElem?_set_self (by rw [List.length_set, flat_len, List.length_set]; omega)]
  · rw [List.getElem?_set_ne (i := k * 2 + 1) (by omega)]

theorem rowT {w : World} {B g m cap : Nat} {L : List Smp} {k : Nat} {p : Int} {V : Nat} (h : w.ownsRow B 28 2 (.slice (some ⟨g, 0, none⟩) m cap) m (flat (L.set k (p, V)))) (hk : k < L.length) (T : Int) :
    (w.setCell ⟨g, k * 2, none⟩ (.int .i64 T)).ownsRow B 28 2 (.slice (some ⟨g, 0, none⟩) m cap) m (flat (L.set k (T, V))) ∧ w.grownBy (w.setCell ⟨g, k * 2, none⟩ (.int .i64 T)) (some g) := by
  have h1 := h.stored (k * 2) (.int .i64 T)
  rw [flat_setT L k p T V hk] at h1
  exact h1
end Go.Proofs.YtgekdmjneogdoabGreatDoor

namespace Go.Proofs.YtgekdmjneogdoabGreatDoor
open Go.RowKit Go.Shelf Go.Maps

def KI (w : World) (v : Value) : Nat → Prop := fun k => k < w.heap.size ∧ v.ownBlock ≠ some k

abbrev nilP : Value × List Smp := (.slice none 0 0, [])

structure OutS (r : Bool) (w wr : World) (inV : Value) (vs0 vs : List (Value × List Smp)) : Prop where
  row : wr.ownsRow w.heap.size 24 1 inV vs.length (vs.map Prod.fst)
  rd : ∀ x ∈ vs, RdS (KI wr inV) wr x.1 x.2
  eqs : ∀ p, p < vs.length → (vs.getD p nilP).2 = turnL r p 0 0 (((vs0.getD p nilP).2).take 40)
  bel : Below w.heap.size w wr

theorem infoL : (Tryz.prog.info? 24).map (fun i => (i.zero, i.size, i.bytes)) = some (some (.slice none 0 0), 1, 24) := by kernel_rfl

theorem own_slice {w : World} {base : Nat} {e : TypeId} {size n : Nat} {v : Value} {xs : List Value} (h : w.ownsRow base e size v n xs) : ∃ ua uc, v = .slice ua n uc ∧ (0 < n → ∃ g, ua = some ⟨g, 0, none⟩) := by
  rcases h.2 with ⟨h1, h2⟩ | ⟨g, c, cur, h1, _⟩
  · subst h2; exact ⟨none, 0, h1, fun h => by omega⟩
  · exact ⟨_, c, h1, fun _ => ⟨g, rfl⟩⟩

theorem cell_one_at (w : World) (x : Value) (t : TypeId) (n : Nat) (hn : n = w.heap.size) : ∀ j u, [x][j]? = some u → (w.alloc (.cells #[x] t)).cell? ((⟨n, 0, none⟩ : Addr).add j) = some u := by
  subst hn; exact cell_one_new w x t

/-- a row of one's own as samples, in its own block -/
theorem rds_ownK {w : World} {base : Nat} {v : Value} {l : List Smp} {n : Nat} (h : w.ownsRow base 28 2 v n (flat l)) (hn : n = l.length) : RdS (fun k => base ≤ k ∧ k < w.heap.size) w v l := by
  have hlt := h.lt
  rcases h.2 with ⟨h1, h2⟩ | ⟨g, c, cur, h1, hb, hg, hc, _, _, htake⟩
  · have : l = [] := List.eq_nil_of_length_eq_zero (by omega)
    subst this
    exact ⟨none, 0, h1, Nat.le_refl _, fun h0 => absurd h0 (by simp)⟩
  · refine ⟨some ⟨g, 0, none⟩, c, by rw [h1, hn], by omega, fun h0 => ⟨g, 0, hlt g (by rw [h1]; rfl), rfl, fun j hj => ?_⟩⟩
    subst h1
    have e0 := (h.cellAt (j * 2) (by omega)).trans (flat_get0 l j hj)
    have e1 := (h.cellAt (j * 2 + 1) (by omega)).trans (flat_get1 l j hj)
    rw [Nat.zero_add, Nat.mul_comm 2 j]
    exact ⟨e0, e1⟩

theorem getD_snoc_lt {vs : List (Value × List Smp)} {x : Value × List Smp} {p : Nat} (h : p < vs.length) : (vs ++ [x]).getD p nilP = vs.getD p nilP := by
  rw [List.getD_eq_getElem?_getD, List.getD_eq_getElem?_getD, List.getElem?_append_left h]
theorem getD_snoc_eq {vs : List (Value × List Smp)} {x : Value × List Smp} : (vs ++ [x]).getD vs.length nilP = x := by
  rw [List.getD_eq_getElem?_getD, List.getElem?_append_right (Nat.le_refl _), Nat.sub_self]; rfl

/-- one list more -/
theorem OutS.snoc {r : Bool} {w wo wr W8 : World} {inV v' : Value} {vs0 vs : List (Value × List Smp)} {ua : Option Addr} {k uc : Nat} {l : List Smp} {ob : Obj} (h : OutS r w wo inV vs0 vs) (hl : l = ((vs0.getD vs.length nilP).2).take 40) (hk : l.length = k)
    (hown : wr.ownsRow wo.heap.size 28 2 (.slice ua k uc) k (flat (turnL r vs.length 0 0 l))) (hb3 : Below wo.heap.size wo wr) (hrow : W8.ownsRow w.heap.size 24 1 v' (vs.length + 1) (vs.map Prod.fst ++ [.slice ua k uc]))
    (hgrow : (wr.alloc ob).grownBy W8 inV.ownBlock) (hat : v'.ownBlock = inV.ownBlock ∨ v'.ownBlock = some (wr.alloc ob).heap.size) : OutS r w W8 v' vs0 (vs ++ [(.slice ua k uc, turnL r vs.length 0 0 l)]) := by
  have hs8 : wr.heap.size + 1 ≤ W8.heap.size := by have := hgrow.size; simpa using this
  have hs3 := hb3.size
  have hinlt : ∀ g, inV.ownBlock = some g → g < wo.heap.size := fun g e => (h.row.lt g e).2
  have hoth : ∀ g, g < wr.heap.size → inV.ownBlock ≠ some g → W8.heap[g]? = wr.heap[g]? := fun g hg hne => (hgrow.block g (by simp; omega) (fun e => hne e.symm)).trans (Below.heap_alloc wr ob g hg)
  have hnew : ∀ g, g < wr.heap.size → inV.ownBlock ≠ some g → v'.ownBlock ≠ some g := fun g hg hne e => by
    rcases hat with e2 | e2
    · exact hne (e2.symm.trans e)
    · rw [e2] at e
      injection e with e
      simp at e
      omega
  have hk1 : Kept (KI wo inV) wo W8 := ⟨hgrow.os.trans hb3.os, hgrow.tape.trans hb3.tape, hgrow.output.trans hb3.output, by omega, fun g hg => (hoth g (by have := hg.1; omega) hg.2).trans (hb3.block g hg.1)⟩
  refine ⟨?_, fun x hx => ?_, fun p hp => ?_, ?_⟩
  · rw [List.length_append, List.length_singleton, List.map_append]
    exact hrow
  · rcases List.mem_append.1 hx with hx | hx
    · exact rds_more ((h.rd x hx).kept hk1) (fun g hg => ⟨by have := hg.1; omega, hnew g (by have := hg.1; omega) hg.2⟩)
    · rw [List.mem_singleton.1 hx]
      have h1 := rds_ownK hown (by rw [turnL_length, hk])
      have hne : ∀ g, wo.heap.size ≤ g → inV.ownBlock ≠ some g := fun g hg e => by have := hinlt g e; omega
      refine rds_more (h1.kept ⟨hgrow.os, hgrow.tape, hgrow.output, by omega, fun g hg => hoth g hg.2 (hne g hg.1)⟩) (fun g hg => ⟨by have := hg.2; omega, hnew g hg.2 (hne g hg.1)⟩)
  · rw [List.length_append, List.length_singleton] at hp
    rcases Nat.lt_or_ge p vs.length with h1 | h1
    · rw [getD_snoc_lt h1]; exact h.eqs p h1
    · have e : p = vs.length := by omega
      subst e
      rw [getD_snoc_eq, ← hl]
  · refine h.bel.trans ⟨hgrow.os.trans hb3.os, hgrow.tape.trans hb3.tape, hgrow.output.trans hb3.output, by omega, fun g hg => ?_⟩
    have hsz := h.bel.size
    exact (hoth g (by omega) (fun e => by have := (h.row.lt g e).1; omega)).trans (hb3.block g (by omega))

def sumL (vs : List (Value × List Smp)) : Nat := (vs.map fun x => x.2.length).sum

theorem sumL_snoc (vs : List (Value × List Smp)) (x : Value × List Smp) : sumL (vs ++ [x]) = sumL vs + x.2.length := by simp [sumL]

theorem grow_two {w w1 w2 : World} {r : Option Nat} (h1 : w.grownBy w1 r) (h2 : w1.grownBy w2 r) : w.grownBy w2 r :=
  ⟨h2.os.trans h1.os, h2.tape.trans h1.tape, h2.output.trans h1.output, Nat.le_trans h1.size h2.size, fun k hk hne => (h2.block k (Nat.lt_of_lt_of_le hk h1.size) hne).trans (h1.block k hk hne)⟩

theorem OutS.rdl {r : Bool} {w wr : World} {inV : Value} {vs0 vs : List (Value × List Smp)} (h : OutS r w wr inV vs0 vs) : RdL (Under wr) wr inV vs := by
  obtain ⟨ua, uc, hv, hu⟩ := own_slice h.row
  have hcap : vs.length ≤ uc := by
    rcases h.row.2 with ⟨h1, h2⟩ | ⟨g, c, cur, h1, _, _, h5, _⟩
    · omega
    · rw [hv] at h1; cases h1; exact h5
  refine ⟨ua, uc, hv, hcap, fun x hx => rds_more (h.rd x hx) (fun k hk => hk.1), fun h0 => ?_⟩
  obtain ⟨g, rfl⟩ := hu h0
  have hrow := h.row
  rw [hv] at hrow
  refine ⟨g, 0, (hrow.lt g rfl).2, rfl, fun j hj => ?_⟩
  have := hrow.cellAt j (by omega)
  rw [Nat.zero_add, this, List.getElem?_map, List.getD_eq_getElem?_getD, List.getElem?_eq_getElem hj]
  rfl

def lsOf (vs : List (Value × List Smp)) : List (List Smp) := vs.map Prod.snd
theorem lsOf_getD (vs : List (Value × List Smp)) (p : Nat) : (lsOf vs).getD p [] = (vs.getD p nilP).2 := by
  unfold lsOf
  rw [List.getD_eq_getElem?_getD, List.getD_eq_getElem?_getD, List.getElem?_map]
  cases vs[p]? <;> rfl

theorem ins_ok (vs : List (Value × List Smp)) : ∀ (j : Nat) (pre : List (Value × List Smp)), pre.length = j → (∀ q ∈ insFrom j vs, j ≤ q.1 ∧ q.1 < j + vs.length ∧ q.2 = ((pre ++ vs).getD q.1 nilP).2) ∧ ((insFrom j vs).map Prod.fst).Nodup := by
  induction vs with
  | nil => intro j pre _; exact ⟨fun q hq => (by cases hq), by simp [insFrom]⟩
  | cons x r ih =>
    intro j pre hj
    obtain ⟨i1, i2⟩ := ih (j + 1) (pre ++ [x]) (by simp [hj])
    rw [insFrom]
    have hlive : ∀ q ∈ liveP (j, x.2), q = (j, x.2) := fun q hq => by
      unfold liveP at hq
      split at hq
      · cases hq
      · exact List.mem_singleton.1 hq
    refine ⟨fun q hq => ?_, ?_⟩
    · rcases List.mem_append.1 hq with hq | hq
      · rw [hlive q hq]
        refine ⟨Nat.le_refl _, by simp, ?_⟩
        rw [List.getD_eq_getElem?_getD, List.getElem?_append_right (by omega)]
        simp [hj]
      · have h1 := i1 q hq
        refine ⟨by omega, by have := h1.2.1; simp at this ⊢; omega, ?_⟩
        rw [h1.2.2, List.append_assoc]; rfl
    · rw [List.map_append, List.nodup_append]
      refine ⟨?_, i2, fun a ha b hb e => ?_⟩
      · unfold liveP; split <;> simp
      · subst e
        obtain ⟨q, hq, rfl⟩ := List.mem_map.1 ha
        obtain ⟨q2, hq2, e2⟩ := List.mem_map.1 hb
        have h1 := (i1 q2 hq2).1
        rw [hlive q hq] at e2
        simp at e2
        omega

theorem ins_PsOk (vs : List (Value × List Smp)) : PsOk (lsOf vs) (fun _ => 0) (insFrom 0 vs) := by
  obtain ⟨h1, h2⟩ := ins_ok vs 0 [] rfl
  refine ⟨fun q hq => ?_, h2⟩
  have := h1 q hq
  refine ⟨by unfold lsOf; rw [List.length_map]; omega, ?_⟩
  rw [lsOf_getD, this.2.2, List.nil_append]; rfl

theorem out_known {r : Bool} {w wr : World} {inV : Value} {vs0 vs : List (Value × List Smp)} (h : OutS r w wr inV vs0 vs) (h6 : vs.length ≤ 6) : Known (lsOf vs) := by
  refine ⟨by unfold lsOf; rw [List.length_map]; exact h6, fun p hp => ?_⟩
  have hp' : p < vs.length := by unfold lsOf at hp; rwa [List.length_map] at hp
  rw [lsOf_getD, h.eqs p hp']
  refine ⟨by rw [turnL_length, List.length_take]; omega, fun k hk => ?_⟩
  rw [turnL_length] at hk
  rw [turnL_V _ _ _ _ _ k hk, Nat.zero_add]

theorem out_rise {w wr : World} {inV : Value} {vs0 vs : List (Value × List Smp)} (h : OutS true w wr inV vs0 vs) : ∀ q ∈ insFrom 0 vs, RiseL q.2 := fun q hq => by
  have h1 := (ins_ok vs 0 [] rfl).1 q hq
  rw [List.nil_append] at h1
  rw [h1.2.2, h.eqs q.1 (by omega)]
  exact turnL_rise _ _

def atRow (out : List Smp) (i j : Nat) : List Value := (List.range i).map fun x => .int .i64 ((cntV out j x : Nat) : Int)

theorem atRow_zero (out : List Smp) (i : Nat) : atRow out i 0 = List.replicate i (.int .i64 0) := by
  unfold atRow
  apply List.ext_getElem?
  intro k
  rw [List.getElem?_map, List.getElem?_replicate]
  by_cases h : k < i
  · rw [List.getElem?_range h, if_pos h]; simp [cntV_zero]
  · rw [if_neg h, List.getElem?_eq_none (by simpa using h)]; rfl

theorem atRow_get (out : List Smp) (i j x : Nat) (h : x < i) : (atRow out i j)[x]? = some (.int .i64 ((cntV out j x : Nat) : Int)) := by
  unfold atRow
  rw [List.getElem?_map, List.getElem?_range h]; rfl

theorem atRow_set (out : List Smp) (i j : Nat) (hj : j < out.length) : (atRow out i j).set ((out.getD j (0, 0)).2 / 100) (.int .i64 ((cntV out j ((out.getD j (0, 0)).2 / 100) + 1 : Nat) : Int)) = atRow out i (j + 1) := by
  apply List.ext_getElem?
  intro k
  by_cases hk : k < i
  · rw [atRow_get out i (j + 1) k hk, cntV_succ out j k hj]
    by_cases e : (out.getD j (0, 0)).2 / 100 = k
    · subst e
      rw [List.getElem?_set_self (by simpa [atRow] using hk), if_pos rfl]
    · rw [List.getElem?_set_ne e, atRow_get out i j k hk, if_neg e]; rfl
  · rw [List.getElem?_eq_none (by simpa [atRow] using hk), List.getElem?_eq_none (by simpa [atRow] using hk)]

theorem infoI : (Tryz.prog.info? 3).map (fun i => (i.zero, i.size, i.bytes)) = some (some (.int .i64 0), 1, 8) := by kernel_rfl
end Go.Proofs.YtgekdmjneogdoabGreatDoor
