import Derived.Test.YtgekdmjneogdoaaGreatDoorZRm7
namespace Go.Proofs.YtgekdmjneogdoaaGreatDoor
open Go.RowKit Go.Shelf Go.Maps

/-! the samples of both meters: their slice, their bucket -/
abbrev Sb := Nat × Nat

def bagAt (l : List Sb) (cw i : Nat) : List Nat := (l.filter fun x => decide (x.1 + i = cw)).map (·.2)
def bagsOf (l : List Sb) (cw n : Nat) : List (List Nat) := (List.range n).map (bagAt l cw)
def lastB (l : List Sb) (cw k : Nat) : List Nat := (l.filter fun x => decide (cw < x.1 + k)).map (·.2)
def cntOf (l : List Sb) : List Cnt := l.map fun x => (x.1, ordI x.2)

theorem bagsOf_length (l : List Sb) (cw n : Nat) : (bagsOf l cw n).length = n := by simp [bagsOf]
theorem bagsOf_get (l : List Sb) (cw n i : Nat) (h : i < n) : (bagsOf l cw n)[i]? = some (bagAt l cw i) := by simp [bagsOf, h]

theorem bagsOf_nil (cw n : Nat) : bagsOf [] cw n = List.replicate n [] := by
  apply List.ext_getElem?
  intro i
  rcases Nat.lt_or_ge i n with hi | hi
  · rw [bagsOf_get [] cw n i hi, List.getElem?_replicate, if_pos hi]; rfl
  · rw [List.getElem?_eq_none (by rw [bagsOf_length]; exact hi), List.getElem?_eq_none (by simpa using hi)]

theorem bagAt_none (l : List Sb) (cw i : Nat) (h : ∀ x ∈ l, x.1 + i ≠ cw) : bagAt l cw i = [] := by
  unfold bagAt
  rw [List.map_eq_nil_iff, List.filter_eq_nil_iff]
  intro x hx
  simpa using h x hx

theorem bagsOf_shift (l : List Sb) (cw tw n : Nat) (hl : ∀ x ∈ l, x.1 ≤ cw) (h : cw ≤ tw) : shiftB (min (tw - cw) n) (bagsOf l cw n) = bagsOf l tw n := by
  apply List.ext_getElem?
  intro i
  have hlen := shiftB_length (min (tw - cw) n) (bagsOf l cw n) (by rw [bagsOf_length]; omega)
  rw [bagsOf_length] at hlen
  rcases Nat.lt_or_ge i n with hi | hi
  · rw [bagsOf_get l tw n i hi]
    unfold shiftB
    rw [bagsOf_length]
    rcases Nat.lt_or_ge i (min (tw - cw) n) with h1 | h1
    · rw [List.getElem?_append_left (by simpa using h1), List.getElem?_replicate, if_pos h1]
      rw [bagAt_none l tw i (fun x hx => by have := hl x hx; omega)]
    · rw [List.getElem?_append_right (by simpa using h1), List.length_replicate, List.getElem?_take_of_lt (by omega), bagsOf_get l cw n _ (by omega)]
      unfold bagAt
      congr 2
      apply List.filter_congr
      intro x _
      have : (x.1 + (i - min (tw - cw) n) = cw) ↔ (x.1 + i = tw) := by omega
      simp [this]
  · rw [List.getElem?_eq_none (by rw [hlen]; exact hi), List.getElem?_eq_none (by rw [bagsOf_length]; exact hi)]

theorem bagsOf_add (l : List Sb) (cw n s v a : Nat) (hs : s + a = cw) : bagsOf (l ++ [(s, v)]) cw n = (bagsOf l cw n).set a (bagAt l cw a ++ [v]) := by
  apply List.ext_getElem?
  intro i
  rcases Nat.lt_or_ge i n with hi | hi
  · rw [bagsOf_get _ cw n i hi]
    by_cases e : i = a
    · subst e
      rw [List.getElem?_set_self (by rw [bagsOf_length]; exact hi)]
      unfold bagAt
      rw [List.filter_append, List.map_append]
      simp [hs]
    · rw [List.getElem?_set_ne (Ne.symm e), bagsOf_get l cw n i hi]
      unfold bagAt
      rw [List.filter_append, List.map_append]
      have : ¬ s + i = cw := by omega
      simp [this]
  · rw [List.getElem?_eq_none (by rw [bagsOf_length]; exact hi), List.getElem?_eq_none (by rw [List.length_set, bagsOf_length]; exact hi)]

theorem filter_or_perm (p q r : Sb → Bool) : ∀ (l : List Sb), (∀ x ∈ l, r x = (p x || q x)) → (∀ x ∈ l, ¬ (p x = true ∧ q x = true)) → (l.filter p ++ l.filter q).Perm (l.filter r)
  | [], _, _ => by simp
  | a :: t, h1, h2 => by
    have ih := filter_or_perm p q r t (fun x hx => h1 x (by simp [hx])) (fun x hx => h2 x (by simp [hx]))
    have e := h1 a (by simp)
    have n := h2 a (by simp)
    cases hp : p a with
    | true =>
      have hq : q a = false := by
        cases hq : q a with
        | true => exact absurd ⟨hp, hq⟩ n
        | false => rfl
      have hr : r a = true := by rw [e, hp]; rfl
      simp only [List.filter_cons, hp, hq, hr, if_true, Bool.false_eq_true, if_false, List.cons_append]
      exact ih.cons a
    | false =>
      cases hq : q a with
      | true =>
        have hr : r a = true := by rw [e, hq]; simp
        simp only [List.filter_cons, hp, hq, hr, if_true, Bool.false_eq_true, if_false]
        exact List.perm_middle.trans (ih.cons a)
      | false =>
        have hr : r a = false := by rw [e, hp, hq]; rfl
        simp only [List.filter_cons, hp, hq, hr, Bool.false_eq_true, if_false]
        exact ih

theorem take_perm (l : List Sb) (cw n : Nat) (hl : ∀ x ∈ l, x.1 ≤ cw) : ∀ k, k ≤ n → ((bagsOf l cw n).take k).flatten.Perm (lastB l cw k)
  | 0, _ => by
    have : lastB l cw 0 = [] := by
      unfold lastB
      rw [List.map_eq_nil_iff, List.filter_eq_nil_iff]
      intro x hx
      have := hl x hx
      simp; omega
    rw [this]; simp
  | k + 1, hk => by
    have ih := take_perm l cw n hl k (by omega)
    rw [List.take_add_one, bagsOf_get l cw n k (by omega)]
    simp only [Option.toList_some, List.flatten_append, List.flatten_cons, List.flatten_nil, List.append_nil]
    refine (ih.append_right _).trans ?_
    unfold lastB bagAt
    rw [← List.map_append]
    refine List.Perm.map _ (filter_or_perm _ _ _ l (fun x hx => ?_) (fun x hx hh => ?_))
    · by_cases c1 : cw < x.1 + k
      · have c2 : cw < x.1 + (k + 1) := by omega
        simp [c1, c2]
      · by_cases c3 : x.1 + k = cw
        · have c2 : cw < x.1 + (k + 1) := by omega
          simp [c3, c2]
        · have c2 : ¬ cw < x.1 + (k + 1) := by omega
          simp [c1, c3, c2]
    · simp at hh
      omega

theorem lastB_length (l : List Sb) (cw k : Nat) : (lastB l cw k).length ≤ l.length := by
  unfold lastB
  rw [List.length_map]
  exact List.length_filter_le _ _

theorem bags_flat (l : List Sb) (cw n : Nat) (hl : ∀ x ∈ l, x.1 ≤ cw) : (bagsOf l cw n).flatten.length ≤ l.length := by
  have h := (take_perm l cw n hl n (Nat.le_refl _)).length_eq
  rw [List.take_of_length_le (by rw [bagsOf_length]; exact Nat.le_refl _)] at h
  rw [h]
  exact lastB_length l cw n

theorem lastB_mem (l : List Sb) (cw k : Nat) (p : Nat → Prop) (h : ∀ x ∈ l, p x.2) : ∀ x ∈ lastB l cw k, p x := by
  intro x hx
  obtain ⟨y, hy, rfl⟩ := List.mem_map.1 hx
  exact h y (List.mem_filter.1 hy).1

theorem lastC_cnt (l : List Sb) (cw k : Nat) : lastC (cntOf l) ((cw : Int) - (k : Int)) = (lastB l cw k).map ordI := by
  unfold lastC cntOf lastB
  rw [List.filter_map, List.map_map, List.map_map]
  have e : (l.filter ((fun x : Cnt => decide ((cw : Int) - (k : Int) < (x.1 : Int))) ∘ fun x : Sb => (x.1, ordI x.2))) = l.filter fun x => decide (cw < x.1 + k) := by
    apply List.filter_congr
    intro x _
    have : ((cw : Int) - (k : Int) < (x.1 : Int)) ↔ (cw < x.1 + k) := by omega
    simp [this]
  rw [e]
  rfl

theorem cntOf_length (l : List Sb) : (cntOf l).length = l.length := by simp [cntOf]
theorem cntOf_snoc (l : List Sb) (x : Sb) : cntOf (l ++ [x]) = cntOf l ++ [(x.1, ordI x.2)] := by simp [cntOf]

/-- what the two quantiles tell is the same -/
theorem rank_same (D : List Nat) (hB : ∀ x ∈ D, isB x) (R i : Nat) (hi : i < D.length) (h : hasRank D R i) : rankOf (fun k => D.count k) (ksOf D) R = D.getD i 0 := by
  unfold hasRank at h
  rw [cLE, List.take_length] at h
  unfold cL at h
  rw [List.take_length] at h
  exact rank_bag D hB (D.getD i 0) R (getD_mem D i hi) h.1 h.2
end Go.Proofs.YtgekdmjneogdoaaGreatDoor

namespace Go.Proofs.YtgekdmjneogdoaaGreatDoor
open Go.RowKit Go.Shelf Go.Maps

set_option maxRecDepth 20000 in
set_option maxHeartbeats 800000 in
theorem quant_bad {w : World} {mb kb W C : Nat} {S : MS} {ms : List (Option Nat)} (h : Mt0 w mb kb W C S ms) (k a b : Int) (hp : ¬ partOk ms.length k a b) :
    Calls Tryz.prog 28 #[.pointer (some ⟨mb, 0, none⟩), .int .i64 k, .int .i64 a, .int .i64 b] w fun e w' => e = .returned (.tuple #[.int .u64 0, .int .i64 5]) ∧ w' = w := by
  have c2 := h.c2
  generalize ms.length = n at *
  unfold partOk at hp
  clear h
  by_cases g0 : 1 ≤ k
  case neg =>
    have f0 : decide (k < 1) = true := by simp; omega
    clear hp
    go_enter Tryz.func28, Tryz.ntmps28
    go_wp2_with fail
    go_ret2
    exact ⟨rfl, rfl⟩
  by_cases g1 : k ≤ n
  case neg =>
    have f0 : decide (k < 1) = false := by simp; omega
    have f1 : decide ((n : Int) < k) = true := by simp; omega
    clear hp
    go_enter Tryz.func28, Tryz.ntmps28
    go_wp2_with fail
    go_ret2
    exact ⟨rfl, rfl⟩
  by_cases g2 : 1 ≤ b
  case neg =>
    have f0 : decide (k < 1) = false := by simp; omega
    have f1 : decide ((n : Int) < k) = false := by simp; omega
    have f2 : decide (b < 1) = true := by simp; omega
    clear hp
    go_enter Tryz.func28, Tryz.ntmps28
    go_wp2_with fail
    go_ret2
    exact ⟨rfl, rfl⟩
  by_cases g3 : b ≤ 1000
  case neg =>
    have f0 : decide (k < 1) = false := by simp; omega
    have f1 : decide ((n : Int) < k) = false := by simp; omega
    have f2 : decide (b < 1) = false := by simp; omega
    have f3 : decide (1000 < b) = true := by simp; omega
    clear hp
    go_enter Tryz.func28, Tryz.ntmps28
    go_wp2_with fail
    go_ret2
    exact ⟨rfl, rfl⟩
  by_cases g4 : 0 ≤ a
  case neg =>
    have f0 : decide (k < 1) = false := by simp; omega
    have f1 : decide ((n : Int) < k) = false := by simp; omega
    have f2 : decide (b < 1) = false := by simp; omega
    have f3 : decide (1000 < b) = false := by simp; omega
    have f4 : decide (a < 0) = true := by simp; omega
    clear hp
    go_enter Tryz.func28, Tryz.ntmps28
    go_wp2_with fail
    go_ret2
    exact ⟨rfl, rfl⟩
  by_cases g5 : a ≤ b
  case neg =>
    have f0 : decide (k < 1) = false := by simp; omega
    have f1 : decide ((n : Int) < k) = false := by simp; omega
    have f2 : decide (b < 1) = false := by simp; omega
    have f3 : decide (1000 < b) = false := by simp; omega
    have f4 : decide (a < 0) = false := by simp; omega
    have f5 : decide (b < a) = true := by simp; omega
    clear hp
    go_enter Tryz.func28, Tryz.ntmps28
    go_wp2_with fail
    go_ret2
    exact ⟨rfl, rfl⟩
  exact absurd ⟨g0, g1, g2, g3, g4, g5⟩ hp

set_option maxRecDepth 20000 in
set_option maxHeartbeats 400000 in
theorem count_bad {w : World} {mb kb W C : Nat} {S : MS} {ms : List (Option Nat)} (h : Mt0 w mb kb W C S ms) (k : Int) (hp : ¬ (1 ≤ k ∧ k ≤ ms.length)) :
    Calls Tryz.prog 33 #[.pointer (some ⟨mb, 0, none⟩), .int .i64 k] w fun e w' => e = .returned (.tuple #[.int .i64 0, .int .i64 5]) ∧ w' = w := by
  have c2 := h.c2
  generalize ms.length = n at *
  clear h
  by_cases g0 : 1 ≤ k
  case neg =>
    have f0 : decide (k < 1) = true := by simp; omega
    clear hp
    go_enter Tryz.func33, Tryz.ntmps33
    go_wp2_with fail
    go_ret2
    exact ⟨rfl, rfl⟩
  by_cases g1 : k ≤ n
  case neg =>
    have f0 : decide (k < 1) = false := by simp; omega
    have f1 : decide ((n : Int) < k) = true := by simp; omega
    clear hp
    go_enter Tryz.func33, Tryz.ntmps33
    go_wp2_with fail
    go_ret2
    exact ⟨rfl, rfl⟩
  exact absurd ⟨g0, g1⟩ hp

def newOk (n wd : Int) : Prop := 1 ≤ n ∧ n ≤ 8 ∧ 1 ≤ wd ∧ wd ≤ 1000000

set_option maxRecDepth 20000 in
set_option maxHeartbeats 400000 in
theorem new_bad (n wd : Int) (hp : ¬ newOk n wd) (w : World) :
    Calls Tryz.prog 30 #[.int .i64 n, .int .i64 wd] w fun e w' => e = .returned (.tuple #[.pointer none, .int .i64 5]) ∧ w' = w := by
  unfold newOk at hp
  by_cases g0 : 1 ≤ n
  case neg =>
    have f0 : decide (n < 1) = true := by simp; omega
    clear hp
    go_enter Tryz.func30, Tryz.ntmps30
    go_wp2_with fail
    go_ret2
    exact ⟨rfl, rfl⟩
  by_cases g1 : n ≤ 8
  case neg =>
    have f0 : decide (n < 1) = false := by simp; omega
    have f1 : decide (8 < n) = true := by simp; omega
    clear hp
    go_enter Tryz.func30, Tryz.ntmps30
    go_wp2_with fail
    go_ret2
    exact ⟨rfl, rfl⟩
  by_cases g2 : 1 ≤ wd
  case neg =>
    have f0 : decide (n < 1) = false := by simp; omega
    have f1 : decide (8 < n) = false := by simp; omega
    have f2 : decide (wd < 1) = true := by simp; omega
    clear hp
    go_enter Tryz.func30, Tryz.ntmps30
    go_wp2_with fail
    go_ret2
    exact ⟨rfl, rfl⟩
  by_cases g3 : wd ≤ 1000000
  case neg =>
    have f0 : decide (n < 1) = false := by simp; omega
    have f1 : decide (8 < n) = false := by simp; omega
    have f2 : decide (wd < 1) = false := by simp; omega
    have f3 : decide (1000000 < wd) = true := by simp; omega
    clear hp
    go_enter Tryz.func30, Tryz.ntmps30
    go_wp2_with fail
    go_ret2
    exact ⟨rfl, rfl⟩
  exact absurd ⟨g0, g1, g2, g3⟩ hp

set_option maxRecDepth 20000 in
set_option maxHeartbeats 400000 in
theorem refnew_bad (n wd : Int) (hp : ¬ newOk n wd) (w : World) :
    Calls Tryz.prog 65 #[.int .i64 n, .int .i64 wd] w fun e w' => e = .returned (.tuple #[.pointer none, .int .i64 5]) ∧ w' = w := by
  unfold newOk at hp
  by_cases g0 : 1 ≤ n
  case neg =>
    have f0 : decide (n < 1) = true := by simp; omega
    clear hp
    go_enter Tryz.func65, Tryz.ntmps65
    go_wp2_with fail
    go_ret2
    exact ⟨rfl, rfl⟩
  by_cases g1 : n ≤ 8
  case neg =>
    have f0 : decide (n < 1) = false := by simp; omega
    have f1 : decide (8 < n) = true := by simp; omega
    clear hp
    go_enter Tryz.func65, Tryz.ntmps65
    go_wp2_with fail
    go_ret2
    exact ⟨rfl, rfl⟩
  by_cases g2 : 1 ≤ wd
  case neg =>
    have f0 : decide (n < 1) = false := by simp; omega
    have f1 : decide (8 < n) = false := by simp; omega
    have f2 : decide (wd < 1) = true := by simp; omega
    clear hp
    go_enter Tryz.func65, Tryz.ntmps65
    go_wp2_with fail
    go_ret2
    exact ⟨rfl, rfl⟩
  by_cases g3 : wd ≤ 1000000
  case neg =>
    have f0 : decide (n < 1) = false := by simp; omega
    have f1 : decide (8 < n) = false := by simp; omega
    have f2 : decide (wd < 1) = false := by simp; omega
    have f3 : decide (1000000 < wd) = true := by simp; omega
    clear hp
    go_enter Tryz.func65, Tryz.ntmps65
    go_wp2_with fail
    go_ret2
    exact ⟨rfl, rfl⟩
  exact absurd ⟨g0, g1, g2, g3⟩ hp

end Go.Proofs.YtgekdmjneogdoaaGreatDoor

namespace Go.Proofs.YtgekdmjneogdoaaGreatDoor
open Go.RowKit Go.Shelf Go.Maps

def OwX (mb kb : Nat) (ms : List (Option Nat)) (k : Nat) : Prop := k = mb ∨ k = kb ∨ some k ∈ ms
def OwY (yb : Nat) (v : Value) (k : Nat) : Prop := k = yb ∨ v.ownBlock = some k
def OwP (mb kb : Nat) (ms : List (Option Nat)) (yb : Nat) (v : Value) (k : Nat) : Prop := OwX mb kb ms k ∨ OwY yb v k

theorem Mtr.reK {K J : Nat → Prop} {w : World} {mb kb W C : Nat} {S : MS} {ms : List (Option Nat)} {bags : List (List Nat)} (h : Mtr K w mb kb W C S ms bags) (hj : ∀ k, J k → k < w.heap.size ∧ ¬ OwX mb kb ms k) : Mtr J w mb kb W C S ms bags :=
  ⟨h.z, h.len, h.sl, h.nd, h.hW, h.hC, h.hn, fun k hk => by
    obtain ⟨h1, h2⟩ := hj k hk
    exact ⟨h1, fun e => h2 (Or.inl e), fun e => h2 (Or.inr (Or.inl e)), fun e => h2 (Or.inr (Or.inr e))⟩⟩

theorem RMt.reK {K J : Nat → Prop} {w : World} {yb n W C : Nat} {v : Value} {s : RuleS} {l : List Cnt} (h : RMt K w yb n W C v s l) (hj : ∀ k, J k → k < w.heap.size ∧ ¬ OwY yb v k) : RMt J w yb n W C v s l :=
  ⟨h.hm, h.own, fun g hg hk => (hj g hk).2 (Or.inr hg), fun hk => (hj yb hk).2 (Or.inl rfl), fun k hk => (hj k hk).1, h.hW, h.hC, h.hn⟩

theorem RMt.kept {K J : Nat → Prop} {w w' : World} {yb n W C : Nat} {v : Value} {s : RuleS} {l : List Cnt} (h : RMt K w yb n W C v s l) (hk : Kept J w w') (hj : ∀ k, OwY yb v k → J k) : RMt (fun _ => False) w' yb n W C v s l := by
  refine ⟨(hk.block yb (hj yb (Or.inl rfl))).trans h.hm, ⟨h.own.1, ?_⟩, fun _ _ hf => hf, fun hf => hf, fun _ hf => hf.elim, h.hW, h.hC, h.hn⟩
  rcases h.own.2 with h0 | ⟨g, cap, cur, rfl, hb, hgg, rest⟩
  · exact Or.inl h0
  · exact Or.inr ⟨g, cap, cur, rfl, hb, (hk.block g (hj g (Or.inr rfl))).trans hgg, rest⟩

/-- the blocks are there -/
theorem Mtr.own_lt {K : Nat → Prop} {w : World} {mb kb W C : Nat} {S : MS} {ms : List (Option Nat)} {bags : List (List Nat)} (h : Mtr K w mb kb W C S ms bags) : ∀ k, OwX mb kb ms k → k < w.heap.size := by
  rintro k (rfl | rfl | hk)
  · exact (Array.getElem?_eq_some_iff.1 h.z.hm).1
  · exact (Array.getElem?_eq_some_iff.1 h.z.hk).1
  · exact (h.apart hk).2.2

theorem RMt.own_lt {K : Nat → Prop} {w : World} {yb n W C : Nat} {v : Value} {s : RuleS} {l : List Cnt} (h : RMt K w yb n W C v s l) : ∀ k, OwY yb v k → k < w.heap.size := by
  rintro k (rfl | hk)
  · exact (Array.getElem?_eq_some_iff.1 h.hm).1
  · exact (h.own.lt k hk).2

/-- what a block of the program's meter is -/
theorem Mtr.what {K : Nat → Prop} {w : World} {mb kb W C : Nat} {S : MS} {ms : List (Option Nat)} {bags : List (List Nat)} (h : Mtr K w mb kb W C S ms bags) (k : Nat) (hk : OwX mb kb ms k) : (∃ cs, w.heap[k]? = some (.cells cs 94 (0, 0))) ∨ (∃ cs, w.heap[k]? = some (.cells cs 96 (0, 0))) ∨ ∃ es c, w.heap[k]? = some (.map es c) := by
  rcases hk with rfl | rfl | hm
  · exact Or.inl ⟨_, h.z.hm⟩
  · exact Or.inr (Or.inl ⟨_, h.z.hk⟩)
  · obtain ⟨i, hi⟩ := List.mem_iff_getElem?.1 hm
    have hi2 : i < ms.length := (List.getElem?_eq_some_iff.1 hi).1
    obtain ⟨q, hq⟩ : ∃ q, bags[i]? = some q := ⟨_, List.getElem?_eq_getElem (by rw [← h.len]; exact hi2)⟩
    rcases h.sl i _ q hi hq with ⟨e, _⟩ | ⟨b', e, hT⟩
    · cases e
    · cases e
      obtain ⟨D, m, ⟨es, clock, h0, _⟩, _⟩ := hT
      exact Or.inr (Or.inr ⟨_, _, h0⟩)

theorem RMt.what {K : Nat → Prop} {w : World} {yb n W C : Nat} {v : Value} {s : RuleS} {l : List Cnt} (h : RMt K w yb n W C v s l) (k : Nat) (hk : OwY yb v k) : ∃ cs t, w.heap[k]? = some (.cells cs t (0, 0)) ∧ (t = 172 ∨ t = 241) := by
  rcases hk with rfl | hk
  · exact ⟨_, _, h.hm, Or.inl rfl⟩
  · rcases h.own.2 with ⟨rfl, _⟩ | ⟨g, cap, cur, rfl, hb, hgg, _⟩
    · simp [Value.ownBlock] at hk
    · simp [Value.ownBlock] at hk
      subst hk
      exact ⟨_, _, hgg, Or.inr rfl⟩

/-- no block is both's -/
theorem apart_xy {K J : Nat → Prop} {w : World} {mb kb W C : Nat} {S : MS} {ms : List (Option Nat)} {bags : List (List Nat)} {yb n W' C' : Nat} {v : Value} {s : RuleS} {l : List Cnt} (hx : Mtr K w mb kb W C S ms bags) (hy : RMt J w yb n W' C' v s l) (k : Nat) (h1 : OwX mb kb ms k) (h2 : OwY yb v k) : False := by
  obtain ⟨cs, t, e, ht⟩ := hy.what k h2
  rcases hx.what k h1 with ⟨c, e1⟩ | ⟨c, e1⟩ | ⟨es, c, e1⟩
  · rw [e] at e1
    injection e1 with e1
    injection e1 with _ e2 _
    rcases ht with ht | ht <;> (rw [ht] at e2; exact absurd e2 (by decide))
  · rw [e] at e1
    injection e1 with e1
    injection e1 with _ e2 _
    rcases ht with ht | ht <;> (rw [ht] at e2; exact absurd e2 (by decide))
  · rw [e] at e1
    cases e1

/-- a meter of the program's beside the document's, with the same samples -/
structure PrS (w : World) (mb yb n W C : Nat) (l : List Sb) (kb : Nat) (ms : List (Option Nat)) (v : Value) : Prop where
  x : Mtr (fun _ => False) w mb kb W C MS.zero ms (bagsOf l (C / W) n)
  y : RMt (fun _ => False) w yb n W C v rule0 (cntOf l)
  hn : ms.length = n
  le : ∀ q ∈ l, q.1 ≤ C / W
  isb : ∀ q ∈ l, isB q.2

/-- one step: what else there is stays -/
structure StepP (w w' : World) (O O' : Nat → Prop) : Prop where
  os : w'.os = w.os
  tape : w'.tape = w.tape
  output : w'.output = w.output
  size : w.heap.size ≤ w'.heap.size
  keep : ∀ k, k < w.heap.size → ¬ O k → w'.heap[k]? = w.heap[k]?
  own : ∀ k, O' k → O k ∨ w.heap.size ≤ k

abbrev KX (w : World) (mb kb : Nat) (ms : List (Option Nat)) (k : Nat) : Prop := k < w.heap.size ∧ ¬ OwX mb kb ms k
abbrev KY (w : World) (yb : Nat) (v : Value) (k : Nat) : Prop := k < w.heap.size ∧ ¬ OwY yb v k

theorem PrS.kx {w : World} {mb yb n W C : Nat} {l : List Sb} {kb : Nat} {ms : List (Option Nat)} {v : Value} (h : PrS w mb yb n W C l kb ms v) : Mtr (KX w mb kb ms) w mb kb W C MS.zero ms (bagsOf l (C / W) n) := h.x.reK (fun _ hk => hk)

/-- behind the program's call, ahead of the document's -/
theorem PrS.mid {w w1 : World} {mb yb n W C : Nat} {l : List Sb} {kb : Nat} {ms : List (Option Nat)} {v : Value} (h : PrS w mb yb n W C l kb ms v) (hk : Kept (KX w mb kb ms) w w1) : RMt (KY w1 yb v) w1 yb n W C v rule0 (cntOf l) :=
  (h.y.kept hk (fun k hk => ⟨h.y.own_lt k hk, fun hx => apart_xy h.x h.y k hx hk⟩)).reK (fun _ hk => hk)

theorem PrS.next {w w1 w2 : World} {mb yb n W C C' : Nat} {l l' : List Sb} {kb kb' : Nat} {ms ms' : List (Option Nat)} {v v' : Value} (h : PrS w mb yb n W C l kb ms v) (hx : Mtr (KX w mb kb ms) w1 mb kb' W C' MS.zero ms' (bagsOf l' (C' / W) n)) (hn : ms'.length = n) (hk1 : Kept (KX w mb kb ms) w w1)
    (hy : RMt (KY w1 yb v) w2 yb n W C' v' rule0 (cntOf l')) (hk2 : Kept (KY w1 yb v) w1 w2) (hle : ∀ q ∈ l', q.1 ≤ C' / W) (hisb : ∀ q ∈ l', isB q.2) :
    PrS w2 mb yb n W C' l' kb' ms' v' ∧ StepP w w2 (OwP mb kb ms yb v) (OwP mb kb' ms' yb v') := by
  have hy1 := h.mid hk1
  have hkk : ∀ k, k < w1.heap.size → OwX mb kb' ms' k → w2.heap[k]? = w1.heap[k]? := fun k hk ho => hk2.block k ⟨hk, fun hy => apart_xy hx hy1 k ho hy⟩
  refine ⟨⟨(hx.reK (J := fun _ => False) (fun _ hf => hf.elim)).same hk2.size (fun k hk ho => hkk k hk ho), hy.reK (fun _ hf => hf.elim), hn, hle, hisb⟩, ⟨hk2.os.trans hk1.os, hk2.tape.trans hk1.tape, hk2.output.trans hk1.output, Nat.le_trans hk1.size hk2.size, fun k hk ho => ?_, fun k ho => ?_⟩⟩
  · have hnx : ¬ OwX mb kb ms k := fun e => ho (Or.inl e)
    have hny : ¬ OwY yb v k := fun e => ho (Or.inr e)
    exact (hk2.block k ⟨Nat.lt_of_lt_of_le hk hk1.size, hny⟩).trans (hk1.block k ⟨hk, hnx⟩)
  · rcases ho with ho | ho
    · rcases Nat.lt_or_ge k w.heap.size with hlt | hge
      · by_cases hox : OwX mb kb ms k
        · exact Or.inl (Or.inl hox)
        · exfalso
          obtain ⟨_, a2, a3, a4⟩ := hx.out k ⟨hlt, hox⟩
          rcases ho with e | e | e
          · exact a2 e
          · exact a3 e
          · exact a4 e
      · exact Or.inr hge
    · rcases Nat.lt_or_ge k w.heap.size with hlt | hge
      · by_cases hoy : OwY yb v k
        · exact Or.inl (Or.inr hoy)
        · exfalso
          have hK : KY w1 yb v k := ⟨Nat.lt_of_lt_of_le hlt hk1.size, hoy⟩
          rcases ho with e | e
          · subst e; exact hy.outy hK
          · exact hy.out k e hK
      · exact Or.inr hge
end Go.Proofs.YtgekdmjneogdoaaGreatDoor

namespace Go.Proofs.YtgekdmjneogdoaaGreatDoor
open Go.RowKit Go.Shelf Go.Maps

/-- behind both calls -/
def Nxt (w : World) (mb yb n W : Nat) (l : List Sb) (kb : Nat) (ms : List (Option Nat)) (v : Value) (w2 : World) : Prop :=
  ∃ C' l' kb' ms' v', PrS w2 mb yb n W C' l' kb' ms' v' ∧ StepP w w2 (OwP mb kb ms yb v) (OwP mb kb' ms' yb v') ∧ l'.length ≤ l.length + 1

theorem kept_drewN (K : Nat → Prop) (w : World) (q : Nat) : Kept K w (w.drewN q) := ⟨rfl, rfl, rfl, Nat.le_refl _, fun _ _ => rfl⟩

theorem PrS.stay {w w1 w2 : World} {mb yb n W C : Nat} {l : List Sb} {kb : Nat} {ms : List (Option Nat)} {v : Value} (h : PrS w mb yb n W C l kb ms v) (hb1 : Below w.heap.size w w1) (hb2 : Below w1.heap.size w1 w2) : Nxt w mb yb n W l kb ms v w2 := by
  have hk1 : Kept (KX w mb kb ms) w w1 := Kept.ofBelow hb1 (fun k hk => hk.1)
  have hx : Mtr (KX w mb kb ms) w1 mb kb W C MS.zero ms (bagsOf l (C / W) n) := h.kx.below hb1
  have hk2 : Kept (KY w1 yb v) w1 w2 := Kept.ofBelow hb2 (fun k hk => hk.1)
  obtain ⟨h1, h2⟩ := h.next hx h.hn hk1 ((h.mid hk1).below hb2) hk2 h.le h.isb
  exact ⟨C, l, kb, ms, v, h1, h2, by omega⟩

theorem below_drewn (w : World) (q : Nat) : Below w.heap.size w (w.drewN q) := below_drewN (Below.refl _ _) q

theorem tick_pair {w : World} {mb yb n W C : Nat} {l : List Sb} {kb : Nat} {ms : List (Option Nat)} {v : Value} (h : PrS w mb yb n W C l kb ms v) (t : Int) :
    Calls Tryz.prog 31 #[.pointer (some ⟨mb, 0, none⟩), .int .i64 t] w fun e w1 => ∃ r : Int, e = .returned (.int .i64 r) ∧ 0 ≤ r ∧ r ≤ 9 ∧ Kept (KX w mb kb ms) w w1 ∧
      Calls Tryz.prog 120 #[.pointer (some ⟨yb, 0, none⟩), .int .i64 t] w1 fun e2 w2 => e2 = .returned (.int .i64 r) ∧ Nxt w mb yb n W l kb ms v w2 := by
  have hC := h.x.hC
  by_cases hg : (C : Int) ≤ t ∧ t ≤ 1099511627776
  · obtain ⟨tn, rfl⟩ : ∃ tn : Nat, t = (tn : Int) := ⟨t.toNat, by omega⟩
    refine (tick_ok h.kx tn (by omega) (by omega)).mono ?_
    rintro e w1 ⟨rfl, hM, hk⟩
    refine ⟨0, rfl, by omega, by omega, hk, (reftick_ok (h.mid hk) tn (by omega) (by omega)).mono ?_⟩
    rintro e2 w2 ⟨rfl, hR, hk2⟩
    have hq : C / W ≤ tn / W := Nat.div_le_div_right (by omega)
    rw [h.hn, bagsOf_shift l (C / W) (tn / W) n h.le hq] at hM
    obtain ⟨h1, h2⟩ := h.next hM (by rw [shifted_length _ _ (by rw [h.hn]; omega)]; exact h.hn) hk hR hk2 (fun q hq2 => Nat.le_trans (h.le q hq2) hq) h.isb
    exact ⟨rfl, _, l, kb, _, _, h1, h2, by omega⟩
  · refine (tick_bad mb C t w h.x.z.c1 hC (by omega)).mono ?_
    rintro e w1 ⟨rfl, rfl⟩
    refine ⟨5, rfl, by omega, by omega, Kept.refl _ _, (reftick_bad h.y t (by omega)).mono ?_⟩
    rintro e2 w2 ⟨rfl, rfl⟩
    exact ⟨rfl, h.stay (Below.refl _ _) (Below.refl _ _)⟩

theorem add_pair {w : World} {mb yb n W C : Nat} {l : List Sb} {kb : Nat} {ms : List (Option Nat)} {v : Value} (h : PrS w mb yb n W C l kb ms v) (t : Int) (x : Nat) (hx : x < 18446744073709551616) (hl : l.length < 2000000000000) :
    Calls Tryz.prog 32 #[.pointer (some ⟨mb, 0, none⟩), .int .i64 t, .int .u64 x] w fun e w1 => ∃ r : Int, e = .returned (.int .i64 r) ∧ 0 ≤ r ∧ r ≤ 9 ∧ Kept (KX w mb kb ms) w w1 ∧
      Calls Tryz.prog 121 #[.pointer (some ⟨yb, 0, none⟩), .int .i64 t, .int .u64 x] w1 fun e2 w2 => e2 = .returned (.int .i64 r) ∧ Nxt w mb yb n W l kb ms v w2 := by
  by_cases hg : 0 ≤ t ∧ t ≤ 1099511627776
  case neg =>
    refine (add_arg mb t x w (by omega)).mono ?_
    rintro e w1 ⟨rfl, rfl⟩
    refine ⟨5, rfl, by omega, by omega, Kept.refl _ _, (refadd_arg yb t x w1 (by omega)).mono ?_⟩
    rintro e2 w2 ⟨rfl, rfl⟩
    exact ⟨rfl, h.stay (Below.refl _ _) (Below.refl _ _)⟩
  obtain ⟨tn, rfl⟩ : ∃ tn : Nat, t = (tn : Int) := ⟨t.toNat, by omega⟩
  have htn : tn ≤ 1099511627776 := by omega
  cases hnum : numB x with
  | false =>
    have hno : (FloatKind.f64.format.order x x != some .eq) = true := by
      rw [num_iff x hx]
      have := of_decide_eq_false hnum
      simp only [decide_eq_true_eq]; omega
    refine (add_nan mb tn x w htn hno).mono ?_
    rintro e w1 ⟨rfl, rfl⟩
    refine ⟨6, rfl, by omega, by omega, Kept.refl _ _, (refadd_nan yb tn x w1 htn hx hnum).mono ?_⟩
    rintro e2 w2 ⟨rfl, rfl⟩
    exact ⟨rfl, h.stay (Below.refl _ _) (Below.refl _ _)⟩
  | true =>
    have hno : (FloatKind.f64.format.order x x != some .eq) = false := by
      rw [num_iff x hx]
      have := of_decide_eq_true hnum
      simp only [decide_eq_false_iff_not]; omega
    have hnx : isNum x := num_of hx hnum
    have hn8 := h.x.hn.2
    rw [h.hn] at hn8
    by_cases hold : tn / W + n ≤ C / W
    · refine (add_old h.x.z h.x.hW h.x.hC h.x.hn.2 tn x htn hno (by rw [h.hn]; exact hold)).mono ?_
      rintro e w1 ⟨rfl, q, rfl⟩
      refine ⟨7, rfl, by omega, by omega, kept_drewN _ _ _, (refadd_out (h.y.drewN q) tn x htn hx hnum (Or.inl hold)).mono ?_⟩
      rintro e2 w2 ⟨rfl, q2, rfl⟩
      have hn1 := h.y.hn.1
      rw [if_neg (by omega)]
      exact ⟨rfl, h.stay (below_drewn w q) (below_drewn _ q2)⟩
    · by_cases hsoon : C / W < tn / W
      · refine (add_soon h.x.z h.x.hW h.x.hC h.x.hn.2 tn x htn hno hsoon).mono ?_
        rintro e w1 ⟨rfl, q, rfl⟩
        refine ⟨8, rfl, by omega, by omega, kept_drewN _ _ _, (refadd_out (h.y.drewN q) tn x htn hx hnum (Or.inr hsoon)).mono ?_⟩
        rintro e2 w2 ⟨rfl, q2, rfl⟩
        rw [if_pos hsoon]
        exact ⟨rfl, h.stay (below_drewn w q) (below_drewn _ q2)⟩
      · obtain ⟨a, ha⟩ : ∃ a, tn / W + a = C / W := ⟨C / W - tn / W, by omega⟩
        have han : a < n := by omega
        obtain ⟨m, hm⟩ : ∃ m, ms[a]? = some m := ⟨_, List.getElem?_eq_getElem (by rw [h.hn]; exact han)⟩
        have hle' : ∀ q ∈ l ++ [(tn / W, bucketN x)], q.1 ≤ C / W := fun q hq => by
          rcases List.mem_append.1 hq with hq | hq
          · exact h.le q hq
          · rw [List.mem_singleton.1 hq]
            show tn / W ≤ C / W
            omega
        have hib' : ∀ q ∈ l ++ [(tn / W, bucketN x)], isB q.2 := fun q hq => by
          rcases List.mem_append.1 hq with hq | hq
          · exact h.isb q hq
          · rw [List.mem_singleton.1 hq]
            exact bucket_isB x hnx
        have hset := bagsOf_add l (C / W) n (tn / W) (bucketN x) a ha
        have hfin : ∀ (w1 w2 : World) (ms' : List (Option Nat)) (r' : Value), Mtr (KX w mb kb ms) w1 mb kb W C MS.zero ms' (bagsOf (l ++ [(tn / W, bucketN x)]) (C / W) n) → ms'.length = n → Kept (KX w mb kb ms) w w1 → RMt (KY w1 yb v) w2 yb n W C r' rule0 (cntOf l ++ [(tn / W, ordI (bucketN x))]) → Kept (KY w1 yb v) w1 w2 → Nxt w mb yb n W l kb ms v w2 := by
          intro w1 w2 ms' r' hM hml hk hR hk2
          obtain ⟨h1, h2⟩ := h.next hM hml hk (by rw [cntOf_snoc]; exact hR) hk2 hle' hib'
          exact ⟨C, _, kb, ms', r', h1, h2, by simp⟩
        have hrl : (cntOf l).length < 8000000000000 := by rw [cntOf_length]; omega
        cases m with
        | none =>
          have hg0 : bagAt l (C / W) a = [] := by
            rcases h.x.sl a none _ hm (bagsOf_get l (C / W) n a han) with ⟨_, e⟩ | ⟨b, e, _⟩
            · exact e
            · cases e
          refine (add_none h.kx tn x a htn hx hno ha hm).mono ?_
          rintro e w1 ⟨rfl, ⟨b, hM⟩, hk⟩
          refine ⟨0, rfl, by omega, by omega, hk, (refadd_ok (h.mid hk) tn x htn hnx (by omega) (by omega) hrl).mono ?_⟩
          rintro e2 w2 ⟨rfl, ⟨r', hR⟩, hk2⟩
          rw [hg0, List.nil_append] at hset
          rw [← hset] at hM
          exact ⟨rfl, hfin w1 w2 _ r' hM (by rw [List.length_set]; exact h.hn) hk hR hk2⟩
        | some b =>
          have hbl : (bagAt l (C / W) a).length ≤ l.length := by
            unfold bagAt
            rw [List.length_map]
            exact List.length_filter_le _ _
          refine (add_some h.kx tn x a b (bagAt l (C / W) a) htn hx hno ha hm (bagsOf_get l (C / W) n a han) (by omega)).mono ?_
          rintro e w1 ⟨rfl, hM, hk⟩
          refine ⟨0, rfl, by omega, by omega, hk, (refadd_ok (h.mid hk) tn x htn hnx (by omega) (by omega) hrl).mono ?_⟩
          rintro e2 w2 ⟨rfl, ⟨r', hR⟩, hk2⟩
          rw [← hset] at hM
          exact ⟨rfl, hfin w1 w2 _ r' hM h.hn hk hR hk2⟩

theorem count_pair {w : World} {mb yb n W C : Nat} {l : List Sb} {kb : Nat} {ms : List (Option Nat)} {v : Value} (h : PrS w mb yb n W C l kb ms v) (k : Int) (hl : l.length < 2000000000000) :
    Calls Tryz.prog 33 #[.pointer (some ⟨mb, 0, none⟩), .int .i64 k] w fun e w1 => ∃ c r : Int, e = .returned (.tuple #[.int .i64 c, .int .i64 r]) ∧ 0 ≤ r ∧ r ≤ 9 ∧ Kept (KX w mb kb ms) w w1 ∧
      Calls Tryz.prog 122 #[.pointer (some ⟨yb, 0, none⟩), .int .i64 k] w1 fun e2 w2 => e2 = .returned (.tuple #[.int .i64 c, .int .i64 r]) ∧ Nxt w mb yb n W l kb ms v w2 := by
  by_cases hg : 1 ≤ k ∧ k ≤ n
  · obtain ⟨kn, rfl⟩ : ∃ kn : Nat, k = (kn : Int) := ⟨k.toNat, by omega⟩
    have hf := bags_flat l (C / W) n h.le
    refine (count_ok h.x kn (by omega) (by rw [h.hn]; omega) (by omega)).mono ?_
    rintro e w1 ⟨rfl, hb⟩
    refine ⟨_, 0, rfl, by omega, by omega, Kept.ofBelow hb (fun k hk => hk.1), (refcount_ok (h.y.below hb) kn (by omega) (by omega) (by rw [cntOf_length]; omega)).mono ?_⟩
    rintro e2 w2 ⟨rfl, hb2⟩
    rw [lastC_cnt, List.length_map, (take_perm l (C / W) n h.le kn (by omega)).length_eq]
    exact ⟨rfl, h.stay hb hb2⟩
  · refine (count_bad h.x.z k (by rw [h.hn]; exact hg)).mono ?_
    rintro e w1 ⟨rfl, rfl⟩
    refine ⟨0, 5, rfl, by omega, by omega, Kept.refl _ _, (refcount_bad h.y k (by omega)).mono ?_⟩
    rintro e2 w2 ⟨rfl, rfl⟩
    exact ⟨rfl, h.stay (Below.refl _ _) (Below.refl _ _)⟩
end Go.Proofs.YtgekdmjneogdoaaGreatDoor

namespace Go.Proofs.YtgekdmjneogdoaaGreatDoor
open Go.RowKit Go.Shelf Go.Maps

set_option maxRecDepth 20000 in
set_option maxHeartbeats 1600000 in
theorem quant_nil {K : Nat → Prop} {w : World} {mb kb W C : Nat} {S : MS} {ms : List (Option Nat)} {bags : List (List Nat)} (h : Mtr K w mb kb W C S ms bags) (k a b : Nat) (hk1 : 1 ≤ k) (hk2 : k ≤ ms.length) (hl : bags.flatten.length < 4000000000000) (hb1 : 1 ≤ b) (hb2 : b ≤ 1000) (hab : a ≤ b) (hbag : (bags.take k).flatten = []) :
    Calls Tryz.prog 28 #[.pointer (some ⟨mb, 0, none⟩), .int .i64 k, .int .i64 a, .int .i64 b] w fun e w' => e = .returned (.tuple #[.int .u64 0, .int .i64 9]) ∧ Below w.heap.size w w' := by
  have c2 := h.z.c2
  have hn8 := h.hn.2
  have HLa := hide (last_ok h k hk1 hk2 (by omega))
  rw [hbag] at HLa
  clear h hbag
  generalize ms.length = n at *
  have hd1 : decide ((k : Int) < 1) = false := by simp; omega
  have hd2 : decide (n < k) = false := by simp; omega
  have hd3 : decide (b < a) = false := by simp; omega
  go_enter Tryz.func28, Tryz.ntmps28
  go_wp2_with fail
  refine (unhide HLa).mono ?_
  rintro e w1 ⟨rfl, hT1, hb1'⟩
  have HSa := hide (tsamples_any w.heap.size [] w1 hT1 (by simp))
  have HB1 := hide hb1'
  clear hT1 hb1'
  go_wp2_with fail
  refine (unhide HSa).mono ?_
  rintro e w2 ⟨rfl, hb2'⟩
  have HB2 := hide ((unhide HB1).trans (hb2'.mono (unhide HB1).size))
  clear hb2' HB1
  go_wp2_with fail
  go_ret2
  exact ⟨rfl, unhide HB2⟩

theorem quant_pair {w : World} {mb yb n W C : Nat} {l : List Sb} {kb : Nat} {ms : List (Option Nat)} {v : Value} (h : PrS w mb yb n W C l kb ms v) (k a b : Int) (hl : l.length < 2000000000000) :
    Calls Tryz.prog 28 #[.pointer (some ⟨mb, 0, none⟩), .int .i64 k, .int .i64 a, .int .i64 b] w fun e w1 => ∃ c r : Int, e = .returned (.tuple #[.int .u64 c, .int .i64 r]) ∧ 0 ≤ r ∧ r ≤ 9 ∧ Kept (KX w mb kb ms) w w1 ∧
      Calls Tryz.prog 123 #[.pointer (some ⟨yb, 0, none⟩), .int .i64 k, .int .i64 a, .int .i64 b] w1 fun e2 w2 => e2 = .returned (.tuple #[.int .u64 c, .int .i64 r]) ∧ Nxt w mb yb n W l kb ms v w2 := by
  by_cases hp : partOk n k a b
  case neg =>
    refine (quant_bad h.x.z k a b (by rw [h.hn]; exact hp)).mono ?_
    rintro e w1 ⟨rfl, rfl⟩
    refine ⟨0, 5, rfl, by omega, by omega, Kept.refl _ _, ?_⟩
    have hq := refquant_of (w := w1) yb k a b 0 5 0 (fun w' => w' = w1) (by omega) (by omega) (Or.inr ⟨by omega, rfl⟩) (refrank_bad h.y k a b hp)
    refine hq.mono ?_
    rintro e2 w2 ⟨rfl, rfl⟩
    exact ⟨rfl, h.stay (Below.refl _ _) (Below.refl _ _)⟩
  obtain ⟨p1, p2, p3, p4, p5, p6⟩ := hp
  obtain ⟨kn, rfl⟩ : ∃ kn : Nat, k = (kn : Int) := ⟨k.toNat, by omega⟩
  obtain ⟨an, rfl⟩ : ∃ an : Nat, a = (an : Int) := ⟨a.toNat, by omega⟩
  obtain ⟨bn, rfl⟩ : ∃ bn : Nat, b = (bn : Int) := ⟨b.toNat, by omega⟩
  have hf := bags_flat l (C / W) n h.le
  have hpm := take_perm l (C / W) n h.le kn (by omega)
  have hDl := lastB_length l (C / W) kn
  have hDB : ∀ x ∈ lastB l (C / W) kn, isB x := lastB_mem l (C / W) kn isB h.isb
  have hlc := lastC_cnt l (C / W) kn
  generalize hD : lastB l (C / W) kn = D at *
  by_cases hne : D = []
  · subst hne
    have hb0 : ((bagsOf l (C / W) n).take kn).flatten = [] := hpm.eq_nil
    refine (quant_nil h.x kn an bn (by omega) (by rw [h.hn]; omega) (by omega) (by omega) (by omega) (by omega) hb0).mono ?_
    rintro e w1 ⟨rfl, hb⟩
    refine ⟨0, 9, rfl, by omega, by omega, Kept.ofBelow hb (fun k hk => hk.1), ?_⟩
    have hq := refquant_of (w := w1) yb kn an bn 0 9 0 (fun w' => Below w1.heap.size w1 w') (by omega) (by omega) (Or.inr ⟨by omega, rfl⟩) (refrank_empty (h.y.below hb) kn an bn (by omega) (by omega) (by omega) (by omega) (by omega) (by rw [cntOf_length]; omega) hlc)
    refine hq.mono ?_
    rintro e2 w2 ⟨rfl, hb2⟩
    exact ⟨rfl, h.stay hb hb2⟩
  · generalize hbg : ((bagsOf l (C / W) n).take kn).flatten = bag at *
    have hbB : ∀ x ∈ bag, isB x := fun x hx => hDB x (hpm.mem_iff.1 hx)
    have hble : bag.length = D.length := hpm.length_eq
    have hbne : bag ≠ [] := fun e => by
      subst e
      exact hne hpm.symm.eq_nil
    have hkl := ksOf_length bag
    refine (quant_ok h.x kn an bn (by omega) (by rw [h.hn]; omega) (by omega) (by omega) (by omega) (by omega) bag (ksOf bag) hbg hbne (sorts_bag bag hbB (by omega)) (fun x hx => (hbB x ((mem_ksOf bag x).1 hx)).1.1) (by omega) (total_ks bag hbB)).mono ?_
    rintro e w1 ⟨rfl, hb⟩
    rw [rank_perm hpm hbB, hble]
    generalize hV : rankOf (fun x => D.count x) (ksOf D) (rankN an bn D.length) = V
    refine ⟨_, 0, rfl, by omega, by omega, Kept.ofBelow hb (fun k hk => hk.1), ?_⟩
    have hn1 : 1 ≤ D.length := by
      cases D with
      | nil => exact absurd rfl hne
      | cons x r => simp
    have hVB : isB V := by
      obtain ⟨i, hi, hr⟩ := some_rank D (rankN an bn D.length) (by unfold rankN; exact Nat.le_max_left _ _) (rankN_le (by omega) (by omega) hn1)
      rw [← hV, rank_same D hDB _ i hi hr]
      exact hDB _ (getD_mem D i hi)
    have hrk : Calls Tryz.prog 177 #[.pointer (some ⟨yb, 0, none⟩), .int .i64 kn, .int .i64 an, .int .i64 bn] w1 fun en w' => en = .returned (.tuple #[.int .i64 (ordI V), .int .i64 0]) ∧ Below w1.heap.size w1 w' := by
      refine (refrank_ok (h.y.below hb) kn an bn (by omega) (by omega) (by omega) (by omega) (by omega) (by rw [cntOf_length]; omega) D hlc (fun x hx => (hDB x hx).1) hne).mono ?_
      rintro en w' ⟨⟨i, hi, hr, rfl⟩, hb2⟩
      rw [← rank_same D hDB _ i hi hr, hV]
      exact ⟨rfl, hb2⟩
    have hVr : -9223372036854775807 ≤ ordI V ∧ ordI V ≤ 9223372036854775807 := by
      have h2 : V % 9223372036854775808 < 9223372036854775808 := Nat.mod_lt _ (by omega)
      unfold ordI
      split <;> omega
    have hq := refquant_of (w := w1) yb kn an bn (ordI V) 0 (V : Int) (fun w' => Below w1.heap.size w1 w') hVr.1 hVr.2 (by
      rcases Int.lt_or_le (ordI V) 0 with c | c
      · exact Or.inl ⟨c, (back_neg V hVB c).symm⟩
      · exact Or.inr ⟨c, (back_pos V hVB c).symm⟩) hrk
    refine hq.mono ?_
    rintro e2 w2 ⟨rfl, hb2⟩
    exact ⟨rfl, h.stay hb hb2⟩
end Go.Proofs.YtgekdmjneogdoaaGreatDoor

namespace Go.Proofs.YtgekdmjneogdoaaGreatDoor
open Go.RowKit Go.Shelf Go.Maps

theorem PrS.below {w w' : World} {mb yb n W C : Nat} {l : List Sb} {kb : Nat} {ms : List (Option Nat)} {v : Value} (h : PrS w mb yb n W C l kb ms v) (hb : Below w.heap.size w w') : PrS w' mb yb n W C l kb ms v :=
  ⟨h.x.below hb, h.y.below hb, h.hn, h.le, h.isb⟩

theorem Nxt.of_below {w wa w2 : World} {mb yb n W : Nat} {l : List Sb} {kb : Nat} {ms : List (Option Nat)} {v : Value} (hb : Below w.heap.size w wa) (h : Nxt wa mb yb n W l kb ms v w2) : Nxt w mb yb n W l kb ms v w2 := by
  obtain ⟨C', l', kb', ms', v', h1, h2, h3⟩ := h
  exact ⟨C', l', kb', ms', v', h1, ⟨h2.os.trans hb.os, h2.tape.trans hb.tape, h2.output.trans hb.output, Nat.le_trans hb.size h2.size, fun k hk ho => (h2.keep k (Nat.lt_of_lt_of_le hk hb.size) ho).trans (hb.block k hk), fun k ho => by
    rcases h2.own k ho with h | h
    · exact Or.inl h
    · exact Or.inr (Nat.le_trans hb.size h)⟩, h3⟩

set_option maxHeartbeats 400000 in
theorem lawnum_any (r : Int) (w : World) : Calls Tryz.prog 66 #[.int .i64 r] w fun e w' => e = .returned (.int .i64 r) ∧ w' = w := by
  go_enter Tryz.func66, Tryz.ntmps66
  go_wp2_with fail
  go_ret
  exact ⟨rfl, rfl⟩

abbrev opV (kd wn A B Cc : Int) (S : ByteArray) (V U : Nat) (Lv : Value) : Value := .agg #[.int .i64 kd, .int .i64 wn, .int .i64 A, .int .i64 B, .int .i64 Cc, .string S, .int .u64 V, .int .u64 U, Lv]
abbrev pairV (mb yb : Nat) : Value := .agg #[.pointer (some ⟨mb, 0, none⟩), .pointer (some ⟨yb, 0, none⟩)]
abbrev opB (kd wn A B Cc : Int) (S : ByteArray) (V U : Nat) (Lv : Value) : Obj := .cells #[.int .i64 kd, .int .i64 wn, .int .i64 A, .int .i64 B, .int .i64 Cc, .string S, .int .u64 V, .int .u64 U, Lv] 76 (0, 0)
abbrev pairB (mb yb : Nat) : Obj := .cells #[.pointer (some ⟨mb, 0, none⟩), .pointer (some ⟨yb, 0, none⟩)] 118 (0, 0)

/-- the pair's and the step's own blocks, wherever they lie -/
structure Boxes (w : World) (pb ob mb yb : Nat) (kd wn A B Cc : Int) (S : ByteArray) (V U : Nat) (Lv : Value) : Prop where
  p : w.heap[pb]? = some (pairB mb yb)
  o : w.heap[ob]? = some (opB kd wn A B Cc S V U Lv)

theorem Boxes.step {w w' : World} {pb ob mb yb : Nat} {kd wn A B Cc : Int} {S : ByteArray} {V U : Nat} {Lv : Value} (h : Boxes w pb ob mb yb kd wn A B Cc S V U Lv) {K : Nat → Prop} (hk : Kept K w w') (hp : K pb) (ho : K ob) : Boxes w' pb ob mb yb kd wn A B Cc S V U Lv :=
  ⟨(hk.block pb hp).trans h.p, (hk.block ob ho).trans h.o⟩

theorem box_not_x {K : Nat → Prop} {w : World} {mb kb W C : Nat} {S : MS} {ms : List (Option Nat)} {bags : List (List Nat)} (hx : Mtr K w mb kb W C S ms bags) {k : Nat} {cs : Array Value} {t : Nat} (h : w.heap[k]? = some (.cells cs t (0, 0))) (ht : t = 76 ∨ t = 118) : ¬ OwX mb kb ms k := fun ho => by
  rcases hx.what k ho with ⟨c, e⟩ | ⟨c, e⟩ | ⟨es, c, e⟩
  · rw [h] at e
    injection e with e
    injection e with _ e2 _
    rcases ht with ht | ht <;> (rw [ht] at e2; exact absurd e2 (by decide))
  · rw [h] at e
    injection e with e
    injection e with _ e2 _
    rcases ht with ht | ht <;> (rw [ht] at e2; exact absurd e2 (by decide))
  · rw [h] at e
    cases e

set_option maxRecDepth 40000 in
set_option maxHeartbeats 1600000 in
theorem meters_tick {w : World} {mb yb n W C : Nat} {l : List Sb} {kb : Nat} {ms : List (Option Nat)} {v : Value} (h : PrS w mb yb n W C l kb ms v) (_hl : l.length < 2000000000000) (wn A B Cc : Int) (S : ByteArray) (V U : Nat) (Lv : Value) (_hV : V < 18446744073709551616) :
    Calls Tryz.prog 69 #[pairV mb yb, opV 8 wn A B Cc S V U Lv] w fun e w' => e = .returned (.bool true) ∧ Nxt w mb yb n W l kb ms v w' := by
  have hba : Below w.heap.size w ((w.alloc (pairB mb yb)).alloc (opB 8 wn A B Cc S V U Lv)) := ((Below.refl _ w).alloc (Nat.le_refl _) _).alloc (by simp) _
  have hbx : Boxes ((w.alloc (pairB mb yb)).alloc (opB 8 wn A B Cc S V U Lv)) w.heap.size (w.heap.size + 1) mb yb 8 wn A B Cc S V U Lv := ⟨(Below.heap_alloc _ _ w.heap.size (by simp)).trans (heap_alloc_new w _), by
    have := heap_alloc_new (w.alloc (pairB mb yb)) (opB 8 wn A B Cc S V U Lv)
    simpa using this⟩
  have HP := hide (h.below hba)
  have HBa := hide hba
  have HBx := hide hbx
  have HNu := hide lawnum_any
  clear h hba hbx
  go_enter Tryz.func69, Tryz.ntmps69
  go_wp2_with fail
  refine (tick_pair (unhide HP) A).mono ?_
  rintro e w1 ⟨r, rfl, hr1, hr2, hk1, hC2⟩
  have hb1 : Boxes w1 w.heap.size (w.heap.size + 1) mb yb 8 wn A B Cc S V U Lv := (unhide HBx).step hk1 ⟨by simp; omega, box_not_x (unhide HP).x (unhide HBx).p (Or.inr rfl)⟩ ⟨by simp, box_not_x (unhide HP).x (unhide HBx).o (Or.inl rfl)⟩
  have d1 : w1.cell? ⟨w.heap.size, 1, none⟩ = some (.pointer (some ⟨yb, 0, none⟩)) := by simp [World.cell?, hb1.p]
  have c2 : w1.cell? ⟨w.heap.size + 1, 2, none⟩ = some (.int .i64 A) := by simp [World.cell?, hb1.o]
  have HC2 := hide hC2
  clear hC2 hk1 hb1 HBx HP
  go_wp2_with fail
  refine (unhide HC2).mono ?_
  rintro e2 w2 ⟨rfl, hN⟩
  have HN := hide hN
  clear hN HC2
  go_wp2_with fail
  refine (unhide HNu _ _).mono ?_
  rintro e3 w3 ⟨rfl, e3⟩
  rw [e3]
  clear e3 w3
  go_wp2_with fail
  go_ret
  exact ⟨by simp, Nxt.of_below (unhide HBa) (unhide HN)⟩

set_option maxRecDepth 40000 in
set_option maxHeartbeats 1600000 in
theorem meters_add {w : World} {mb yb n W C : Nat} {l : List Sb} {kb : Nat} {ms : List (Option Nat)} {v : Value} (h : PrS w mb yb n W C l kb ms v) (hl : l.length < 2000000000000) (wn A B Cc : Int) (S : ByteArray) (V U : Nat) (Lv : Value) (hV : V < 18446744073709551616) :
    Calls Tryz.prog 69 #[pairV mb yb, opV 9 wn A B Cc S V U Lv] w fun e w' => e = .returned (.bool true) ∧ Nxt w mb yb n W l kb ms v w' := by
  have hba : Below w.heap.size w ((w.alloc (pairB mb yb)).alloc (opB 9 wn A B Cc S V U Lv)) := ((Below.refl _ w).alloc (Nat.le_refl _) _).alloc (by simp) _
  have hbx : Boxes ((w.alloc (pairB mb yb)).alloc (opB 9 wn A B Cc S V U Lv)) w.heap.size (w.heap.size + 1) mb yb 9 wn A B Cc S V U Lv := ⟨(Below.heap_alloc _ _ w.heap.size (by simp)).trans (heap_alloc_new w _), by
    have := heap_alloc_new (w.alloc (pairB mb yb)) (opB 9 wn A B Cc S V U Lv)
    simpa using this⟩
  have HP := hide (h.below hba)
  have HBa := hide hba
  have HBx := hide hbx
  have HNu := hide lawnum_any
  clear h hba hbx
  go_enter Tryz.func69, Tryz.ntmps69
  go_wp2_with fail
  refine (add_pair (unhide HP) A V hV hl).mono ?_
  rintro e w1 ⟨r, rfl, hr1, hr2, hk1, hC2⟩
  have hb1 : Boxes w1 w.heap.size (w.heap.size + 1) mb yb 9 wn A B Cc S V U Lv := (unhide HBx).step hk1 ⟨by simp; omega, box_not_x (unhide HP).x (unhide HBx).p (Or.inr rfl)⟩ ⟨by simp, box_not_x (unhide HP).x (unhide HBx).o (Or.inl rfl)⟩
  have d1 : w1.cell? ⟨w.heap.size, 1, none⟩ = some (.pointer (some ⟨yb, 0, none⟩)) := by simp [World.cell?, hb1.p]
  have c2 : w1.cell? ⟨w.heap.size + 1, 2, none⟩ = some (.int .i64 A) := by simp [World.cell?, hb1.o]
  have c6 : w1.cell? ⟨w.heap.size + 1, 6, none⟩ = some (.int .u64 V) := by simp [World.cell?, hb1.o]
  have HC2 := hide hC2
  clear hC2 hk1 hb1 HBx HP
  go_wp2_with fail
  refine (unhide HC2).mono ?_
  rintro e2 w2 ⟨rfl, hN⟩
  have HN := hide hN
  clear hN HC2
  go_wp2_with fail
  refine (unhide HNu _ _).mono ?_
  rintro e3 w3 ⟨rfl, e3⟩
  rw [e3]
  clear e3 w3
  go_wp2_with fail
  go_ret
  exact ⟨by simp, Nxt.of_below (unhide HBa) (unhide HN)⟩

set_option maxRecDepth 40000 in
set_option maxHeartbeats 1600000 in
theorem meters_count {w : World} {mb yb n W C : Nat} {l : List Sb} {kb : Nat} {ms : List (Option Nat)} {v : Value} (h : PrS w mb yb n W C l kb ms v) (hl : l.length < 2000000000000) (wn A B Cc : Int) (S : ByteArray) (V U : Nat) (Lv : Value) (_hV : V < 18446744073709551616) :
    Calls Tryz.prog 69 #[pairV mb yb, opV 10 wn A B Cc S V U Lv] w fun e w' => e = .returned (.bool true) ∧ Nxt w mb yb n W l kb ms v w' := by
  have hba : Below w.heap.size w ((w.alloc (pairB mb yb)).alloc (opB 10 wn A B Cc S V U Lv)) := ((Below.refl _ w).alloc (Nat.le_refl _) _).alloc (by simp) _
  have hbx : Boxes ((w.alloc (pairB mb yb)).alloc (opB 10 wn A B Cc S V U Lv)) w.heap.size (w.heap.size + 1) mb yb 10 wn A B Cc S V U Lv := ⟨(Below.heap_alloc _ _ w.heap.size (by simp)).trans (heap_alloc_new w _), by
    have := heap_alloc_new (w.alloc (pairB mb yb)) (opB 10 wn A B Cc S V U Lv)
    simpa using this⟩
  have HP := hide (h.below hba)
  have HBa := hide hba
  have HBx := hide hbx
  have HNu := hide lawnum_any
  clear h hba hbx
  go_enter Tryz.func69, Tryz.ntmps69
  go_wp2_with fail
  refine (count_pair (unhide HP) A hl).mono ?_
  rintro e w1 ⟨c, r, rfl, hr1, hr2, hk1, hC2⟩
  have hb1 : Boxes w1 w.heap.size (w.heap.size + 1) mb yb 10 wn A B Cc S V U Lv := (unhide HBx).step hk1 ⟨by simp; omega, box_not_x (unhide HP).x (unhide HBx).p (Or.inr rfl)⟩ ⟨by simp, box_not_x (unhide HP).x (unhide HBx).o (Or.inl rfl)⟩
  have d1 : w1.cell? ⟨w.heap.size, 1, none⟩ = some (.pointer (some ⟨yb, 0, none⟩)) := by simp [World.cell?, hb1.p]
  have c2 : w1.cell? ⟨w.heap.size + 1, 2, none⟩ = some (.int .i64 A) := by simp [World.cell?, hb1.o]
  have HC2 := hide hC2
  clear hC2 hk1 hb1 HBx HP
  go_wp2_with fail
  refine (unhide HC2).mono ?_
  rintro e2 w2 ⟨rfl, hN⟩
  have HN := hide hN
  clear hN HC2
  go_wp2_with fail
  refine (unhide HNu _ _).mono ?_
  rintro e3 w3 ⟨rfl, e3⟩
  rw [e3]
  clear e3 w3
  go_wp2_with fail
  go_ret
  exact ⟨by simp, Nxt.of_below (unhide HBa) (unhide HN)⟩

set_option maxRecDepth 40000 in
set_option maxHeartbeats 1600000 in
theorem meters_quant {w : World} {mb yb n W C : Nat} {l : List Sb} {kb : Nat} {ms : List (Option Nat)} {v : Value} (h : PrS w mb yb n W C l kb ms v) (hl : l.length < 2000000000000) (wn A B Cc : Int) (S : ByteArray) (V U : Nat) (Lv : Value) (_hV : V < 18446744073709551616) :
    Calls Tryz.prog 69 #[pairV mb yb, opV 11 wn A B Cc S V U Lv] w fun e w' => e = .returned (.bool true) ∧ Nxt w mb yb n W l kb ms v w' := by
  have hba : Below w.heap.size w ((w.alloc (pairB mb yb)).alloc (opB 11 wn A B Cc S V U Lv)) := ((Below.refl _ w).alloc (Nat.le_refl _) _).alloc (by simp) _
  have hbx : Boxes ((w.alloc (pairB mb yb)).alloc (opB 11 wn A B Cc S V U Lv)) w.heap.size (w.heap.size + 1) mb yb 11 wn A B Cc S V U Lv := ⟨(Below.heap_alloc _ _ w.heap.size (by simp)).trans (heap_alloc_new w _), by
    have := heap_alloc_new (w.alloc (pairB mb yb)) (opB 11 wn A B Cc S V U Lv)
    simpa using this⟩
  have HP := hide (h.below hba)
  have HBa := hide hba
  have HBx := hide hbx
  have HNu := hide lawnum_any
  clear h hba hbx
  go_enter Tryz.func69, Tryz.ntmps69
  go_wp2_with fail
  refine (quant_pair (unhide HP) A B Cc hl).mono ?_
  rintro e w1 ⟨c, r, rfl, hr1, hr2, hk1, hC2⟩
  have hb1 : Boxes w1 w.heap.size (w.heap.size + 1) mb yb 11 wn A B Cc S V U Lv := (unhide HBx).step hk1 ⟨by simp; omega, box_not_x (unhide HP).x (unhide HBx).p (Or.inr rfl)⟩ ⟨by simp, box_not_x (unhide HP).x (unhide HBx).o (Or.inl rfl)⟩
  have d1 : w1.cell? ⟨w.heap.size, 1, none⟩ = some (.pointer (some ⟨yb, 0, none⟩)) := by simp [World.cell?, hb1.p]
  have c2 : w1.cell? ⟨w.heap.size + 1, 2, none⟩ = some (.int .i64 A) := by simp [World.cell?, hb1.o]
  have c3 : w1.cell? ⟨w.heap.size + 1, 3, none⟩ = some (.int .i64 B) := by simp [World.cell?, hb1.o]
  have c4 : w1.cell? ⟨w.heap.size + 1, 4, none⟩ = some (.int .i64 Cc) := by simp [World.cell?, hb1.o]
  have HC2 := hide hC2
  clear hC2 hk1 hb1 HBx HP
  go_wp2_with fail
  refine (unhide HC2).mono ?_
  rintro e2 w2 ⟨rfl, hN⟩
  have HN := hide hN
  clear hN HC2
  go_wp2_with fail
  refine (unhide HNu _ _).mono ?_
  rintro e3 w3 ⟨rfl, e3⟩
  rw [e3]
  clear e3 w3
  go_wp2_with fail
  go_ret
  exact ⟨by simp, Nxt.of_below (unhide HBa) (unhide HN)⟩
end Go.Proofs.YtgekdmjneogdoaaGreatDoor

namespace Go.Proofs.YtgekdmjneogdoaaGreatDoor
open Go.RowKit Go.Shelf Go.Maps

/-- a pair's places and numbers -/
structure Pr where
  mb : Nat
  yb : Nat
  n : Nat
  W : Nat
  C : Nat
  l : List Sb
  kb : Nat
  ms : List (Option Nat)
  v : Value

def Pr.ok (w : World) (p : Pr) : Prop := PrS w p.mb p.yb p.n p.W p.C p.l p.kb p.ms p.v
def Pr.own (p : Pr) : Nat → Prop := OwP p.mb p.kb p.ms p.yb p.v

theorem Pr.ok.same {w w' : World} {p : Pr} (h : p.ok w) (hs : w.heap.size ≤ w'.heap.size) (hk : ∀ k, k < w.heap.size → p.own k → w'.heap[k]? = w.heap[k]?) (ho : w'.os = w.os) (ht : w'.tape = w.tape) (hu : w'.output = w.output) : p.ok w' := by
  refine ⟨h.x.same hs (fun k h1 h2 => hk k h1 (Or.inl h2)), ?_, h.hn, h.le, h.isb⟩
  exact h.y.kept (J := OwY p.yb p.v) ⟨ho, ht, hu, hs, fun k h1 => hk k (h.y.own_lt k h1) (Or.inr h1)⟩ (fun _ h1 => h1)

theorem Pr.ok.lt {w : World} {p : Pr} (h : p.ok w) : ∀ k, p.own k → k < w.heap.size := by
  rintro k (hk | hk)
  · exact h.x.own_lt k hk
  · exact h.y.own_lt k hk

/-- what a pair's block is not -/
theorem Pr.ok.no {w : World} {p : Pr} (h : p.ok w) {k : Nat} {cs : Array Value} {t : Nat} (hh : w.heap[k]? = some (.cells cs t (0, 0))) (ht : t = 72 ∨ t = 118 ∨ t = 76) : ¬ p.own k := by
  rintro (ho | ho)
  · rcases h.x.what k ho with ⟨c, e⟩ | ⟨c, e⟩ | ⟨es, c, e⟩
    · rw [hh] at e
      injection e with e
      injection e with _ e2 _
      rcases ht with ht | ht | ht <;> (rw [ht] at e2; exact absurd e2 (by decide))
    · rw [hh] at e
      injection e with e
      injection e with _ e2 _
      rcases ht with ht | ht | ht <;> (rw [ht] at e2; exact absurd e2 (by decide))
    · rw [hh] at e
      cases e
  · obtain ⟨c, t', e, ht'⟩ := h.y.what k ho
    rw [hh] at e
    injection e with e
    injection e with _ e2 _
    rcases ht with ht | ht | ht <;> rcases ht' with ht' | ht' <;> (rw [ht, ht'] at e2; exact absurd e2 (by decide))

def flatP (ps : List Pr) : List Value := ps.flatMap fun p => [.pointer (some ⟨p.mb, 0, none⟩), .pointer (some ⟨p.yb, 0, none⟩)]
theorem flatP_snoc (ps : List Pr) (p : Pr) : flatP (ps ++ [p]) = flatP ps ++ [.pointer (some ⟨p.mb, 0, none⟩), .pointer (some ⟨p.yb, 0, none⟩)] := by simp [flatP]

theorem flatP_set (ps : List Pr) (i : Nat) (p : Pr) (h : ∀ q, ps[i]? = some q → q.mb = p.mb ∧ q.yb = p.yb) : flatP (ps.set i p) = flatP ps := by
  induction ps generalizing i with
  | nil => rfl
  | cons a r ih =>
    cases i with
    | zero =>
      obtain ⟨e1, e2⟩ := h a rfl
      simp [flatP, e1, e2]
    | succ i =>
      have := ih i (fun q hq => h q (by simpa using hq))
      unfold flatP at this ⊢
      simp [this]

theorem flatP_get (ps : List Pr) (j : Nat) (p : Pr) (h : ps[j]? = some p) : (flatP ps)[j * 2]? = some (.pointer (some ⟨p.mb, 0, none⟩)) ∧ (flatP ps)[j * 2 + 1]? = some (.pointer (some ⟨p.yb, 0, none⟩)) := by
  induction ps generalizing j with
  | nil => simp at h
  | cons a r ih =>
    have e : flatP (a :: r) = .pointer (some ⟨a.mb, 0, none⟩) :: .pointer (some ⟨a.yb, 0, none⟩) :: flatP r := by simp [flatP]
    rw [e]
    cases j with
    | zero =>
      simp at h
      subst h
      simp
    | succ j =>
      have := ih j (by simpa using h)
      have e1 : (j + 1) * 2 = j * 2 + 1 + 1 := by omega
      rw [e1]
      simpa using this

def wcells (av : Value) : Array Value := #[av, .slice none 0 0, .slice none 0 0, .slice none 0 0, .slice none 0 0, .int .i64 0]

/-- the script's world: its meters; nothing else is kept -/
structure WS (w0 w : World) (zb : Nat) (av : Value) (ps : List Pr) (tot : Nat) : Prop where
  hz : w.heap[zb]? = some (.cells (wcells av) 72 (0, 0))
  row : w.ownsRow w0.heap.size 118 2 av ps.length (flatP ps)
  ok : ∀ p ∈ ps, p.ok w
  apart : ps.Pairwise fun p q => ∀ k, p.own k → ¬ q.own k
  low : ∀ p ∈ ps, ∀ k, p.own k → w0.heap.size ≤ k
  lowz : w0.heap.size ≤ zb
  bel : Below w0.heap.size w0 w
  few : ∀ p ∈ ps, p.l.length ≤ tot
  len : ps.length ≤ tot + 1

theorem WS.c0 {w0 w : World} {zb : Nat} {av : Value} {ps : List Pr} {tot : Nat} (h : WS w0 w zb av ps tot) : w.cell? ⟨zb, 0, none⟩ = some av := by simp [World.cell?, h.hz, wcells]
theorem WS.c1 {w0 w : World} {zb : Nat} {av : Value} {ps : List Pr} {tot : Nat} (h : WS w0 w zb av ps tot) : w.cell? ⟨zb, 1, none⟩ = some (.slice none 0 0) := by simp [World.cell?, h.hz, wcells]
theorem WS.c3 {w0 w : World} {zb : Nat} {av : Value} {ps : List Pr} {tot : Nat} (h : WS w0 w zb av ps tot) : w.cell? ⟨zb, 3, none⟩ = some (.slice none 0 0) := by simp [World.cell?, h.hz, wcells]
theorem WS.f0 {w0 w : World} {zb : Nat} {av : Value} {ps : List Pr} {tot : Nat} (h : WS w0 w zb av ps tot) : w.frozen? ⟨zb, 0, none⟩ = false := by simp [World.frozen?, h.hz]

/-- what only makes new blocks -/
theorem WS.below {w0 w w' : World} {zb : Nat} {av : Value} {ps : List Pr} {tot : Nat} (h : WS w0 w zb av ps tot) (hb : Below w.heap.size w w') : WS w0 w' zb av ps tot :=
  ⟨(hb.block zb (Array.getElem?_eq_some_iff.1 h.hz).1).trans h.hz, h.row.kept (Below.grownBy hb) (by cases av.ownBlock <;> simp), fun p hp => (h.ok p hp).same hb.size (fun k hk _ => hb.block k hk) hb.os hb.tape hb.output, h.apart, h.low, h.lowz, h.bel.trans (hb.mono h.bel.size), h.few, h.len⟩

/-- the row's block is no pair's and not the world's -/
theorem WS.rowNo {w0 w : World} {zb : Nat} {av : Value} {ps : List Pr} {tot : Nat} (h : WS w0 w zb av ps tot) (g : Nat) (hg : av.ownBlock = some g) : g ≠ zb ∧ ∀ p : Pr, p.ok w → ¬ p.own g := by
  rcases h.row.2 with ⟨rfl, _⟩ | ⟨g', cap, cur, rfl, hb, hgg, _⟩
  · simp [Value.ownBlock] at hg
  · simp [Value.ownBlock] at hg
    subst hg
    refine ⟨fun e => ?_, fun p hp => hp.no hgg (Or.inr (Or.inl rfl))⟩
    subst e
    have := h.hz.symm.trans hgg
    injection this with this
    injection this with _ e2 _
    exact absurd e2 (by decide)
end Go.Proofs.YtgekdmjneogdoaaGreatDoor

namespace Go.Proofs.YtgekdmjneogdoaaGreatDoor
open Go.RowKit Go.Shelf Go.Maps

theorem infoP : (Tryz.prog.info? 118).map (fun i => (i.zero, i.size, i.bytes)) = some (some (.agg #[.pointer none, .pointer none]), 2, 16) := by kernel_rfl

/-- two new meters beside each other -/
theorem new_pair (a b : Int) (hp : newOk a b) (w : World) :
    Calls Tryz.prog 30 #[.int .i64 a, .int .i64 b] w fun e w1 => ∃ mb : Nat, e = .returned (.tuple #[.pointer (some ⟨mb, 0, none⟩), .int .i64 0]) ∧
      Calls Tryz.prog 65 #[.int .i64 a, .int .i64 b] w1 fun e2 w2 => ∃ p : Pr, p.mb = mb ∧ e2 = .returned (.tuple #[.pointer (some ⟨p.yb, 0, none⟩), .int .i64 0]) ∧ p.ok w2 ∧ p.l = [] ∧ (∀ k, p.own k → w.heap.size ≤ k) ∧ Below w.heap.size w w2 := by
  obtain ⟨p1, p2, p3, p4⟩ := hp
  obtain ⟨n, rfl⟩ : ∃ n : Nat, a = (n : Int) := ⟨a.toNat, by omega⟩
  obtain ⟨wd, rfl⟩ : ∃ wd : Nat, b = (wd : Int) := ⟨b.toNat, by omega⟩
  refine (new_ok n wd (by omega) (by omega) (by omega) (by omega) w).mono ?_
  rintro e w1 ⟨rfl, rfl⟩
  refine ⟨_, rfl, (refnew_run n wd (by omega) (by omega) (by omega) (by omega) _).mono ?_⟩
  rintro e2 w2 ⟨rfl, rfl⟩
  have hm := new_mtr (fun _ => False) n wd (by omega) (by omega) (by omega) (by omega) w (fun _ hf => hf.elim)
  generalize hw1 : (w.alloc (.cells (Array.replicate n (.map none)) 96)).alloc (.cells #[.int .i64 wd, .int .i64 0, .slice (some ⟨w.heap.size, 0, none⟩) n n, .pointer none, .int .i64 1, .int .i64 (-1099511627776)] 94) = w1 at *
  have hs1 : w1.heap.size = w.heap.size + 2 := by rw [← hw1]; simp
  have hb1 : Below w.heap.size w w1 := by rw [← hw1]; exact ((Below.refl _ w).alloc (Nat.le_refl _) _).alloc (by simp) _
  have hb2 : Below w1.heap.size w1 (w1.alloc (.cells (rcells n wd 0 (.slice none 0 0) rule0) 172)) := (Below.refl _ w1).alloc (Nat.le_refl _) _
  have hw12 : 1 ≤ wd ∧ wd ≤ 1000000 := ⟨by omega, by omega⟩
  have hn12 : 1 ≤ n ∧ n ≤ 8 := ⟨by omega, by omega⟩
  refine ⟨⟨w.heap.size + 1, w1.heap.size, n, wd, 0, [], w.heap.size, List.replicate n none, .slice none 0 0⟩, rfl, rfl, ⟨?_, ⟨?_, World.ownsRow_nil _ _ _ _, fun _ _ hf => hf, fun hf => hf, fun _ hf => hf.elim, hw12, Nat.zero_le _, hn12⟩, by simp, (fun q hq => by cases hq), (fun q hq => by cases hq)⟩, rfl, ?_, hb1.trans (hb2.mono hb1.size)⟩
  · rw [bagsOf_nil]
    exact hm.below hb2
  · exact heap_alloc_new w1 _
  · rintro k ((e | e | e) | (e | e))
    · have e' : k = w.heap.size + 1 := e
      omega
    · have e' : k = w.heap.size := e
      omega
    · exact absurd (List.eq_of_mem_replicate e) (by simp)
    · have e' : k = w1.heap.size := e
      omega
    · cases e

set_option maxRecDepth 20000 in
set_option maxHeartbeats 800000 in
theorem made_bad {w0 w : World} {zb : Nat} {av : Value} {ps : List Pr} {tot : Nat} (h : WS w0 w zb av ps tot) (a b : Int) (hp : ¬ newOk a b) :
    Calls Tryz.prog 36 #[.pointer (some ⟨zb, 0, none⟩), .int .i64 a, .int .i64 b] w fun e w' => e = .returned (.bool true) ∧ WS w0 w' zb av ps tot := by
  have HW := hide h
  have HN1 := hide (new_bad a b hp)
  have HN2 := hide (refnew_bad a b hp)
  have HNu := hide lawnum_any
  clear h hp
  go_enter Tryz.func36, Tryz.ntmps36
  go_wp2_with fail
  refine (unhide HN1 _).mono ?_
  rintro e w1 ⟨rfl, e1⟩
  rw [e1]
  clear e1 w1
  go_wp2_with fail
  refine (unhide HN2 _).mono ?_
  rintro e w1 ⟨rfl, e1⟩
  rw [e1]
  clear e1 w1
  go_wp2_with fail
  refine (unhide HNu _ _).mono ?_
  rintro e w1 ⟨rfl, e1⟩
  rw [e1]
  clear e1 w1
  go_wp2_with fail
  go_ret
  exact ⟨rfl, unhide HW⟩

set_option maxRecDepth 20000 in
set_option maxHeartbeats 1600000 in
theorem made_ok {w0 w : World} {zb : Nat} {av : Value} {ps : List Pr} {tot : Nat} (h : WS w0 w zb av ps tot) (a b : Int) (hp : newOk a b) (ht : tot < 2000000000000) :
    Calls Tryz.prog 36 #[.pointer (some ⟨zb, 0, none⟩), .int .i64 a, .int .i64 b] w fun e w' => e = .returned (.bool true) ∧ ∃ av' ps', WS w0 w' zb av' ps' (tot + 1) ∧ ps'.length = ps.length + 1 := by
  have HW := hide h
  have HN1 := hide (new_pair a b hp w)
  have HNu := hide lawnum_any
  obtain ⟨i0, hi, hz0, hz1, hz2⟩ := info_parts infoP
  clear h hp
  go_enter Tryz.func36, Tryz.ntmps36
  go_wp2_with fail
  refine (unhide HN1).mono ?_
  rintro e w1 ⟨mb, rfl, hC2⟩
  have HC2 := hide hC2
  clear hC2 HN1
  go_wp2_with fail
  refine (unhide HC2).mono ?_
  rintro e w2 ⟨p, rfl, rfl, hok, hl0, hown, hb⟩
  have HB := hide hb
  have HPk := hide (And.intro hok (And.intro hl0 hown))
  clear hok hl0 hown hb HC2
  go_wp2_with fail
  refine (unhide HNu _ _).mono ?_
  rintro e w3 ⟨rfl, e3⟩
  rw [e3]
  clear e3 w3
  have h2 := (unhide HW).below (unhide HB)
  have c0 := h2.c0
  have f0 := h2.f0
  have hrow := h2.row
  have hlen := h2.len
  have hs0 := h2.bel.size
  have hzl : zb < w2.heap.size := (Array.getElem?_eq_some_iff.1 h2.hz).1
  have H2 := hide h2
  clear h2
  generalize hmb : p.mb = mb at *
  generalize hyb : p.yb = yb at *
  have HMb := hide (And.intro hmb hyb)
  clear hmb hyb
  go_wp2_with (first
    | (at_builtin; refine wpList_append_own_at _ rfl _ _ 69 rfl w0.heap.size 118 i0 (.agg #[.pointer none, .pointer none]) 2 16 Tryz.underlying69 hi hz0 hz1 hz2 rfl (by decide) _ _ _ rfl (hrow.alloc _) ⟨w2.heap.size, 0, none⟩ 1 1 [.pointer (some ⟨mb, 0, none⟩), .pointer (some ⟨yb, 0, none⟩)] rfl rfl (cell_two_at _ _ _ _ _ rfl) (by intro u hu; simp at hu; rcases hu with rfl | rfl <;> rfl) (by unfold maxLen; omega) (by omega) (by simp; omega) ?_; intro v' W8 hown' hgrow _ hat; obtain ⟨g', cp', rfl⟩ := own_form hown'; have hh8 : W8.heap[zb]? = some (.cells (wcells av) 72 (0, 0)) := (hgrow.block zb (by simp; omega) (fun e => ((unhide H2).rowNo zb e.symm).1 rfl)).trans ((Below.heap_alloc _ _ zb hzl).trans (unhide H2).hz); have f8 : W8.frozen? ⟨zb, 0, none⟩ = false := by { simp [World.frozen?, hh8] }; have c8 : W8.cell? ⟨zb, 0, none⟩ = some av := by { simp [World.cell?, hh8, wcells] })
    | go_in)
  go_ret
  have h2 := unhide H2
  obtain ⟨hok, hl0, hown⟩ := unhide HPk
  obtain ⟨hmb, hyb⟩ := unhide HMb
  have hw2 := (unhide HB).size
  have hgz : W8.grownBy (W8.setCell ⟨zb, 0, none⟩ (.slice (some ⟨g', 0, none⟩) (ps.length + 1) cp')) (some zb) := ⟨rfl, rfl, rfl, by simp, fun k _ hne => Below.heap_setCell W8 ⟨zb, 0, none⟩ _ k (fun e => hne (by rw [e]))⟩
  have hkeep : ∀ q : Pr, q.ok w2 → q.ok (W8.setCell ⟨zb, 0, none⟩ (.slice (some ⟨g', 0, none⟩) (ps.length + 1) cp')) := fun q hq => by
    refine hq.same ?_ (fun k hk ho => ?_) (hgz.os.trans hgrow.os) (hgz.tape.trans hgrow.tape) (hgz.output.trans hgrow.output)
    · have := hgrow.size
      simp at this ⊢
      omega
    · have hz' : k ≠ zb := fun e => by
        subst e
        exact hq.no h2.hz (Or.inl rfl) ho
      have hg1 := hgrow.block k (by simp; omega) (fun e => (h2.rowNo k e.symm).2 q hq ho)
      have hsz := hgrow.size
      simp at hsz
      exact (hgz.block k (by omega) (fun e => hz' (by injection e))).trans (hg1.trans (Below.heap_alloc _ _ k hk))
  refine ⟨rfl, .slice (some ⟨g', 0, none⟩) (ps.length + 1) cp', ps ++ [p], ⟨?_, ?_, fun q hq => ?_, ?_, fun q hq k ho => ?_, h2.lowz, ?_, fun q hq => ?_, ?_⟩, by simp⟩
  · rw [heap_setCell_same W8 zb 0 _ _ _ hh8]
    rfl
  · rw [List.length_append, flatP_snoc, hmb, hyb]
    refine hown'.kept hgz (Or.inr (fun e => ?_))
    rcases hat with e2 | e2
    · exact (h2.rowNo zb (e2.symm.trans e)).1 rfl
    · rw [e2] at e
      injection e with e
      simp at e
      omega
  · rcases List.mem_append.1 hq with hq | hq
    · exact hkeep q (h2.ok q hq)
    · rw [List.mem_singleton.1 hq]; exact hkeep p hok
  · rw [List.pairwise_append]
    refine ⟨h2.apart, by simp, fun q hq r hr k h1 h3 => ?_⟩
    rw [List.mem_singleton.1 hr] at h3
    have k1 := ((unhide HW).ok q hq).lt k h1
    have k2 := hown k h3
    omega
  · rcases List.mem_append.1 hq with hq | hq
    · exact h2.low q hq k ho
    · rw [List.mem_singleton.1 hq] at ho
      have k1 := hown k ho
      have k2 := (unhide HW).bel.size
      omega
  · exact ((h2.bel.alloc h2.bel.size _).grown hgrow (by simp; omega) (fun k e => (h2.row.lt k e).1)).setCell h2.lowz _
  · rcases List.mem_append.1 hq with hq | hq
    · have := h2.few q hq; omega
    · rw [List.mem_singleton.1 hq, hl0]; simp
  · have := h2.len
    simp; omega
end Go.Proofs.YtgekdmjneogdoaaGreatDoor

namespace Go.Proofs.YtgekdmjneogdoaaGreatDoor
open Go.RowKit Go.Shelf Go.Maps

theorem WS.stepped {w0 w w2 : World} {zb : Nat} {av : Value} {ps : List Pr} {tot : Nat} (h : WS w0 w zb av ps tot) (i : Nat) (p : Pr) (hi : ps[i]? = some p) (hN : Nxt w p.mb p.yb p.n p.W p.l p.kb p.ms p.v w2) : ∃ ps', WS w0 w2 zb av ps' (tot + 1) ∧ ps'.length = ps.length := by
  obtain ⟨C', l', kb', ms', v', h1, h2, h3⟩ := hN
  have hpm := List.mem_of_getElem? hi
  have hp := h.ok p hpm
  obtain ⟨p', hp'⟩ : ∃ p' : Pr, p' = ⟨p.mb, p.yb, p.n, p.W, C', l', kb', ms', v'⟩ := ⟨_, rfl⟩
  have hok' : p'.ok w2 := by rw [hp']; exact h1
  have hown' : ∀ k, p'.own k → p.own k ∨ w.heap.size ≤ k := by rw [hp']; exact h2.own
  have hil : i < ps.length := (List.getElem?_eq_some_iff.1 hi).1
  have hap : ∀ (j : Nat) (q : Pr), ps[j]? = some q → j ≠ i → ∀ k, q.own k → ¬ p.own k := by
    intro j q hj hne k h4 h5
    obtain ⟨j1, j2⟩ := List.getElem?_eq_some_iff.1 hj
    obtain ⟨i1, i2⟩ := List.getElem?_eq_some_iff.1 hi
    rcases Nat.lt_or_gt_of_ne hne with hlt | hgt
    · have := (List.pairwise_iff_getElem.1 h.apart) j i j1 i1 hlt k
      rw [j2, i2] at this
      exact this h4 h5
    · have := (List.pairwise_iff_getElem.1 h.apart) i j i1 j1 hgt k
      rw [j2, i2] at this
      exact this h5 h4
  have hzno : ¬ p.own zb := hp.no h.hz (Or.inl rfl)
  have hzl : zb < w.heap.size := (Array.getElem?_eq_some_iff.1 h.hz).1
  refine ⟨ps.set i p', ⟨(h2.keep zb hzl hzno).trans h.hz, ?_, fun q hq => ?_, ?_, fun q hq k ho => ?_, h.lowz, ⟨h2.os.trans h.bel.os, h2.tape.trans h.bel.tape, h2.output.trans h.bel.output, Nat.le_trans h.bel.size h2.size, fun k hk => ?_⟩, fun q hq => ?_, by rw [List.length_set]; have := h.len; omega⟩, by rw [List.length_set]⟩
  · rw [List.length_set, flatP_set ps i p' (fun q hq => by rw [hi] at hq; cases hq; rw [hp']; exact ⟨rfl, rfl⟩)]
    refine ⟨h.row.1, ?_⟩
    rcases h.row.2 with h0 | ⟨g, cap, cur, e, hb, hgg, rest⟩
    · exact Or.inl h0
    · have hrn := (h.rowNo g (by rw [e]; rfl)).2 p hp
      exact Or.inr ⟨g, cap, cur, e, hb, (h2.keep g (Array.getElem?_eq_some_iff.1 hgg).1 hrn).trans hgg, rest⟩
  · obtain ⟨j, hj⟩ := List.mem_iff_getElem?.1 hq
    rcases getElem?_set_cases hj with ⟨_, rfl⟩ | ⟨hne, hj⟩
    · exact hok'
    · exact (h.ok q (List.mem_of_getElem? hj)).same h2.size (fun k hk ho => h2.keep k hk (hap j q hj hne k ho)) h2.os h2.tape h2.output
  · rw [List.pairwise_iff_getElem]
    intro x y hx hy hxy k hox hoy
    have hx' : x < ps.length := by simpa using hx
    have hy' : y < ps.length := by simpa using hy
    rw [List.getElem_set] at hox hoy
    split at hox
    · rename_i ex
      split at hoy
      · omega
      · have hyq := List.getElem?_eq_getElem hy'
        rcases hown' k hox with o | o
        · exact hap y ps[y] hyq (by omega) k hoy o
        · have := (h.ok ps[y] (List.getElem_mem hy')).lt k hoy
          omega
    · split at hoy
      · have hxq := List.getElem?_eq_getElem hx'
        rcases hown' k hoy with o | o
        · exact hap x ps[x] hxq (by omega) k hox o
        · have := (h.ok ps[x] (List.getElem_mem hx')).lt k hox
          omega
      · exact (List.pairwise_iff_getElem.1 h.apart) x y hx' hy' hxy k hox hoy
  · obtain ⟨j, hj⟩ := List.mem_iff_getElem?.1 hq
    rcases getElem?_set_cases hj with ⟨_, rfl⟩ | ⟨hne, hj⟩
    · rcases hown' k ho with o | o
      · exact h.low p hpm k o
      · exact Nat.le_trans h.bel.size o
    · exact h.low q (List.mem_of_getElem? hj) k ho
  · have hno : ¬ p.own k := fun o => by have := h.low p hpm k o; omega
    exact (h2.keep k (Nat.lt_of_lt_of_le hk h.bel.size) hno).trans (h.bel.block k hk)
  · obtain ⟨j, hj⟩ := List.mem_iff_getElem?.1 hq
    rcases getElem?_set_cases hj with ⟨_, rfl⟩ | ⟨hne, hj⟩
    · rw [hp']
      have := h.few p hpm
      show l'.length ≤ tot + 1
      omega
    · have := h.few q (List.mem_of_getElem? hj)
      omega

theorem WS.more {w0 w : World} {zb : Nat} {av : Value} {ps : List Pr} {tot tot' : Nat} (h : WS w0 w zb av ps tot) (ht : tot ≤ tot') : WS w0 w zb av ps tot' :=
  ⟨h.hz, h.row, h.ok, h.apart, h.low, h.lowz, h.bel, fun p hp => Nat.le_trans (h.few p hp) ht, by have := h.len; omega⟩

/-- any step of a meter -/
theorem meters_any {w : World} {p : Pr} (h : p.ok w) (hl : p.l.length < 2000000000000) (kd : Int) (hkd : 8 ≤ kd ∧ kd ≤ 11) (wn A B Cc : Int) (S : ByteArray) (V U : Nat) (Lv : Value) (hV : V < 18446744073709551616) :
    Calls Tryz.prog 69 #[pairV p.mb p.yb, opV kd wn A B Cc S V U Lv] w fun e w' => e = .returned (.bool true) ∧ Nxt w p.mb p.yb p.n p.W p.l p.kb p.ms p.v w' := by
  obtain rfl | rfl | rfl | rfl : kd = 8 ∨ kd = 9 ∨ kd = 10 ∨ kd = 11 := by omega
  · exact meters_tick h hl wn A B Cc S V U Lv hV
  · exact meters_add h hl wn A B Cc S V U Lv hV
  · exact meters_count h hl wn A B Cc S V U Lv hV
  · exact meters_quant h hl wn A B Cc S V U Lv hV
end Go.Proofs.YtgekdmjneogdoaaGreatDoor
