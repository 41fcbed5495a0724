import Derived.Test.YtgekdmjneogdoabGreatDoorHAk1
import Derived.Test.YtgekdmjneogdoabGreatDoorHDr1
import Derived.Test.YtgekdmjneogdoabGreatDoorHMq1
import Derived.Test.YtgekdmjneogdoabGreatDoorHMq4
namespace Go.Proofs.YtgekdmjneogdoabGreatDoor
open Go.RowKit

/-! pick -/
def pickN (c : Int) (n : Nat) : Nat := (if c < 0 then -(c + 1) else c).toNat % n

theorem pickN_lt (c : Int) (n : Nat) (h : 0 < n) : pickN c n < n := Nat.mod_lt _ h

set_option maxRecDepth 20000 in
set_option maxHeartbeats 400000 in
theorem pick_any (c : Int) (n : Nat) (w : World) (hc1 : -9223372036854775808 ≤ c) (hc2 : c ≤ 9223372036854775807) (hn : 1 ≤ n) (hn2 : n ≤ 1000000) :
    Calls Tryz.prog 8 #[.int .i64 c, .int .i64 n] w fun e w' => e = .returned (.int .i64 (pickN c n)) ∧ w' = w := by
  have hp : pickN c n = (if c < 0 then -(c + 1) else c).toNat % n := rfl
  rcases Int.lt_or_le c 0 with h | h
  · obtain ⟨m, hm⟩ : ∃ m : Nat, -(c + 1) = (m : Int) := ⟨(-(c + 1)).toNat, by omega⟩
    rw [if_pos h, hm, Int.toNat_natCast] at hp
    have hlt : m % n < n := Nat.mod_lt _ (by omega)
    have hq : (m : Int) % (n : Int) = ((m % n : Nat) : Int) := (Int.natCast_emod m n).symm
    have HQ := hide (And.intro hp hq)
    have hm2 : m ≤ 9223372036854775807 := by omega
    obtain rfl : c = -(m : Int) - 1 := by omega
    clear hp hq hm
    go_enter Tryz.func8, Tryz.ntmps8
    go_wp2_with fail
    go_ret
    refine ⟨?_, rfl⟩
    apply retI
    rw [(unhide HQ).1]
    have h2 := (unhide HQ).2
    have h3 : wrap64 (-(wrap64 (-(m : Int) - 1 + 1))) = (m : Int) := by unfold wrap64; omega
    have h4 : -(-(m : Int) - 1 + 1) = (m : Int) := by omega
    first
      | (rw [h3, h2]; done)
      | (rw [h4, h2]; done)
      | (rw [← h2]; done)
      | (rw [← h2]; congr 1; omega)
  · obtain ⟨m, rfl⟩ : ∃ m : Nat, c = (m : Int) := ⟨c.toNat, by omega⟩
    rw [if_neg (by omega), Int.toNat_natCast] at hp
    have hlt : m % n < n := Nat.mod_lt _ (by omega)
    have hq : (m : Int) % (n : Int) = ((m % n : Nat) : Int) := (Int.natCast_emod m n).symm
    have HQ := hide (And.intro hp hq)
    clear hp hq
    go_enter Tryz.func8, Tryz.ntmps8
    go_wp2_with fail
    go_ret
    refine ⟨?_, rfl⟩
    apply retI
    rw [(unhide HQ).1]
    have h2 := (unhide HQ).2
    rw [h2]
end Go.Proofs.YtgekdmjneogdoabGreatDoor

namespace Go.Proofs.YtgekdmjneogdoabGreatDoor
open Go.RowKit Go.Shelf Go.Maps

/-! one sample, so many slices ago -/
def oneBag (n old : Nat) (x : Nat) : List (List Nat) := (List.range n).map fun i => if i = old then [x] else []

theorem oneBag_length (n old x : Nat) : (oneBag n old x).length = n := by simp [oneBag]

theorem oneBag_get (n old x i : Nat) (h : i < n) : (oneBag n old x)[i]? = some (if i = old then [x] else []) := by
  simp [oneBag, h]

theorem oneBag_none (n old x : Nat) (h : n ≤ old) : oneBag n old x = List.replicate n [] := by
  apply List.ext_getElem?
  intro i
  rcases Nat.lt_or_ge i n with hi | hi
  · rw [oneBag_get n old x i hi, List.getElem?_replicate, if_pos hi, if_neg (by omega)]
  · rw [List.getElem?_eq_none (by rw [oneBag_length]; exact hi), List.getElem?_eq_none (by simpa using hi)]

theorem oneBag_shift (n old x δ : Nat) : shiftB (min δ n) (oneBag n old x) = oneBag n (old + δ) x := by
  apply List.ext_getElem?
  intro i
  have hl := shiftB_length (min δ n) (oneBag n old x) (by rw [oneBag_length]; omega)
  rw [oneBag_length] at hl
  rcases Nat.lt_or_ge i n with hi | hi
  · rw [oneBag_get n (old + δ) x i hi]
    unfold shiftB
    rw [oneBag_length]
    rcases Nat.lt_or_ge i (min δ n) with h1 | h1
    · rw [List.getElem?_append_left (by simpa using h1), List.getElem?_replicate, if_pos h1, if_neg (by omega)]
    · rw [List.getElem?_append_right (by simpa using h1), List.length_replicate, List.getElem?_take_of_lt (by omega), oneBag_get n old x _ (by omega)]
      congr 1
      have : (i - min δ n = old) ↔ (i = old + δ) := by omega
      simp [this]
  · rw [List.getElem?_eq_none (by rw [hl]; exact hi), List.getElem?_eq_none (by rw [oneBag_length]; exact hi)]

theorem oneBag_take (n old x k : Nat) (hk : k ≤ n) : ((oneBag n old x).take k).flatten.length = if old < k then 1 else 0 := by
  induction k with
  | zero => simp
  | succ k ih =>
    rw [take_flat (oneBag n old x) k _ (oneBag_get n old x k (by omega)), ih (by omega)]
    by_cases h : k = old
    · subst h
      simp
    · rw [if_neg h]
      by_cases h2 : old < k
      · rw [if_pos h2, if_pos (by omega)]; rfl
      · rw [if_neg h2, if_neg (by omega)]; rfl

theorem oneBag_flat (n old x : Nat) : (oneBag n old x).flatten.length ≤ 1 := by
  have h := oneBag_take n old x n (Nat.le_refl _)
  rw [List.take_of_length_le (by rw [oneBag_length]; exact Nat.le_refl _)] at h
  rw [h]
  split <;> omega

theorem oneBag_zero (n x : Nat) (h : 0 < n) : (List.replicate n ([] : List Nat)).set 0 [x] = oneBag n 0 x := by
  apply List.ext_getElem?
  intro i
  rcases Nat.lt_or_ge i n with hi | hi
  · rw [oneBag_get n 0 x i hi]
    by_cases h0 : i = 0
    · subst h0
      rw [List.getElem?_set_self (by simpa using h), if_pos rfl]
    · rw [List.getElem?_set_ne (Ne.symm h0), List.getElem?_replicate, if_pos hi, if_neg h0]
  · rw [List.getElem?_eq_none (by simpa using hi), List.getElem?_eq_none (by rw [oneBag_length]; exact hi)]

theorem shift_empty (n f : Nat) (h : f ≤ n) : shiftB f (List.replicate n ([] : List Nat)) = List.replicate n [] := by
  unfold shiftB
  rw [List.length_replicate, List.take_replicate, List.replicate_append_replicate]
  congr 1
  omega

/-- a meter that has its one sample -/
def Has (K : Nat → Prop) (w : World) (mb W C n old : Nat) : Prop := ∃ (kb : Nat) (ms : List (Option Nat)), ms.length = n ∧ Mtr K w mb kb W C MS.zero ms (oneBag n old 4607182418800017408)

theorem one_num : (FloatKind.f64.format.order 4607182418800017408 4607182418800017408 != some .eq) = false := by kernel_rfl
theorem one_bucket : bucketN 4607182418800017408 = 4607182418800017408 := by kernel_rfl

theorem has_tick {K : Nat → Prop} {w : World} {mb W C n old : Nat} (h : Has K w mb W C n old) (t : Nat) (h1 : C ≤ t) (h2 : t ≤ 1099511627776) :
    Calls Tryz.prog 12 #[.pointer (some ⟨mb, 0, none⟩), .int .i64 t] w fun e w' => e = .returned (.int .i64 0) ∧ Has K w' mb W t n (old + (t / W - C / W)) ∧ Kept K w w' := by
  obtain ⟨kb, ms, hl, hM⟩ := h
  refine (tick_ok hM t h1 h2).mono ?_
  rintro e w' ⟨he, hM', hk⟩
  rw [hl, oneBag_shift] at hM'
  exact ⟨he, ⟨kb, shifted (min (t / W - C / W) n) ms, by rw [shifted_length _ _ (by omega)]; exact hl, hM'⟩, hk⟩

theorem has_count {K : Nat → Prop} {w : World} {mb W C n old : Nat} (h : Has K w mb W C n old) (k : Nat) (h1 : 1 ≤ k) (h2 : k ≤ n) :
    Calls Tryz.prog 20 #[.pointer (some ⟨mb, 0, none⟩), .int .i64 k] w fun e w' => e = .returned (.tuple #[.int .i64 ((if old < k then 1 else 0 : Nat) : Int), .int .i64 0]) ∧ Has K w' mb W C n old ∧ Kept K w w' := by
  obtain ⟨kb, ms, hl, hM⟩ := h
  have hf := oneBag_flat n old 4607182418800017408
  refine (count_ok hM k h1 (by omega) (by omega)).mono ?_
  rintro e w' ⟨he, hb⟩
  rw [oneBag_take n old _ k h2] at he
  exact ⟨he, ⟨kb, ms, hl, hM.below hb⟩, hM.keptBelow hb⟩

theorem Has.drewN {K : Nat → Prop} {w : World} {mb W C n old : Nat} (h : Has K w mb W C n old) (q : Nat) : Has K (w.drewN q) mb W C n old := by
  obtain ⟨kb, ms, hl, hM⟩ := h
  exact ⟨kb, ms, hl, hM.drewN q⟩

theorem has_old {K : Nat → Prop} {w : World} {mb W C n old : Nat} (h : Has K w mb W C n old) (t : Nat) (h2 : t ≤ 1099511627776) (ho : t / W + n ≤ C / W) :
    Calls Tryz.prog 13 #[.pointer (some ⟨mb, 0, none⟩), .int .i64 t, .int .u64 4607182418800017408] w fun e w' => e = .returned (.int .i64 7) ∧ Has K w' mb W C n old ∧ Kept K w w' := by
  have h0 := h
  obtain ⟨kb, ms, hl, hM⟩ := h
  refine (add_old hM.z hM.hW hM.hC hM.hn.2 t 4607182418800017408 h2 one_num (by omega)).mono ?_
  rintro e w' ⟨he, q, hw⟩
  rw [hw]
  exact ⟨he, h0.drewN q, ⟨rfl, rfl, rfl, Nat.le_refl _, fun _ _ => rfl⟩⟩

/-- one sample more in that slice -/
theorem has_add {K : Nat → Prop} {w : World} {mb W C n old : Nat} (h : Has K w mb W C n old) (t : Nat) (h2 : t ≤ 1099511627776) (ho : t / W + old = C / W) (hn : old < n) :
    Calls Tryz.prog 13 #[.pointer (some ⟨mb, 0, none⟩), .int .i64 t, .int .u64 4607182418800017408] w fun e w' => e = .returned (.int .i64 0) ∧ Kept K w w' := by
  obtain ⟨kb, ms, hl, hM⟩ := h
  obtain ⟨m, hm⟩ : ∃ m, ms[old]? = some m := ⟨_, List.getElem?_eq_getElem (by omega)⟩
  have hg := oneBag_get n old 4607182418800017408 old hn
  rw [if_pos rfl] at hg
  rcases hM.sl old m _ hm hg with ⟨_, e⟩ | ⟨b, rfl, _⟩
  · cases e
  · refine (add_some hM t 4607182418800017408 old b _ h2 (by omega) one_num ho hm hg (by simp)).mono ?_
    rintro e w' ⟨he, _, hk⟩
    exact ⟨he, hk⟩

/-- a new meter, without a sample -/
def Bare (K : Nat → Prop) (w : World) (mb W C n : Nat) : Prop := ∃ (kb : Nat), Mtr K w mb kb W C MS.zero (List.replicate n none) (List.replicate n [])

theorem bare_new (K : Nat → Prop) (n wd : Nat) (hn1 : 1 ≤ n) (hn2 : n ≤ 8) (hw1 : 1 ≤ wd) (hw2 : wd ≤ 1000000) (w : World) (hK : ∀ k, K k → k < w.heap.size) :
    Calls Tryz.prog 10 #[.int .i64 n, .int .i64 wd] w fun e w' => ∃ mb, e = .returned (.tuple #[.pointer (some ⟨mb, 0, none⟩), .int .i64 0]) ∧ Bare K w' mb wd 0 n ∧ Kept K w w' := by
  refine (new_ok n wd hn1 hn2 hw1 hw2 w).mono ?_
  rintro e w' ⟨he, hw⟩
  refine ⟨_, he, ⟨w.heap.size, ?_⟩, ?_⟩
  · rw [hw]; exact new_mtr K n wd hn1 hn2 hw1 hw2 w hK
  · rw [hw]
    exact ((Kept.refl K w).alloc hK _).alloc hK _

theorem shifted_none (n f : Nat) (h : f ≤ n) : shifted f (List.replicate n none) = List.replicate n none := by
  unfold shifted
  rw [List.length_replicate, List.take_replicate, List.replicate_append_replicate]
  congr 1
  omega

theorem bare_tick {K : Nat → Prop} {w : World} {mb W C n : Nat} (h : Bare K w mb W C n) (t : Nat) (h1 : C ≤ t) (h2 : t ≤ 1099511627776) :
    Calls Tryz.prog 12 #[.pointer (some ⟨mb, 0, none⟩), .int .i64 t] w fun e w' => e = .returned (.int .i64 0) ∧ Bare K w' mb W t n ∧ Kept K w w' := by
  obtain ⟨kb, hM⟩ := h
  refine (tick_ok hM t h1 h2).mono ?_
  rintro e w' ⟨he, hM', hk⟩
  rw [List.length_replicate, shifted_none n _ (by omega), shift_empty n _ (by omega)] at hM'
  exact ⟨he, ⟨kb, hM'⟩, hk⟩

theorem bare_add {K : Nat → Prop} {w : World} {mb W C n : Nat} (h : Bare K w mb W C n) (hn : 0 < n) :
    Calls Tryz.prog 13 #[.pointer (some ⟨mb, 0, none⟩), .int .i64 C, .int .u64 4607182418800017408] w fun e w' => e = .returned (.int .i64 0) ∧ Has K w' mb W C n 0 ∧ Kept K w w' := by
  obtain ⟨kb, hM⟩ := h
  have hC := hM.hC
  refine (add_none hM C 4607182418800017408 0 hC (by omega) one_num (by omega) (by rw [List.getElem?_replicate, if_pos hn])).mono ?_
  rintro e w' ⟨he, ⟨b, hM'⟩, hk⟩
  rw [one_bucket, oneBag_zero n _ hn] at hM'
  exact ⟨he, ⟨kb, _, by simp, hM'⟩, hk⟩
end Go.Proofs.YtgekdmjneogdoabGreatDoor

namespace Go.Proofs.YtgekdmjneogdoabGreatDoor
open Go.RowKit Go.Shelf Go.Maps

/-! a meter of two slices of ten, with a rule -/
def SM (K : Nat → Prop) (w : World) (mb C : Nat) (S : MS) : Prop := ∃ (kb : Nat) (ms : List (Option Nat)) (bags : List (List Nat)), ms.length = 2 ∧ Mtr K w mb kb 10 C S ms bags
def SM0 (K : Nat → Prop) (w : World) (mb C : Nat) (S : MS) : Prop := ∃ (kb : Nat), Mtr K w mb kb 10 C S [none, none] [[], []]
def SM1 (K : Nat → Prop) (w : World) (mb C : Nat) (S : MS) (x : Nat) : Prop := ∃ (kb b : Nat), Mtr K w mb kb 10 C S [some b, none] [[x], []]

theorem sm_tick {K : Nat → Prop} {w : World} {mb C : Nat} {S : MS} (h : SM K w mb C S) (t : Nat) (h1 : C + 20 ≤ t) (h2 : t ≤ 1099511627776) :
    Calls Tryz.prog 12 #[.pointer (some ⟨mb, 0, none⟩), .int .i64 t] w fun e w' => e = .returned (.int .i64 0) ∧ SM0 K w' mb t S ∧ Kept K w w' := by
  obtain ⟨kb, ms, bags, hl, hM⟩ := h
  have hlb := hM.len
  refine (tick_ok hM t (by omega) h2).mono ?_
  rintro e w' ⟨he, hM', hk⟩
  have hmin : min (t / 10 - C / 10) ms.length = 2 := by omega
  rw [hmin] at hM'
  have e1 : shifted 2 ms = [none, none] := by
    unfold shifted
    rw [hl]; rfl
  have e2 : shiftB 2 bags = [[], []] := by
    unfold shiftB
    rw [← hlb, hl]; rfl
  rw [e1, e2] at hM'
  exact ⟨he, ⟨kb, hM'⟩, hk⟩

theorem sm_add {K : Nat → Prop} {w : World} {mb C : Nat} {S : MS} (h : SM0 K w mb C S) (v : Nat) (hv : v < 18446744073709551616) (hn : (FloatKind.f64.format.order v v != some .eq) = false) :
    Calls Tryz.prog 13 #[.pointer (some ⟨mb, 0, none⟩), .int .i64 C, .int .u64 v] w fun e w' => e = .returned (.int .i64 0) ∧ SM1 K w' mb C S (bucketN v) ∧ Kept K w w' := by
  obtain ⟨kb, hM⟩ := h
  refine (add_none hM C v 0 hM.hC hv hn (by omega) rfl).mono ?_
  rintro e w' ⟨he, ⟨b, hM'⟩, hk⟩
  exact ⟨he, ⟨kb, b, hM'⟩, hk⟩

theorem sm_quant {K : Nat → Prop} {w : World} {mb C : Nat} {S : MS} {x : Nat} (h : SM1 K w mb C S x) (hx : x < 18446744073709551616) (hn : (FloatKind.f64.format.order x x != some .eq) = false) :
    Calls Tryz.prog 21 #[.pointer (some ⟨mb, 0, none⟩), .int .i64 2, .int .i64 1, .int .i64 2] w fun e w' => e = .returned (.tuple #[.int .u64 x, .int .i64 0]) ∧ Below w.heap.size w w' := by
  obtain ⟨kb, b, hM⟩ := h
  have hq := quant_ok hM 2 1 2 (by omega) (by simp) (by simp) (by omega) (by omega) (by omega) [x] [x] rfl (by simp) (sorts_one x 1 hn (by omega) (by omega)) (by simpa using hx) (by simp) (by simp [totalOf])
  have e1 : rankOf (fun y => [x].count y) [x] (rankN 1 2 [x].length) = x := by
    simp [rankN, rankOf]
  rw [e1] at hq
  exact hq

/-- what Decide leaves -/
def decS (S : MS) (C low high least most rest q : Nat) : MS := if (rest : Int) ≤ (C : Int) - S.ch then chS S C (wantN low high least most S.wk q) else S

theorem sm_decide {K : Nat → Prop} {w : World} {mb C : Nat} {S : MS} {x : Nat} (h : SM1 K w mb C S x) (hx : x < 18446744073709551616) (hn : (FloatKind.f64.format.order x x != some .eq) = false) (rb low high least most rest : Nat) (hS : S.rb = some rb) (hK : K rb) (hR : RuleAt w rb low high least most rest)
    (hc1 : -1099511627776 ≤ S.ch) (hc2 : S.ch ≤ 1099511627776) (hwk : S.wk ≤ 1000) (hrest : rest ≤ 1099511627776) :
    Calls Tryz.prog 14 #[.pointer (some ⟨mb, 0, none⟩), .int .i64 2, .int .i64 1, .int .i64 2] w fun e w' => e = .returned (.tuple #[.int .i64 (decS S C low high least most rest x).wk, .int .i64 0]) ∧ SM K w' mb C (decS S C low high least most rest x) ∧ Kept K w w' := by
  have hq := sm_quant h hx hn
  obtain ⟨kb, b, hM⟩ := h
  refine (decide_val hM rb low high least most rest x hS hK hR 2 1 2 hq hc1 hc2 hwk hrest _ rfl).mono ?_
  rintro e w' ⟨he, hM', hk⟩
  exact ⟨he, ⟨kb, _, _, rfl, hM'⟩, hk⟩

abbrev oneN : Nat := 4607182418800017408
abbrev twoN : Nat := 4611686018427387904

theorem kNum0 : (FloatKind.f64.format.order 0 0 != some .eq) = false := by kernel_rfl
theorem kNum3 : (FloatKind.f64.format.order twoN twoN != some .eq) = false := by kernel_rfl
theorem kB0 : bucketN 0 = 0 := by kernel_rfl
theorem kB3 : bucketN twoN = twoN := by kernel_rfl
theorem kMay (lo hi r : Nat) (h1 : 1 ≤ lo) (h2 : lo ≤ hi) (h3 : hi ≤ 100) (h4 : r ≤ 1000) : mayB oneN halfN lo hi r = true := by
  have : leB oneN halfN = true := by kernel_rfl
  simp [mayB, this]
  omega
theorem kw0 (lo hi wk : Nat) : wantN oneN halfN lo hi wk 0 = if lo < wk then wk - 1 else wk := by
  have h1 : gtB 0 halfN = false := by kernel_rfl
  have h2 : ltB 0 oneN = true := by kernel_rfl
  simp [wantN, h1, h2]
theorem kw1 (lo hi wk : Nat) : wantN oneN halfN lo hi wk oneN = wk := by
  have h1 : gtB oneN halfN = false := by kernel_rfl
  have h2 : ltB oneN oneN = false := by kernel_rfl
  simp [wantN, h1, h2]
theorem kw2 (lo hi wk : Nat) : wantN oneN halfN lo hi wk halfN = wk := by
  have h1 : gtB halfN halfN = false := by kernel_rfl
  have h2 : ltB halfN oneN = false := by kernel_rfl
  simp [wantN, h1, h2]
theorem kw3 (lo hi wk : Nat) : wantN oneN halfN lo hi wk twoN = if wk < hi then wk + 1 else wk := by
  have h1 : gtB twoN halfN = true := by kernel_rfl
  have h2 : ltB twoN oneN = false := by kernel_rfl
  simp [wantN, h1, h2]
end Go.Proofs.YtgekdmjneogdoabGreatDoor

namespace Go.Proofs.YtgekdmjneogdoabGreatDoor
open Go.RowKit Go.Shelf Go.Maps

/-- a slice that reads as ints, in blocks of K -/
def RdZs (K : Nat → Prop) (w : World) (v : Value) (zs : List Int) : Prop :=
  ∃ ao cap, v = .slice ao zs.length cap ∧ zs.length ≤ cap ∧ (0 < zs.length → ∃ g o, K g ∧ ao = some ⟨g, o, none⟩ ∧ ∀ j, j < zs.length → w.cell? ⟨g, o + j, none⟩ = some (.int .i64 (zs.getD j 0)))

theorem RuleAt.kept {K : Nat → Prop} {w w' : World} {rb low high : Nat} {least most rest : Int} (h : RuleAt w rb low high least most rest) (hk : Kept K w w') (hK : K rb) : RuleAt w' rb low high least most rest := (hk.block rb hK).trans h

theorem below_of_KR {w0 w w' : World} {rb : Nat} (h : Below w0.heap.size w0 w) (hk : Kept (fun k => Under w0 k ∨ k = rb) w w') : Below w0.heap.size w0 w' := h.trans (Kept.below (hk.sub (fun _ h => Or.inl h)))

/-- the law's own memory of a change and the meter's -/
def ChOk (chI sch : Int) (now : Nat) : Prop := (chI = -1 ∧ sch = -1099511627776) ∨ (chI = sch ∧ 0 ≤ sch ∧ sch ≤ now)

theorem chok_later {chI sch : Int} {now now2 : Nat} (h : ChOk chI sch now) (hl : now ≤ now2) : ChOk chI sch now2 := by
  unfold ChOk at *; omega
theorem chok_bounds {chI sch : Int} {now : Nat} (h : ChOk chI sch now) (hl : now ≤ 3000) : -1099511627776 ≤ sch ∧ sch ≤ 1099511627776 := by
  unfold ChOk at *; omega
theorem chok_gate {chI sch : Int} {now now2 r : Nat} (h : ChOk chI sch now) (hr : r ≤ 1000) : (chI < 0 ∧ (r : Int) ≤ (now2 : Int) - sch) ∨ (0 ≤ chI ∧ chI = sch ∧ (r : Int) ≤ (now2 : Int) - sch) ∨ (0 ≤ chI ∧ chI = sch ∧ ¬ (r : Int) ≤ (now2 : Int) - sch) := by
  unfold ChOk at *; omega

set_option maxRecDepth 40000 in
set_option maxHeartbeats 8000000 in
theorem steered_ok (a b c : Int) (v : Value) (zs : List Int) (w : World) (ha1 : -9223372036854775808 ≤ a) (ha2 : a ≤ 9223372036854775807) (hb1 : -9223372036854775808 ≤ b) (hb2 : b ≤ 9223372036854775807) (hc1 : -9223372036854775808 ≤ c) (hc2 : c ≤ 9223372036854775807)
    (hv : RdZs (Under w) w v zs) (hz : ∀ z ∈ zs, -9223372036854775808 ≤ z ∧ z ≤ 9223372036854775807) (hzl : zs.length ≤ 9223372036854775807) (hT : Tabs w) (hC : CTabs w) (hG : GK (Under w)) (hS : SortsTo [halfN, halfN] [halfN]) :
    Calls Tryz.prog 4 #[.int .i64 a, .int .i64 b, .int .i64 c, v] w fun e w' => e = .returned (.bool true) ∧ Below w.heap.size w w' := by
  have HA := hide (awake_ok w hT hC hG hS)
  have HPa := hide (fun w => pick_any a 5 w ha1 ha2 (by omega) (by omega))
  have HPb := hide (fun w => pick_any b 5 w hb1 hb2 (by omega) (by omega))
  have HPc := hide (fun w => pick_any c 40 w hc1 hc2 (by omega) (by omega))
  have hpa := pickN_lt a 5 (by omega)
  have hpb := pickN_lt b 5 (by omega)
  have hpc := pickN_lt c 40 (by omega)
  clear hT hC hG hS
  generalize pickN a 5 = pa at *
  generalize pickN b 5 = pb at *
  generalize pickN c 40 = r at *
  obtain ⟨lo, hlo⟩ : ∃ x, x = 1 + pa := ⟨_, rfl⟩
  obtain ⟨hi, hhi⟩ : ∃ x, x = lo + pb := ⟨_, rfl⟩
  have hloI : (1 : Int) + (pa : Int) = (lo : Int) := by omega
  have hhiI : (lo : Int) + (pb : Int) = (hi : Int) := by omega
  have l1 : 1 ≤ lo := by omega
  have l2 : lo ≤ 5 := by omega
  have l3 : lo ≤ hi := by omega
  have l4 : hi ≤ 9 := by omega
  clear hlo hhi
  obtain ⟨ao, cap, rfl, hcap, hcells⟩ := hv
  have HCe := hide hcells
  have HZ := hide hz
  clear hcells hz
  generalize hL : zs.length = L at *
  go_enter Tryz.func4, Tryz.ntmps4
  go_wp2_with fail
  refine (unhide HA).mono ?_
  rintro e w1 ⟨rfl, hb1'⟩
  have HB1 := hide hb1'
  clear hb1' HA
  go_wp2_with fail
  refine (bare_new (Under w) 2 10 (by omega) (by omega) (by omega) (by omega) w1 (fun k hk => Nat.lt_of_lt_of_le hk (unhide HB1).size)).mono ?_
  rintro e w2 ⟨mb, rfl, hBare, hk2⟩
  have HM2 : Hid (∃ kb, Mtr (Under w) w2 mb kb 10 0 MS.zero [none, none] [[], []]) := hBare
  have HB2 := hide (below_of_under (unhide HB1) hk2)
  clear hBare hk2 HB1
  go_wp2_with fail
  refine (unhide HPa _).mono ?_
  rintro e w3 ⟨rfl, e3⟩
  rw [e3]
  clear e3 w3 HPa
  go_wp2_with fail
  refine (unhide HPb _).mono ?_
  rintro e w3 ⟨rfl, e3⟩
  rw [e3]
  clear e3 w3 HPb
  go_wp2_with fail
  refine (unhide HPc _).mono ?_
  rintro e w3 ⟨rfl, e3⟩
  rw [e3]
  clear e3 w3 HPc
  have HRu : Hid (Calls Tryz.prog 11 #[.pointer (some ⟨mb, 0, none⟩), .int .u64 4607182418800017408, .int .u64 4609434218613702656, .int .i64 lo, .int .i64 hi, .int .i64 r] w2 fun e w' => e = .returned (.int .i64 0) ∧ ∃ rb, RuleAt w' rb oneN halfN lo hi r ∧ SM (fun k => Under w k ∨ k = rb) w' mb 0 ⟨some rb, lo, -1099511627776⟩ ∧ Kept (Under w) w2 w' ∧ w.heap.size ≤ rb) := by
    obtain ⟨kb, hM⟩ := unhide HM2
    refine (rule_ok hM oneN halfN lo hi r one_num half_num (kMay lo hi r l1 l3 (by omega) (by omega)) (by simp) (by omega) (by omega)).mono ?_
    rintro e w' ⟨he, rb, h1, h2, h3, h4⟩
    refine ⟨he, rb, h2, ⟨kb, [none, none], [[], []], rfl, ?_⟩, h4, Nat.le_trans (unhide HB2).size h1⟩
    have : min (max MS.zero.wk lo) hi = lo := by show min (max 1 lo) hi = lo; omega
    rw [this] at h3
    exact h3
  go_wp2_with fail
  refine (unhide HRu).mono ?_
  rintro e w3 ⟨rfl, rb, hR3, hM3, hk3, hrb⟩
  have HR3 := hide hR3
  have HM3 := hide hM3
  have HB3 := hide (below_of_under (unhide HB2) hk3)
  clear hR3 hM3 hk3 HRu HM2 HB2
  go_wp2_with fail
  go_loopw [15, 16, 17, 18, 19, 20, 21, 22, 23, 24, 25] (fun _ was ch nw i _ _ _ _ _ _ wr => ∃ (wk now j : Nat) (chI sch : Int), was = .int .i64 wk ∧ ch = .int .i64 chI ∧ nw = .int .i64 now ∧ i = .int .i64 j ∧ lo ≤ wk ∧ wk ≤ hi ∧ Hid (ChOk chI sch now) ∧ now ≤ j * 49 ∧ j ≤ 60 ∧ j ≤ L ∧ Hid (SM (fun k => Under w k ∨ k = rb) wr mb now ⟨some rb, wk, sch⟩) ∧ Hid (RuleAt wr rb oneN halfN lo hi r) ∧ Hid (Below w.heap.size w wr)) (fun _ _ _ _ i _ _ _ _ _ _ _ => 60 - (RowKit.intOf i).toNat)
  case atStart => exact ⟨lo, 0, 0, -1, -1099511627776, rfl, rfl, rfl, rfl, Nat.le_refl _, l3, Or.inl ⟨rfl, rfl⟩, by omega, by omega, by omega, HM3, HR3, HB3⟩
  case round =>
    obtain ⟨wk, now, j, chI, sch, rfl, rfl, rfl, rfl, hw1, hw2, hch, hnow, hj60, hjL, hM, hR, hB⟩ := hrel
    by_cases hgo : j < L ∧ j < 60
    · obtain ⟨hjl, hj6⟩ := hgo
      obtain ⟨g, o, hgK, rfl, hce⟩ := unhide HCe (by omega)
      have hcz := hce j hjl
      have hbz := unhide HZ (zs.getD j 0) (by
        rw [List.getD_eq_getElem?_getD, List.getElem?_eq_getElem (by rw [hL]; exact hjl)]
        exact List.getElem_mem _)
      generalize zs.getD j 0 = z at hcz hbz
      have hcw : wr.cell? ⟨g, o + j, none⟩ = some (.int .i64 z) := ((unhide hB).cell (p := ⟨g, o + j, none⟩) hgK).trans hcz
      have HGK := hide hgK
      clear hce hgK
      have hdj1 : decide ((j : Int) < (L : Int)) = true := by simp; omega
      have hdj2 : decide ((j : Int) < 60) = true := by simp; omega
      have hq4 : -9223372036854775808 ≤ z.tdiv 4 ∧ z.tdiv 4 ≤ 9223372036854775807 := by
        rcases Int.lt_or_le z 0 with h | h
        · have e : z.tdiv 4 = -((-z).tdiv 4) := by rw [Int.neg_tdiv, Int.neg_neg]
          rw [e, Int.tdiv_eq_ediv_of_nonneg (by omega)]
          omega
        · rw [Int.tdiv_eq_ediv_of_nonneg h]
          omega
      have HPz := hide (fun w => pick_any (z.tdiv 4) 30 w hq4.1 hq4.2 (by omega) (by omega))
      have HPk := hide (fun w => pick_any z 4 w hbz.1 hbz.2 (by omega) (by omega))
      have hpz := pickN_lt (z.tdiv 4) 30 (by omega)
      have hpk := pickN_lt z 4 (by omega)
      have HQ4 := hide hq4
      clear hq4
      generalize pickN (z.tdiv 4) 30 = x at *
      generalize pickN z 4 = kd at *
      obtain ⟨now2, hnow2⟩ : ∃ m, m = now + 20 + x := ⟨_, rfl⟩
      have hnowi : (now : Int) + 20 + (x : Int) = (now2 : Int) := by omega
      have hn2a : now + 20 ≤ now2 := by omega
      have hn2b : now2 ≤ (j + 1) * 49 := by omega
      have hn2c : now2 ≤ 3000 := by omega
      clear hnow2
      go_wp2_with fail
      refine (unhide HPz _).mono ?_
      rintro e w5 ⟨rfl, e5⟩
      rw [e5]
      clear e5 w5 HPz
      go_wp2_with fail
      refine (sm_tick (unhide hM) now2 hn2a (by omega)).mono ?_
      rintro e w5 ⟨rfl, hM5, hk5⟩
      have HM5 := hide hM5
      have HR5 : Hid (RuleAt w5 rb oneN halfN lo hi r) := (unhide hR).kept hk5 (Or.inr rfl)
      have HB5 := hide (below_of_KR (unhide hB) hk5)
      have hcw5 : w5.cell? ⟨g, o + j, none⟩ = some (.int .i64 z) := ((unhide HB5).cell (p := ⟨g, o + j, none⟩) (unhide HGK)).trans hcz
      clear hM5 hk5 hM hR hB hcw
      go_wp2_with fail
      refine (unhide HPk _).mono ?_
      rintro e w6 ⟨rfl, e6⟩
      rw [e6]
      clear e6 w6 HPk
      have hk4 : kd = 0 ∨ kd = 1 ∨ kd = 2 ∨ kd = 3 := by omega
      rcases hk4 with rfl | rfl | rfl | rfl
      · go_wp2_with fail
        refine (sm_add (unhide HM5) 0 (by decide) kNum0).mono ?_
        rintro e w6 ⟨rfl, hM6, hk6⟩
        rw [kB0] at hM6
        have HM6 := hide hM6
        have HR6 : Hid (RuleAt w6 rb oneN halfN lo hi r) := (unhide HR5).kept hk6 (Or.inr rfl)
        have HB6 := hide (below_of_KR (unhide HB5) hk6)
        clear hM6 hk6 HM5 HR5 HB5 hcw5
        have hcb := chok_bounds (unhide hch) (by omega)
        have HD := hide (sm_decide (unhide HM6) (by decide) kNum0 rb oneN halfN lo hi r rfl (Or.inr rfl) (unhide HR6) hcb.1 hcb.2 (by show wk ≤ 1000; omega) (by omega))
        clear hcb
        rw [show decS ⟨some rb, wk, sch⟩ now2 oneN halfN lo hi r 0 = (if (r : Int) ≤ (now2 : Int) - sch then chS ⟨some rb, wk, sch⟩ now2 (wantN oneN halfN lo hi wk 0) else ⟨some rb, wk, sch⟩) from rfl, kw0] at HD
        have hgates : (chI < 0 ∧ (r : Int) ≤ (now2 : Int) - sch) ∨ (0 ≤ chI ∧ chI = sch ∧ (r : Int) ≤ (now2 : Int) - sch) ∨ (0 ≤ chI ∧ chI = sch ∧ ¬ (r : Int) ≤ (now2 : Int) - sch) := chok_gate (unhide hch) (by omega)
        rcases hgates with ⟨hc0, hgate⟩ | ⟨hc0, hcs, hgate⟩ | ⟨hc0, hcs, hgate⟩
        · have hd0 : decide (chI < 0) = true := by simp [hc0]
          rw [if_pos hgate] at HD
          by_cases hcd : lo < wk
          · rw [if_pos hcd, show chS ⟨some rb, wk, sch⟩ now2 (wk - 1) = ⟨some rb, wk - 1, (now2 : Int)⟩ from if_neg (by show ¬ (wk - 1) = wk; omega)] at HD
            have hdc : decide ((lo : Int) < (wk : Int)) = true := by simp; omega
            obtain ⟨w2n, hw2n⟩ : ∃ y, y = wk - 1 := ⟨_, rfl⟩
            rw [← hw2n] at HD
            have hwi : (wk : Int) - 1 = (w2n : Int) := by omega
            have hwa : lo ≤ w2n := by omega
            have hwb : w2n ≤ hi := by omega
            have hwc : ((w2n : Int) == (wk : Int)) = false := by simp; omega
            clear hw2n
            go_wp2_with fail
            refine (unhide HD).mono ?_
            rintro e w8 ⟨rfl, hM8, hk8⟩
            have HM8 := hide hM8
            have HR8 : Hid (RuleAt w8 rb oneN halfN lo hi r) := (unhide HR6).kept hk8 (Or.inr rfl)
            have HB8 := hide (below_of_KR (unhide HB6) hk8)
            clear hM8 hk8 HM6 HR6 HB6 HD
            have hx1 : ¬ w2n < lo := by omega
            have hx2 : ¬ hi < w2n := by omega
            have hx3 : decide ((w2n : Int) < (lo : Int)) = false := by simp; omega
            have hx4 : decide ((hi : Int) < (w2n : Int)) = false := by simp; omega
            go_wp2_with fail
            go_roundw
            case rel => exact ⟨w2n, now2, j + 1, (now2 : Int), (now2 : Int), by first | rfl | (congr 1; omega), rfl, rfl, rfl, by omega, by omega, Or.inr ⟨rfl, by omega, by omega⟩, hn2b, by omega, by omega, HM8, HR8, HB8⟩
            case measure => simp [RowKit.intOf]; omega
          · rw [if_neg hcd, show chS ⟨some rb, wk, sch⟩ now2 wk = ⟨some rb, wk, sch⟩ from if_pos rfl] at HD
            have hdc : decide ((lo : Int) < (wk : Int)) = false := by simp; omega
            go_wp2_with fail
            refine (unhide HD).mono ?_
            rintro e w8 ⟨rfl, hM8, hk8⟩
            have HM8 := hide hM8
            have HR8 : Hid (RuleAt w8 rb oneN halfN lo hi r) := (unhide HR6).kept hk8 (Or.inr rfl)
            have HB8 := hide (below_of_KR (unhide HB6) hk8)
            clear hM8 hk8 HM6 HR6 HB6 HD
            have hx1 : ¬ wk < lo := by omega
            have hx2 : ¬ hi < wk := by omega
            have hx3 : decide ((wk : Int) < (lo : Int)) = false := by simp; omega
            have hx4 : decide ((hi : Int) < (wk : Int)) = false := by simp; omega
            go_wp2_with fail
            go_roundw
            case rel => exact ⟨wk, now2, j + 1, _, _, by first | rfl | (congr 1; omega), rfl, rfl, rfl, by omega, by omega, (chok_later (unhide hch) (by omega)), hn2b, by omega, by omega, HM8, HR8, HB8⟩
            case measure => simp [RowKit.intOf]; omega
        · subst hcs
          have hcub : chI ≤ 3000 := by have h := unhide hch; unfold ChOk at h; omega
          have hd0 : decide (chI < 0) = false := by simp; omega
          have hdg : decide ((r : Int) ≤ (now2 : Int) - chI) = true := by simp; omega
          rw [if_pos hgate] at HD
          by_cases hcd : lo < wk
          · rw [if_pos hcd, show chS ⟨some rb, wk, chI⟩ now2 (wk - 1) = ⟨some rb, wk - 1, (now2 : Int)⟩ from if_neg (by show ¬ (wk - 1) = wk; omega)] at HD
            have hdc : decide ((lo : Int) < (wk : Int)) = true := by simp; omega
            obtain ⟨w2n, hw2n⟩ : ∃ y, y = wk - 1 := ⟨_, rfl⟩
            rw [← hw2n] at HD
            have hwi : (wk : Int) - 1 = (w2n : Int) := by omega
            have hwa : lo ≤ w2n := by omega
            have hwb : w2n ≤ hi := by omega
            have hwc : ((w2n : Int) == (wk : Int)) = false := by simp; omega
            clear hw2n
            go_wp2_with fail
            refine (unhide HD).mono ?_
            rintro e w8 ⟨rfl, hM8, hk8⟩
            have HM8 := hide hM8
            have HR8 : Hid (RuleAt w8 rb oneN halfN lo hi r) := (unhide HR6).kept hk8 (Or.inr rfl)
            have HB8 := hide (below_of_KR (unhide HB6) hk8)
            clear hM8 hk8 HM6 HR6 HB6 HD
            have hx1 : ¬ w2n < lo := by omega
            have hx2 : ¬ hi < w2n := by omega
            have hx3 : decide ((w2n : Int) < (lo : Int)) = false := by simp; omega
            have hx4 : decide ((hi : Int) < (w2n : Int)) = false := by simp; omega
            go_wp2_with fail
            go_roundw
            case rel => exact ⟨w2n, now2, j + 1, (now2 : Int), (now2 : Int), by first | rfl | (congr 1; omega), rfl, rfl, rfl, by omega, by omega, Or.inr ⟨rfl, by omega, by omega⟩, hn2b, by omega, by omega, HM8, HR8, HB8⟩
            case measure => simp [RowKit.intOf]; omega
          · rw [if_neg hcd, show chS ⟨some rb, wk, chI⟩ now2 wk = ⟨some rb, wk, chI⟩ from if_pos rfl] at HD
            have hdc : decide ((lo : Int) < (wk : Int)) = false := by simp; omega
            go_wp2_with fail
            refine (unhide HD).mono ?_
            rintro e w8 ⟨rfl, hM8, hk8⟩
            have HM8 := hide hM8
            have HR8 : Hid (RuleAt w8 rb oneN halfN lo hi r) := (unhide HR6).kept hk8 (Or.inr rfl)
            have HB8 := hide (below_of_KR (unhide HB6) hk8)
            clear hM8 hk8 HM6 HR6 HB6 HD
            have hx1 : ¬ wk < lo := by omega
            have hx2 : ¬ hi < wk := by omega
            have hx3 : decide ((wk : Int) < (lo : Int)) = false := by simp; omega
            have hx4 : decide ((hi : Int) < (wk : Int)) = false := by simp; omega
            go_wp2_with fail
            go_roundw
            case rel => exact ⟨wk, now2, j + 1, _, _, by first | rfl | (congr 1; omega), rfl, rfl, rfl, by omega, by omega, (chok_later (unhide hch) (by omega)), hn2b, by omega, by omega, HM8, HR8, HB8⟩
            case measure => simp [RowKit.intOf]; omega
        · subst hcs
          have hcub : chI ≤ 3000 := by have h := unhide hch; unfold ChOk at h; omega
          have hd0 : decide (chI < 0) = false := by simp; omega
          have hdg : decide ((r : Int) ≤ (now2 : Int) - chI) = false := by simp; omega
          rw [if_neg hgate] at HD
          go_wp2_with fail
          refine (unhide HD).mono ?_
          rintro e w8 ⟨rfl, hM8, hk8⟩
          have HM8 := hide hM8
          have HR8 : Hid (RuleAt w8 rb oneN halfN lo hi r) := (unhide HR6).kept hk8 (Or.inr rfl)
          have HB8 := hide (below_of_KR (unhide HB6) hk8)
          clear hM8 hk8 HM6 HR6 HB6 HD
          have hx1 : ¬ wk < lo := by omega
          have hx2 : ¬ hi < wk := by omega
          have hx3 : decide ((wk : Int) < (lo : Int)) = false := by simp; omega
          have hx4 : decide ((hi : Int) < (wk : Int)) = false := by simp; omega
          go_wp2_with fail
          go_roundw
          case rel => exact ⟨wk, now2, j + 1, _, _, by first | rfl | (congr 1; omega), rfl, rfl, rfl, by omega, by omega, (chok_later (unhide hch) (by omega)), hn2b, by omega, by omega, HM8, HR8, HB8⟩
          case measure => simp [RowKit.intOf]; omega
      · go_wp2_with fail
        refine (sm_add (unhide HM5) oneN (by decide) one_num).mono ?_
        rintro e w6 ⟨rfl, hM6, hk6⟩
        rw [one_bucket] at hM6
        have HM6 := hide hM6
        have HR6 : Hid (RuleAt w6 rb oneN halfN lo hi r) := (unhide HR5).kept hk6 (Or.inr rfl)
        have HB6 := hide (below_of_KR (unhide HB5) hk6)
        clear hM6 hk6 HM5 HR5 HB5 hcw5
        have hcb := chok_bounds (unhide hch) (by omega)
        have HD := hide (sm_decide (unhide HM6) (by decide) one_num rb oneN halfN lo hi r rfl (Or.inr rfl) (unhide HR6) hcb.1 hcb.2 (by show wk ≤ 1000; omega) (by omega))
        clear hcb
        rw [show decS ⟨some rb, wk, sch⟩ now2 oneN halfN lo hi r oneN = (if (r : Int) ≤ (now2 : Int) - sch then chS ⟨some rb, wk, sch⟩ now2 (wantN oneN halfN lo hi wk oneN) else ⟨some rb, wk, sch⟩) from rfl, kw1] at HD
        have hgates : (chI < 0 ∧ (r : Int) ≤ (now2 : Int) - sch) ∨ (0 ≤ chI ∧ chI = sch ∧ (r : Int) ≤ (now2 : Int) - sch) ∨ (0 ≤ chI ∧ chI = sch ∧ ¬ (r : Int) ≤ (now2 : Int) - sch) := chok_gate (unhide hch) (by omega)
        rcases hgates with ⟨hc0, hgate⟩ | ⟨hc0, hcs, hgate⟩ | ⟨hc0, hcs, hgate⟩
        · have hd0 : decide (chI < 0) = true := by simp [hc0]
          rw [if_pos hgate] at HD
          rw [show chS ⟨some rb, wk, sch⟩ now2 wk = ⟨some rb, wk, sch⟩ from if_pos rfl] at HD
          go_wp2_with fail
          refine (unhide HD).mono ?_
          rintro e w8 ⟨rfl, hM8, hk8⟩
          have HM8 := hide hM8
          have HR8 : Hid (RuleAt w8 rb oneN halfN lo hi r) := (unhide HR6).kept hk8 (Or.inr rfl)
          have HB8 := hide (below_of_KR (unhide HB6) hk8)
          clear hM8 hk8 HM6 HR6 HB6 HD
          have hx1 : ¬ wk < lo := by omega
          have hx2 : ¬ hi < wk := by omega
          have hx3 : decide ((wk : Int) < (lo : Int)) = false := by simp; omega
          have hx4 : decide ((hi : Int) < (wk : Int)) = false := by simp; omega
          go_wp2_with fail
          go_roundw
          case rel => exact ⟨wk, now2, j + 1, _, _, by first | rfl | (congr 1; omega), rfl, rfl, rfl, by omega, by omega, (chok_later (unhide hch) (by omega)), hn2b, by omega, by omega, HM8, HR8, HB8⟩
          case measure => simp [RowKit.intOf]; omega
        · subst hcs
          have hcub : chI ≤ 3000 := by have h := unhide hch; unfold ChOk at h; omega
          have hd0 : decide (chI < 0) = false := by simp; omega
          have hdg : decide ((r : Int) ≤ (now2 : Int) - chI) = true := by simp; omega
          rw [if_pos hgate] at HD
          rw [show chS ⟨some rb, wk, chI⟩ now2 wk = ⟨some rb, wk, chI⟩ from if_pos rfl] at HD
          go_wp2_with fail
          refine (unhide HD).mono ?_
          rintro e w8 ⟨rfl, hM8, hk8⟩
          have HM8 := hide hM8
          have HR8 : Hid (RuleAt w8 rb oneN halfN lo hi r) := (unhide HR6).kept hk8 (Or.inr rfl)
          have HB8 := hide (below_of_KR (unhide HB6) hk8)
          clear hM8 hk8 HM6 HR6 HB6 HD
          have hx1 : ¬ wk < lo := by omega
          have hx2 : ¬ hi < wk := by omega
          have hx3 : decide ((wk : Int) < (lo : Int)) = false := by simp; omega
          have hx4 : decide ((hi : Int) < (wk : Int)) = false := by simp; omega
          go_wp2_with fail
          go_roundw
          case rel => exact ⟨wk, now2, j + 1, _, _, by first | rfl | (congr 1; omega), rfl, rfl, rfl, by omega, by omega, (chok_later (unhide hch) (by omega)), hn2b, by omega, by omega, HM8, HR8, HB8⟩
          case measure => simp [RowKit.intOf]; omega
        · subst hcs
          have hcub : chI ≤ 3000 := by have h := unhide hch; unfold ChOk at h; omega
          have hd0 : decide (chI < 0) = false := by simp; omega
          have hdg : decide ((r : Int) ≤ (now2 : Int) - chI) = false := by simp; omega
          rw [if_neg hgate] at HD
          go_wp2_with fail
          refine (unhide HD).mono ?_
          rintro e w8 ⟨rfl, hM8, hk8⟩
          have HM8 := hide hM8
          have HR8 : Hid (RuleAt w8 rb oneN halfN lo hi r) := (unhide HR6).kept hk8 (Or.inr rfl)
          have HB8 := hide (below_of_KR (unhide HB6) hk8)
          clear hM8 hk8 HM6 HR6 HB6 HD
          have hx1 : ¬ wk < lo := by omega
          have hx2 : ¬ hi < wk := by omega
          have hx3 : decide ((wk : Int) < (lo : Int)) = false := by simp; omega
          have hx4 : decide ((hi : Int) < (wk : Int)) = false := by simp; omega
          go_wp2_with fail
          go_roundw
          case rel => exact ⟨wk, now2, j + 1, _, _, by first | rfl | (congr 1; omega), rfl, rfl, rfl, by omega, by omega, (chok_later (unhide hch) (by omega)), hn2b, by omega, by omega, HM8, HR8, HB8⟩
          case measure => simp [RowKit.intOf]; omega
      · go_wp2_with fail
        refine (sm_add (unhide HM5) halfN (by decide) half_num).mono ?_
        rintro e w6 ⟨rfl, hM6, hk6⟩
        rw [half_bucket] at hM6
        have HM6 := hide hM6
        have HR6 : Hid (RuleAt w6 rb oneN halfN lo hi r) := (unhide HR5).kept hk6 (Or.inr rfl)
        have HB6 := hide (below_of_KR (unhide HB5) hk6)
        clear hM6 hk6 HM5 HR5 HB5 hcw5
        have hcb := chok_bounds (unhide hch) (by omega)
        have HD := hide (sm_decide (unhide HM6) (by decide) half_num rb oneN halfN lo hi r rfl (Or.inr rfl) (unhide HR6) hcb.1 hcb.2 (by show wk ≤ 1000; omega) (by omega))
        clear hcb
        rw [show decS ⟨some rb, wk, sch⟩ now2 oneN halfN lo hi r halfN = (if (r : Int) ≤ (now2 : Int) - sch then chS ⟨some rb, wk, sch⟩ now2 (wantN oneN halfN lo hi wk halfN) else ⟨some rb, wk, sch⟩) from rfl, kw2] at HD
        have hgates : (chI < 0 ∧ (r : Int) ≤ (now2 : Int) - sch) ∨ (0 ≤ chI ∧ chI = sch ∧ (r : Int) ≤ (now2 : Int) - sch) ∨ (0 ≤ chI ∧ chI = sch ∧ ¬ (r : Int) ≤ (now2 : Int) - sch) := chok_gate (unhide hch) (by omega)
        rcases hgates with ⟨hc0, hgate⟩ | ⟨hc0, hcs, hgate⟩ | ⟨hc0, hcs, hgate⟩
        · have hd0 : decide (chI < 0) = true := by simp [hc0]
          rw [if_pos hgate] at HD
          rw [show chS ⟨some rb, wk, sch⟩ now2 wk = ⟨some rb, wk, sch⟩ from if_pos rfl] at HD
          go_wp2_with fail
          refine (unhide HD).mono ?_
          rintro e w8 ⟨rfl, hM8, hk8⟩
          have HM8 := hide hM8
          have HR8 : Hid (RuleAt w8 rb oneN halfN lo hi r) := (unhide HR6).kept hk8 (Or.inr rfl)
          have HB8 := hide (below_of_KR (unhide HB6) hk8)
          clear hM8 hk8 HM6 HR6 HB6 HD
          have hx1 : ¬ wk < lo := by omega
          have hx2 : ¬ hi < wk := by omega
          have hx3 : decide ((wk : Int) < (lo : Int)) = false := by simp; omega
          have hx4 : decide ((hi : Int) < (wk : Int)) = false := by simp; omega
          go_wp2_with fail
          go_roundw
          case rel => exact ⟨wk, now2, j + 1, _, _, by first | rfl | (congr 1; omega), rfl, rfl, rfl, by omega, by omega, (chok_later (unhide hch) (by omega)), hn2b, by omega, by omega, HM8, HR8, HB8⟩
          case measure => simp [RowKit.intOf]; omega
        · subst hcs
          have hcub : chI ≤ 3000 := by have h := unhide hch; unfold ChOk at h; omega
          have hd0 : decide (chI < 0) = false := by simp; omega
          have hdg : decide ((r : Int) ≤ (now2 : Int) - chI) = true := by simp; omega
          rw [if_pos hgate] at HD
          rw [show chS ⟨some rb, wk, chI⟩ now2 wk = ⟨some rb, wk, chI⟩ from if_pos rfl] at HD
          go_wp2_with fail
          refine (unhide HD).mono ?_
          rintro e w8 ⟨rfl, hM8, hk8⟩
          have HM8 := hide hM8
          have HR8 : Hid (RuleAt w8 rb oneN halfN lo hi r) := (unhide HR6).kept hk8 (Or.inr rfl)
          have HB8 := hide (below_of_KR (unhide HB6) hk8)
          clear hM8 hk8 HM6 HR6 HB6 HD
          have hx1 : ¬ wk < lo := by omega
          have hx2 : ¬ hi < wk := by omega
          have hx3 : decide ((wk : Int) < (lo : Int)) = false := by simp; omega
          have hx4 : decide ((hi : Int) < (wk : Int)) = false := by simp; omega
          go_wp2_with fail
          go_roundw
          case rel => exact ⟨wk, now2, j + 1, _, _, by first | rfl | (congr 1; omega), rfl, rfl, rfl, by omega, by omega, (chok_later (unhide hch) (by omega)), hn2b, by omega, by omega, HM8, HR8, HB8⟩
          case measure => simp [RowKit.intOf]; omega
        · subst hcs
          have hcub : chI ≤ 3000 := by have h := unhide hch; unfold ChOk at h; omega
          have hd0 : decide (chI < 0) = false := by simp; omega
          have hdg : decide ((r : Int) ≤ (now2 : Int) - chI) = false := by simp; omega
          rw [if_neg hgate] at HD
          go_wp2_with fail
          refine (unhide HD).mono ?_
          rintro e w8 ⟨rfl, hM8, hk8⟩
          have HM8 := hide hM8
          have HR8 : Hid (RuleAt w8 rb oneN halfN lo hi r) := (unhide HR6).kept hk8 (Or.inr rfl)
          have HB8 := hide (below_of_KR (unhide HB6) hk8)
          clear hM8 hk8 HM6 HR6 HB6 HD
          have hx1 : ¬ wk < lo := by omega
          have hx2 : ¬ hi < wk := by omega
          have hx3 : decide ((wk : Int) < (lo : Int)) = false := by simp; omega
          have hx4 : decide ((hi : Int) < (wk : Int)) = false := by simp; omega
          go_wp2_with fail
          go_roundw
          case rel => exact ⟨wk, now2, j + 1, _, _, by first | rfl | (congr 1; omega), rfl, rfl, rfl, by omega, by omega, (chok_later (unhide hch) (by omega)), hn2b, by omega, by omega, HM8, HR8, HB8⟩
          case measure => simp [RowKit.intOf]; omega
      · go_wp2_with fail
        refine (sm_add (unhide HM5) twoN (by decide) kNum3).mono ?_
        rintro e w6 ⟨rfl, hM6, hk6⟩
        rw [kB3] at hM6
        have HM6 := hide hM6
        have HR6 : Hid (RuleAt w6 rb oneN halfN lo hi r) := (unhide HR5).kept hk6 (Or.inr rfl)
        have HB6 := hide (below_of_KR (unhide HB5) hk6)
        clear hM6 hk6 HM5 HR5 HB5 hcw5
        have hcb := chok_bounds (unhide hch) (by omega)
        have HD := hide (sm_decide (unhide HM6) (by decide) kNum3 rb oneN halfN lo hi r rfl (Or.inr rfl) (unhide HR6) hcb.1 hcb.2 (by show wk ≤ 1000; omega) (by omega))
        clear hcb
        rw [show decS ⟨some rb, wk, sch⟩ now2 oneN halfN lo hi r twoN = (if (r : Int) ≤ (now2 : Int) - sch then chS ⟨some rb, wk, sch⟩ now2 (wantN oneN halfN lo hi wk twoN) else ⟨some rb, wk, sch⟩) from rfl, kw3] at HD
        have hgates : (chI < 0 ∧ (r : Int) ≤ (now2 : Int) - sch) ∨ (0 ≤ chI ∧ chI = sch ∧ (r : Int) ≤ (now2 : Int) - sch) ∨ (0 ≤ chI ∧ chI = sch ∧ ¬ (r : Int) ≤ (now2 : Int) - sch) := chok_gate (unhide hch) (by omega)
        rcases hgates with ⟨hc0, hgate⟩ | ⟨hc0, hcs, hgate⟩ | ⟨hc0, hcs, hgate⟩
        · have hd0 : decide (chI < 0) = true := by simp [hc0]
          rw [if_pos hgate] at HD
          by_cases hcd : wk < hi
          · rw [if_pos hcd, show chS ⟨some rb, wk, sch⟩ now2 (wk + 1) = ⟨some rb, wk + 1, (now2 : Int)⟩ from if_neg (by show ¬ (wk + 1) = wk; omega)] at HD
            have hdc : decide ((wk : Int) < (hi : Int)) = true := by simp; omega
            obtain ⟨w2n, hw2n⟩ : ∃ y, y = wk + 1 := ⟨_, rfl⟩
            rw [← hw2n] at HD
            have hwi : (wk : Int) + 1 = (w2n : Int) := by omega
            have hwa : lo ≤ w2n := by omega
            have hwb : w2n ≤ hi := by omega
            have hwc : ((w2n : Int) == (wk : Int)) = false := by simp; omega
            clear hw2n
            go_wp2_with fail
            refine (unhide HD).mono ?_
            rintro e w8 ⟨rfl, hM8, hk8⟩
            have HM8 := hide hM8
            have HR8 : Hid (RuleAt w8 rb oneN halfN lo hi r) := (unhide HR6).kept hk8 (Or.inr rfl)
            have HB8 := hide (below_of_KR (unhide HB6) hk8)
            clear hM8 hk8 HM6 HR6 HB6 HD
            have hx1 : ¬ w2n < lo := by omega
            have hx2 : ¬ hi < w2n := by omega
            have hx3 : decide ((w2n : Int) < (lo : Int)) = false := by simp; omega
            have hx4 : decide ((hi : Int) < (w2n : Int)) = false := by simp; omega
            go_wp2_with fail
            go_roundw
            case rel => exact ⟨w2n, now2, j + 1, (now2 : Int), (now2 : Int), by first | rfl | (congr 1; omega), rfl, rfl, rfl, by omega, by omega, Or.inr ⟨rfl, by omega, by omega⟩, hn2b, by omega, by omega, HM8, HR8, HB8⟩
            case measure => simp [RowKit.intOf]; omega
          · rw [if_neg hcd, show chS ⟨some rb, wk, sch⟩ now2 wk = ⟨some rb, wk, sch⟩ from if_pos rfl] at HD
            have hdc : decide ((wk : Int) < (hi : Int)) = false := by simp; omega
            go_wp2_with fail
            refine (unhide HD).mono ?_
            rintro e w8 ⟨rfl, hM8, hk8⟩
            have HM8 := hide hM8
            have HR8 : Hid (RuleAt w8 rb oneN halfN lo hi r) := (unhide HR6).kept hk8 (Or.inr rfl)
            have HB8 := hide (below_of_KR (unhide HB6) hk8)
            clear hM8 hk8 HM6 HR6 HB6 HD
            have hx1 : ¬ wk < lo := by omega
            have hx2 : ¬ hi < wk := by omega
            have hx3 : decide ((wk : Int) < (lo : Int)) = false := by simp; omega
            have hx4 : decide ((hi : Int) < (wk : Int)) = false := by simp; omega
            go_wp2_with fail
            go_roundw
            case rel => exact ⟨wk, now2, j + 1, _, _, by first | rfl | (congr 1; omega), rfl, rfl, rfl, by omega, by omega, (chok_later (unhide hch) (by omega)), hn2b, by omega, by omega, HM8, HR8, HB8⟩
            case measure => simp [RowKit.intOf]; omega
        · subst hcs
          have hcub : chI ≤ 3000 := by have h := unhide hch; unfold ChOk at h; omega
          have hd0 : decide (chI < 0) = false := by simp; omega
          have hdg : decide ((r : Int) ≤ (now2 : Int) - chI) = true := by simp; omega
          rw [if_pos hgate] at HD
          by_cases hcd : wk < hi
          · rw [if_pos hcd, show chS ⟨some rb, wk, chI⟩ now2 (wk + 1) = ⟨some rb, wk + 1, (now2 : Int)⟩ from if_neg (by show ¬ (wk + 1) = wk; omega)] at HD
            have hdc : decide ((wk : Int) < (hi : Int)) = true := by simp; omega
            obtain ⟨w2n, hw2n⟩ : ∃ y, y = wk + 1 := ⟨_, rfl⟩
            rw [← hw2n] at HD
            have hwi : (wk : Int) + 1 = (w2n : Int) := by omega
            have hwa : lo ≤ w2n := by omega
            have hwb : w2n ≤ hi := by omega
            have hwc : ((w2n : Int) == (wk : Int)) = false := by simp; omega
            clear hw2n
            go_wp2_with fail
            refine (unhide HD).mono ?_
            rintro e w8 ⟨rfl, hM8, hk8⟩
            have HM8 := hide hM8
            have HR8 : Hid (RuleAt w8 rb oneN halfN lo hi r) := (unhide HR6).kept hk8 (Or.inr rfl)
            have HB8 := hide (below_of_KR (unhide HB6) hk8)
            clear hM8 hk8 HM6 HR6 HB6 HD
            have hx1 : ¬ w2n < lo := by omega
            have hx2 : ¬ hi < w2n := by omega
            have hx3 : decide ((w2n : Int) < (lo : Int)) = false := by simp; omega
            have hx4 : decide ((hi : Int) < (w2n : Int)) = false := by simp; omega
            go_wp2_with fail
            go_roundw
            case rel => exact ⟨w2n, now2, j + 1, (now2 : Int), (now2 : Int), by first | rfl | (congr 1; omega), rfl, rfl, rfl, by omega, by omega, Or.inr ⟨rfl, by omega, by omega⟩, hn2b, by omega, by omega, HM8, HR8, HB8⟩
            case measure => simp [RowKit.intOf]; omega
          · rw [if_neg hcd, show chS ⟨some rb, wk, chI⟩ now2 wk = ⟨some rb, wk, chI⟩ from if_pos rfl] at HD
            have hdc : decide ((wk : Int) < (hi : Int)) = false := by simp; omega
            go_wp2_with fail
            refine (unhide HD).mono ?_
            rintro e w8 ⟨rfl, hM8, hk8⟩
            have HM8 := hide hM8
            have HR8 : Hid (RuleAt w8 rb oneN halfN lo hi r) := (unhide HR6).kept hk8 (Or.inr rfl)
            have HB8 := hide (below_of_KR (unhide HB6) hk8)
            clear hM8 hk8 HM6 HR6 HB6 HD
            have hx1 : ¬ wk < lo := by omega
            have hx2 : ¬ hi < wk := by omega
            have hx3 : decide ((wk : Int) < (lo : Int)) = false := by simp; omega
            have hx4 : decide ((hi : Int) < (wk : Int)) = false := by simp; omega
            go_wp2_with fail
            go_roundw
            case rel => exact ⟨wk, now2, j + 1, _, _, by first | rfl | (congr 1; omega), rfl, rfl, rfl, by omega, by omega, (chok_later (unhide hch) (by omega)), hn2b, by omega, by omega, HM8, HR8, HB8⟩
            case measure => simp [RowKit.intOf]; omega
        · subst hcs
          have hcub : chI ≤ 3000 := by have h := unhide hch; unfold ChOk at h; omega
          have hd0 : decide (chI < 0) = false := by simp; omega
          have hdg : decide ((r : Int) ≤ (now2 : Int) - chI) = false := by simp; omega
          rw [if_neg hgate] at HD
          go_wp2_with fail
          refine (unhide HD).mono ?_
          rintro e w8 ⟨rfl, hM8, hk8⟩
          have HM8 := hide hM8
          have HR8 : Hid (RuleAt w8 rb oneN halfN lo hi r) := (unhide HR6).kept hk8 (Or.inr rfl)
          have HB8 := hide (below_of_KR (unhide HB6) hk8)
          clear hM8 hk8 HM6 HR6 HB6 HD
          have hx1 : ¬ wk < lo := by omega
          have hx2 : ¬ hi < wk := by omega
          have hx3 : decide ((wk : Int) < (lo : Int)) = false := by simp; omega
          have hx4 : decide ((hi : Int) < (wk : Int)) = false := by simp; omega
          go_wp2_with fail
          go_roundw
          case rel => exact ⟨wk, now2, j + 1, _, _, by first | rfl | (congr 1; omega), rfl, rfl, rfl, by omega, by omega, (chok_later (unhide hch) (by omega)), hn2b, by omega, by omega, HM8, HR8, HB8⟩
          case measure => simp [RowKit.intOf]; omega
    · have hdd : (decide ((j : Int) < (L : Int)) && decide ((j : Int) < 60)) = false := by
        simp only [Bool.and_eq_false_iff, decide_eq_false_iff_not]
        omega
      by_cases hjl : j < L
      · have hdj1 : decide ((j : Int) < (L : Int)) = true := by simp; omega
        have hdj2 : decide ((j : Int) < 60) = false := by simp; omega
        go_wp2_with fail
        go_ret
        exact ⟨rfl, unhide hB⟩
      · have hdj1 : decide ((j : Int) < (L : Int)) = false := by simp; omega
        go_wp2_with fail
        go_ret
        exact ⟨rfl, unhide hB⟩
end Go.Proofs.YtgekdmjneogdoabGreatDoor
