import Derived.Test.YtgekdmjneogdoaaGreatDoorHAk1
import Derived.Test.YtgekdmjneogdoaaGreatDoorHPk
namespace Go.Proofs.YtgekdmjneogdoaaGreatDoor
open Go.RowKit Go.Shelf Go.Maps

/-! one sample, so many slices ago -/
def oneBag (n old : Nat) (x : Nat) : List (List Nat) := (List.range n).map fun i => if i = old then [x] else []

theorem oneBag_length (n old x : Nat) : (oneBag n old x).length = n := by simp [oneBag]

theorem oneBag_get (n old x i : Nat) (h : i < n) : (oneBag n old x)[i]? = some (if i = old then [x] else []) := by
  simp [oneBag, h]

theorem oneBag_none (n old x : Nat) (h : n ≤ old) : oneBag n old x = List.replicate n [] := by
  apply List.ext_getElem?
  intro i
  rcases Nat.lt_or_ge i n with hi | hi
  · rw [oneBag_get n old x i hi, List.getElem?_replicate, if_pos hi, if_neg (by omega)]
  · rw [List.getElem?_eq_none (by rw [oneBag_length]; exact hi), List.getElem?_eq_none (by simpa using hi)]

theorem oneBag_shift (n old x δ : Nat) : shiftB (min δ n) (oneBag n old x) = oneBag n (old + δ) x := by
  apply List.ext_getElem?
  intro i
  have hl := shiftB_length (min δ n) (oneBag n old x) (by rw [oneBag_length]; omega)
  rw [oneBag_length] at hl
  rcases Nat.lt_or_ge i n with hi | hi
  · rw [oneBag_get n (old + δ) x i hi]
    unfold shiftB
    rw [oneBag_length]
    rcases Nat.lt_or_ge i (min δ n) with h1 | h1
    · rw [List.getElem?_append_left (by simpa using h1), List.getElem?_replicate, if_pos h1, if_neg (by omega)]
    · rw [List.getElem?_append_right (by simpa using h1), List.length_replicate, List.getElem?_take_of_lt (by omega), oneBag_get n old x _ (by omega)]
      congr 1
      have : (i - min δ n = old) ↔ (i = old + δ) := by omega
      simp [this]
  · rw [List.getElem?_eq_none (by rw [hl]; exact hi), List.getElem?_eq_none (by rw [oneBag_length]; exact hi)]

theorem oneBag_take (n old x k : Nat) (hk : k ≤ n) : ((oneBag n old x).take k).flatten.length = if old < k then 1 else 0 := by
  induction k with
  | zero => simp
  | succ k ih =>
    rw [take_flat (oneBag n old x) k _ (oneBag_get n old x k (by omega)), ih (by omega)]
    by_cases h : k = old
    · subst h
      simp
    · rw [if_neg h]
      by_cases h2 : old < k
      · rw [if_pos h2, if_pos (by omega)]; rfl
      · rw [if_neg h2, if_neg (by omega)]; rfl

theorem oneBag_flat (n old x : Nat) : (oneBag n old x).flatten.length ≤ 1 := by
  have h := oneBag_take n old x n (Nat.le_refl _)
  rw [List.take_of_length_le (by rw [oneBag_length]; exact Nat.le_refl _)] at h
  rw [h]
  split <;> omega

theorem oneBag_zero (n x : Nat) (h : 0 < n) : (List.replicate n ([] : List Nat)).set 0 [x] = oneBag n 0 x := by
  apply List.ext_getElem?
  intro i
  rcases Nat.lt_or_ge i n with hi | hi
  · rw [oneBag_get n 0 x i hi]
    by_cases h0 : i = 0
    · subst h0
      rw [List.getElem?_set_self (by simpa using h), if_pos rfl]
    · rw [List.getElem?_set_ne (Ne.symm h0), List.getElem?_replicate, if_pos hi, if_neg h0]
  · rw [List.getElem?_eq_none (by simpa using hi), List.getElem?_eq_none (by rw [oneBag_length]; exact hi)]

theorem shift_empty (n f : Nat) (h : f ≤ n) : shiftB f (List.replicate n ([] : List Nat)) = List.replicate n [] := by
  unfold shiftB
  rw [List.length_replicate, List.take_replicate, List.replicate_append_replicate]
  congr 1
  omega

/-- a meter that has its one sample -/
def Has (K : Nat → Prop) (w : World) (mb W C n old : Nat) : Prop := ∃ (kb : Nat) (ms : List (Option Nat)), ms.length = n ∧ Mtr K w mb kb W C MS.zero ms (oneBag n old 4607182418800017408)

theorem one_num : (FloatKind.f64.format.order 4607182418800017408 4607182418800017408 != some .eq) = false := by kernel_rfl
theorem one_bucket : bucketN 4607182418800017408 = 4607182418800017408 := by kernel_rfl

theorem has_tick {K : Nat → Prop} {w : World} {mb W C n old : Nat} (h : Has K w mb W C n old) (t : Nat) (h1 : C ≤ t) (h2 : t ≤ 1099511627776) :
    Calls Tryz.prog 31 #[.pointer (some ⟨mb, 0, none⟩), .int .i64 t] w fun e w' => e = .returned (.int .i64 0) ∧ Has K w' mb W t n (old + (t / W - C / W)) ∧ Kept K w w' := by
  obtain ⟨kb, ms, hl, hM⟩ := h
  refine (tick_ok hM t h1 h2).mono ?_
  rintro e w' ⟨he, hM', hk⟩
  rw [hl, oneBag_shift] at hM'
  exact ⟨he, ⟨kb, shifted (min (t / W - C / W) n) ms, by rw [shifted_length _ _ (by omega)]; exact hl, hM'⟩, hk⟩

theorem has_count {K : Nat → Prop} {w : World} {mb W C n old : Nat} (h : Has K w mb W C n old) (k : Nat) (h1 : 1 ≤ k) (h2 : k ≤ n) :
    Calls Tryz.prog 33 #[.pointer (some ⟨mb, 0, none⟩), .int .i64 k] w fun e w' => e = .returned (.tuple #[.int .i64 ((if old < k then 1 else 0 : Nat) : Int), .int .i64 0]) ∧ Has K w' mb W C n old ∧ Kept K w w' := by
  obtain ⟨kb, ms, hl, hM⟩ := h
  have hf := oneBag_flat n old 4607182418800017408
  refine (count_ok hM k h1 (by omega) (by omega)).mono ?_
  rintro e w' ⟨he, hb⟩
  rw [oneBag_take n old _ k h2] at he
  exact ⟨he, ⟨kb, ms, hl, hM.below hb⟩, hM.keptBelow hb⟩

theorem Has.drewN {K : Nat → Prop} {w : World} {mb W C n old : Nat} (h : Has K w mb W C n old) (q : Nat) : Has K (w.drewN q) mb W C n old := by
  obtain ⟨kb, ms, hl, hM⟩ := h
  exact ⟨kb, ms, hl, hM.drewN q⟩

theorem has_old {K : Nat → Prop} {w : World} {mb W C n old : Nat} (h : Has K w mb W C n old) (t : Nat) (h2 : t ≤ 1099511627776) (ho : t / W + n ≤ C / W) :
    Calls Tryz.prog 32 #[.pointer (some ⟨mb, 0, none⟩), .int .i64 t, .int .u64 4607182418800017408] w fun e w' => e = .returned (.int .i64 7) ∧ Has K w' mb W C n old ∧ Kept K w w' := by
  have h0 := h
  obtain ⟨kb, ms, hl, hM⟩ := h
  refine (add_old hM.z hM.hW hM.hC hM.hn.2 t 4607182418800017408 h2 one_num (by omega)).mono ?_
  rintro e w' ⟨he, q, hw⟩
  rw [hw]
  exact ⟨he, h0.drewN q, ⟨rfl, rfl, rfl, Nat.le_refl _, fun _ _ => rfl⟩⟩

/-- one sample more in that slice -/
theorem has_add {K : Nat → Prop} {w : World} {mb W C n old : Nat} (h : Has K w mb W C n old) (t : Nat) (h2 : t ≤ 1099511627776) (ho : t / W + old = C / W) (hn : old < n) :
    Calls Tryz.prog 32 #[.pointer (some ⟨mb, 0, none⟩), .int .i64 t, .int .u64 4607182418800017408] w fun e w' => e = .returned (.int .i64 0) ∧ Kept K w w' := by
  obtain ⟨kb, ms, hl, hM⟩ := h
  obtain ⟨m, hm⟩ : ∃ m, ms[old]? = some m := ⟨_, List.getElem?_eq_getElem (by omega)⟩
  have hg := oneBag_get n old 4607182418800017408 old hn
  rw [if_pos rfl] at hg
  rcases hM.sl old m _ hm hg with ⟨_, e⟩ | ⟨b, rfl, _⟩
  · cases e
  · refine (add_some hM t 4607182418800017408 old b _ h2 (by omega) one_num ho hm hg (by simp)).mono ?_
    rintro e w' ⟨he, _, hk⟩
    exact ⟨he, hk⟩

/-- a new meter, without a sample -/
def Bare (K : Nat → Prop) (w : World) (mb W C n : Nat) : Prop := ∃ (kb : Nat), Mtr K w mb kb W C MS.zero (List.replicate n none) (List.replicate n [])

theorem bare_new (K : Nat → Prop) (n wd : Nat) (hn1 : 1 ≤ n) (hn2 : n ≤ 8) (hw1 : 1 ≤ wd) (hw2 : wd ≤ 1000000) (w : World) (hK : ∀ k, K k → k < w.heap.size) :
    Calls Tryz.prog 30 #[.int .i64 n, .int .i64 wd] w fun e w' => ∃ mb, e = .returned (.tuple #[.pointer (some ⟨mb, 0, none⟩), .int .i64 0]) ∧ Bare K w' mb wd 0 n ∧ Kept K w w' := by
  refine (new_ok n wd hn1 hn2 hw1 hw2 w).mono ?_
  rintro e w' ⟨he, hw⟩
  refine ⟨_, he, ⟨w.heap.size, ?_⟩, ?_⟩
  · rw [hw]; exact new_mtr K n wd hn1 hn2 hw1 hw2 w hK
  · rw [hw]
    exact ((Kept.refl K w).alloc hK _).alloc hK _

theorem shifted_none (n f : Nat) (h : f ≤ n) : shifted f (List.replicate n none) = List.replicate n none := by
  unfold shifted
  rw [List.length_replicate, List.take_replicate, List.replicate_append_replicate]
  congr 1
  omega

theorem bare_tick {K : Nat → Prop} {w : World} {mb W C n : Nat} (h : Bare K w mb W C n) (t : Nat) (h1 : C ≤ t) (h2 : t ≤ 1099511627776) :
    Calls Tryz.prog 31 #[.pointer (some ⟨mb, 0, none⟩), .int .i64 t] w fun e w' => e = .returned (.int .i64 0) ∧ Bare K w' mb W t n ∧ Kept K w w' := by
  obtain ⟨kb, hM⟩ := h
  refine (tick_ok hM t h1 h2).mono ?_
  rintro e w' ⟨he, hM', hk⟩
  rw [List.length_replicate, shifted_none n _ (by omega), shift_empty n _ (by omega)] at hM'
  exact ⟨he, ⟨kb, hM'⟩, hk⟩

theorem bare_add {K : Nat → Prop} {w : World} {mb W C n : Nat} (h : Bare K w mb W C n) (hn : 0 < n) :
    Calls Tryz.prog 32 #[.pointer (some ⟨mb, 0, none⟩), .int .i64 C, .int .u64 4607182418800017408] w fun e w' => e = .returned (.int .i64 0) ∧ Has K w' mb W C n 0 ∧ Kept K w w' := by
  obtain ⟨kb, hM⟩ := h
  have hC := hM.hC
  refine (add_none hM C 4607182418800017408 0 hC (by omega) one_num (by omega) (by rw [List.getElem?_replicate, if_pos hn])).mono ?_
  rintro e w' ⟨he, ⟨b, hM'⟩, hk⟩
  rw [one_bucket, oneBag_zero n _ hn] at hM'
  exact ⟨he, ⟨kb, _, by simp, hM'⟩, hk⟩
end Go.Proofs.YtgekdmjneogdoaaGreatDoor

namespace Go.Proofs.YtgekdmjneogdoaaGreatDoor
open Go.RowKit Go.Shelf Go.Maps

/-- a slice that reads as ints, in blocks of K -/
def RdZ (K : Nat → Prop) (w : World) (v : Value) (zs : List Int) : Prop :=
  ∃ ao cap, v = .slice ao zs.length cap ∧ zs.length ≤ cap ∧ (0 < zs.length → ∃ g o, K g ∧ ao = some ⟨g, o, none⟩ ∧ ∀ j, j < zs.length → w.cell? ⟨g, o + j, none⟩ = some (.int .i64 (zs.getD j 0)))

set_option maxRecDepth 40000 in
set_option maxHeartbeats 4000000 in
theorem forgotten_ok (a b c : Int) (v : Value) (zs : List Int) (w : World) (ha1 : -9223372036854775808 ≤ a) (ha2 : a ≤ 9223372036854775807) (hb1 : -9223372036854775808 ≤ b) (hb2 : b ≤ 9223372036854775807) (hc1 : -9223372036854775808 ≤ c) (hc2 : c ≤ 9223372036854775807)
    (hv : RdZ (Under w) w v zs) (hz : ∀ z ∈ zs, -9223372036854775808 ≤ z ∧ z ≤ 9223372036854775807) (hzl : zs.length ≤ 9223372036854775807) (hT : Tabs w) (hC : CTabs w) (hG : GK (Under w)) (hS : SortsTo [halfN, halfN] [halfN]) :
    Calls Tryz.prog 12 #[.int .i64 a, .int .i64 b, .int .i64 c, v] w fun e w' => e = .returned (.bool true) ∧ Below w.heap.size w w' := by
  have HA := hide (awake_ok w hT hC hG hS)
  have HPa := hide (fun w => pick_any a 1000 w ha1 ha2 (by omega) (by omega))
  have HPb := hide (fun w => pick_any b 8 w hb1 hb2 (by omega) (by omega))
  have HPc := hide (fun w => pick_any c 100000 w hc1 hc2 (by omega) (by omega))
  have hpa := pickN_lt a 1000 (by omega)
  have hpb := pickN_lt b 8 (by omega)
  have hpc := pickN_lt c 100000 (by omega)
  clear hT hC hG hS
  generalize pickN a 1000 = pa at *
  generalize pickN b 8 = pb at *
  generalize pickN c 100000 = st at *
  obtain ⟨W, hW⟩ : ∃ W, W = 1 + pa := ⟨_, rfl⟩
  obtain ⟨n, hn⟩ : ∃ n, n = 1 + pb := ⟨_, rfl⟩
  have hWi : (1 : Int) + (pa : Int) = (W : Int) := by omega
  have hni : (1 : Int) + (pb : Int) = (n : Int) := by omega
  have hW1 : 1 ≤ W := by omega
  have hW2 : W ≤ 1000 := by omega
  have hn1 : 1 ≤ n := by omega
  have hn2 : n ≤ 8 := by omega
  clear hW hn
  obtain ⟨ao, cap, rfl, hcap, hcells⟩ := hv
  have HCe := hide hcells
  have HZ := hide hz
  clear hcells hz
  generalize hL : zs.length = L at *
  go_enter Tryz.func12, Tryz.ntmps12
  go_wp2_with fail
  refine (unhide HA).mono ?_
  rintro e w1 ⟨rfl, hb1'⟩
  have HB1 := hide hb1'
  clear hb1' HA
  go_wp2_with fail
  refine (unhide HPa _).mono ?_
  rintro e w2 ⟨rfl, e2⟩
  rw [e2]
  clear e2 w2 HPa
  go_wp2_with fail
  refine (unhide HPb _).mono ?_
  rintro e w2 ⟨rfl, e2⟩
  rw [e2]
  clear e2 w2 HPb
  go_wp2_with fail
  refine (bare_new (Under w) n W hn1 hn2 hW1 (by omega) w1 (fun k hk => Nat.lt_of_lt_of_le hk (unhide HB1).size)).mono ?_
  rintro e w2 ⟨mb0, rfl, hBare, hk2⟩
  have HM2 := hide hBare
  have HB2 := hide (below_of_under (unhide HB1) hk2)
  clear hBare hk2 HB1
  go_wp2_with fail
  refine (unhide HPc _).mono ?_
  rintro e w3 ⟨rfl, e3⟩
  rw [e3]
  clear e3 w3 HPc
  go_wp2_with fail
  refine (bare_tick (unhide HM2) st (by omega) (by omega)).mono ?_
  rintro e w3 ⟨rfl, hM3, hk3⟩
  have HM3 := hide hM3
  have HB3 := hide (below_of_under (unhide HB2) hk3)
  clear hM3 hk3 HM2 HB2
  go_wp2_with fail
  refine (bare_add (unhide HM3) (by omega)).mono ?_
  rintro e w4 ⟨rfl, hM4, hk4⟩
  have HM4 := hide hM4
  have HB4 := hide (below_of_under (unhide HB3) hk4)
  clear hM4 hk4 HM3 HB3
  go_wp2_with fail
  obtain ⟨qs, hqs⟩ : ∃ qs, st / W = qs := ⟨_, rfl⟩
  have HQs := hide hqs
  have hqsI : (st : Int) / (W : Int) = (qs : Int) := by rw [← hqs]; exact (Int.natCast_ediv st W).symm
  have hqsle : qs ≤ st := by rw [← hqs]; exact Nat.div_le_self _ _
  clear hqs
  go_loopw [12, 13, 15, 16, 17, 18, 19, 20, 21, 22, 23, 24] (fun m _ _ _ nw i _ _ _ _ _ _ wr => ∃ (mb now j : Nat), m = .pointer (some ⟨mb, 0, none⟩) ∧ nw = .int .i64 now ∧ i = .int .i64 j ∧ st ≤ now ∧ now ≤ st + j * 2000 ∧ j ≤ 50 ∧ j ≤ L ∧ Hid (Has (Under w) wr mb W now n (now / W - qs)) ∧ Hid (Below w.heap.size w wr)) (fun _ _ _ _ _ i _ _ _ _ _ _ _ => 50 - (RowKit.intOf i).toNat)
  case atStart => exact ⟨mb0, st, 0, rfl, rfl, rfl, Nat.le_refl _, by omega, by omega, by omega, by
    show Has _ _ _ _ _ _ _
    rw [unhide HQs, Nat.sub_self]; exact unhide HM4, HB4⟩
  case round =>
    obtain ⟨mb, now, j, rfl, rfl, rfl, h1, h2, hj50, hjL, hM, hB⟩ := hrel
    by_cases hgo : j < L ∧ j < 50
    · obtain ⟨hjl, hj5⟩ := hgo
      obtain ⟨g, o, hgK, rfl, hce⟩ := unhide HCe (by omega)
      have hcz := hce j hjl
      have hbz := unhide HZ (zs.getD j 0) (by
        rw [List.getD_eq_getElem?_getD, List.getElem?_eq_getElem (by rw [hL]; exact hjl)]
        exact List.getElem_mem _)
      generalize zs.getD j 0 = z at hcz hbz
      have hcw : wr.cell? ⟨g, o + j, none⟩ = some (.int .i64 z) := ((unhide hB).cell (p := ⟨g, o + j, none⟩) hgK).trans hcz
      clear hce hcz
      obtain ⟨D, hD⟩ : ∃ D, D = 2 * W := ⟨_, rfl⟩
      have hDi : (2 : Int) * (W : Int) = (D : Int) := by omega
      have HPz := hide (fun w => pick_any z D w hbz.1 hbz.2 (by omega) (by omega))
      have hpz := pickN_lt z D (by omega)
      generalize pickN z D = x at *
      obtain ⟨now2, hnow2⟩ : ∃ m, m = now + x := ⟨_, rfl⟩
      have hnowi : (now : Int) + (x : Int) = (now2 : Int) := by omega
      have hn2b : now2 ≤ st + (j + 1) * 2000 := by omega
      have hdj1 : decide ((j : Int) < (L : Int)) = true := by simp; omega
      have hdj2 : decide ((j : Int) < 50) = true := by simp; omega
      have hle1 : now ≤ now2 := by omega
      have hle2 : st ≤ now2 := by omega
      clear hD hnow2
      go_wp2_with fail
      refine (unhide HPz _).mono ?_
      rintro e w5 ⟨rfl, e5⟩
      rw [e5]
      clear e5 w5 HPz
      go_wp2_with fail
      refine (has_tick (unhide hM) now2 hle1 (by omega)).mono ?_
      rintro e w5 ⟨rfl, hM5, hk5⟩
      obtain ⟨qn, hqn⟩ : ∃ q, now2 / W = q := ⟨_, rfl⟩
      have HQn := hide hqn
      have hqnI : (now2 : Int) / (W : Int) = (qn : Int) := by rw [← hqn]; exact (Int.natCast_ediv now2 W).symm
      have hqnle : qn ≤ now2 := by rw [← hqn]; exact Nat.div_le_self _ _
      have hqq : qs ≤ qn := by rw [← hqn, ← unhide HQs]; exact Nat.div_le_div_right hle2
      have hold : now / W - qs + (now2 / W - now / W) = qn - qs := by
        have k1 : qs ≤ now / W := by rw [← unhide HQs]; exact Nat.div_le_div_right h1
        have k2 : now / W ≤ now2 / W := Nat.div_le_div_right hle1
        rw [hqn] at k2 ⊢
        generalize now / W = y at *
        omega
      rw [hold] at hM5
      obtain ⟨old, ho⟩ : ∃ x, x = qn - qs := ⟨_, rfl⟩
      rw [← ho] at hM5
      have hoI : (qn : Int) - (qs : Int) = (old : Int) := by omega
      have hob : old ≤ 1099511627776 := by omega
      have hos : Hid (qs + old = qn) := by show qs + old = qn; omega
      have HM5 := hide hM5
      have HB5 := hide (below_of_under (unhide hB) hk5)
      clear hM5 hk5 hqn hold ho hM hB hqq
      go_wp2_with fail
      go_quiet (fail)
      have HM6 : Hid (Has (Under w) (w5.drewN nq) mb W now2 n old) := (unhide HM5).drewN nq
      have HB6 : Hid (Below w.heap.size w (w5.drewN nq)) := below_drewN (unhide HB5) nq
      generalize w5.drewN nq = w6 at *
      go_wp2_with fail
      go_loopw [20, 21, 22, 23] (fun k _ _ _ wx => ∃ i : Nat, 1 ≤ i ∧ i ≤ n + 1 ∧ k = .int .i64 i ∧ Hid (Has (Under w) wx mb W now2 n old) ∧ Hid (Below w.heap.size w wx)) (fun k _ _ _ _ => n + 1 - (RowKit.intOf k).toNat)
      case atStart => exact ⟨1, by omega, by omega, rfl, HM6, HB6⟩
      case round =>
        obtain ⟨i, hi1, hi2, rfl, hMx, hBx⟩ := hrel
        by_cases hin : i ≤ n
        · have hdi : decide ((i : Int) ≤ (n : Int)) = true := by simp; omega
          by_cases hoi : old < i
          · have hdo : decide ((old : Int) < (i : Int)) = true := by simp; omega
            have hct := has_count (unhide hMx) i hi1 hin
            rw [if_pos hoi] at hct
            have HCt := hide hct
            clear hct
            go_wp2_with fail
            refine (unhide HCt).mono ?_
            rintro e w7 ⟨rfl, hM7, hk7⟩
            have HM7 := hide hM7
            have HB7 := hide (below_of_under (unhide hBx) hk7)
            clear hM7 hk7 HCt
            go_wp2_with fail
            go_roundw
            case rel => exact ⟨i + 1, by omega, by omega, rfl, HM7, HB7⟩
            case measure => simp [RowKit.intOf]; omega
          · have hdo : decide ((old : Int) < (i : Int)) = false := by simp; omega
            have hct := has_count (unhide hMx) i hi1 hin
            rw [if_neg hoi] at hct
            have HCt := hide hct
            clear hct
            go_wp2_with fail
            refine (unhide HCt).mono ?_
            rintro e w7 ⟨rfl, hM7, hk7⟩
            have HM7 := hide hM7
            have HB7 := hide (below_of_under (unhide hBx) hk7)
            clear hM7 hk7 HCt
            go_wp2_with fail
            go_roundw
            case rel => exact ⟨i + 1, by omega, by omega, rfl, HM7, HB7⟩
            case measure => simp [RowKit.intOf]; omega
        · have hdi : decide ((i : Int) ≤ (n : Int)) = false := by simp; omega
          by_cases hon : n ≤ old
          · have hdn : decide ((n : Int) ≤ (old : Int)) = true := by simp; omega
            have HAd := hide (has_old (unhide hMx) st (by omega) (by rw [unhide HQs, unhide HQn]; have := unhide hos; omega))
            go_wp2_with fail
            refine (unhide HAd).mono ?_
            rintro e w8 ⟨rfl, hM8, hk8⟩
            have HM8 := hide hM8
            have HB8 := hide (below_of_under (unhide hBx) hk8)
            clear hM8 hk8 HAd
            go_wp2_with fail
            go_roundw
            case rel => exact ⟨mb, now2, j + 1, rfl, rfl, rfl, hle2, by omega, by omega, by omega, by
              show Has _ _ _ _ _ _ _
              rw [unhide HQn]
              have e1 : qn - qs = old := by have := unhide hos; omega
              rw [e1]; exact unhide HM8, HB8⟩
            case measure => simp [RowKit.intOf]; omega
          · have hdn : decide ((n : Int) ≤ (old : Int)) = false := by simp; omega
            have HAd := hide (has_add (unhide hMx) st (by omega) (by rw [unhide HQs, unhide HQn]; exact unhide hos) (by omega))
            go_wp2_with fail
            refine (unhide HAd).mono ?_
            rintro e w8 ⟨rfl, hk8⟩
            have HB8 := hide (below_of_under (unhide hBx) hk8)
            clear hk8 HAd
            go_wp2_with fail
            refine (bare_new (Under w) n W hn1 hn2 hW1 (by omega) w8 (fun k hk => Nat.lt_of_lt_of_le hk (unhide HB8).size)).mono ?_
            rintro e w9 ⟨mb9, rfl, hM9, hk9⟩
            have HM9 := hide hM9
            have HB9 := hide (below_of_under (unhide HB8) hk9)
            clear hM9 hk9
            go_wp2_with fail
            refine (bare_tick (unhide HM9) st (by omega) (by omega)).mono ?_
            rintro e w10 ⟨rfl, hM10, hk10⟩
            have HM10 := hide hM10
            have HB10 := hide (below_of_under (unhide HB9) hk10)
            clear hM10 hk10 HM9
            go_wp2_with fail
            refine (bare_add (unhide HM10) (by omega)).mono ?_
            rintro e w11 ⟨rfl, hM11, hk11⟩
            have HM11 := hide hM11
            have HB11 := hide (below_of_under (unhide HB10) hk11)
            clear hM11 hk11 HM10
            go_wp2_with fail
            refine (has_tick (unhide HM11) now2 hle2 (by omega)).mono ?_
            rintro e w12 ⟨rfl, hM12, hk12⟩
            have hM12' : Has (Under w) w12 mb9 W now2 n (now2 / W - qs) := by
              rw [Nat.zero_add, unhide HQs] at hM12; exact hM12
            have HM12 := hide hM12'
            have HB12 := hide (below_of_under (unhide HB11) hk12)
            clear hM12 hM12' hk12 HM11
            go_wp2_with fail
            go_roundw
            case rel => exact ⟨mb9, now2, j + 1, rfl, rfl, rfl, hle2, by omega, by omega, by omega, HM12, HB12⟩
            case measure => simp [RowKit.intOf]; omega
    · have hdd : (decide ((j : Int) < (L : Int)) && decide ((j : Int) < 50)) = false := by
        simp only [Bool.and_eq_false_iff, decide_eq_false_iff_not]
        omega
      by_cases hjl : j < L
      · have hdj1 : decide ((j : Int) < (L : Int)) = true := by simp; omega
        have hdj2 : decide ((j : Int) < 50) = false := by simp; omega
        go_wp2_with fail
        go_ret
        exact ⟨rfl, unhide hB⟩
      · have hdj1 : decide ((j : Int) < (L : Int)) = false := by simp; omega
        go_wp2_with fail
        go_ret
        exact ⟨rfl, unhide hB⟩
end Go.Proofs.YtgekdmjneogdoaaGreatDoor
