import Derived.Test.YtgekdmjneogdoaaGreatDoorHFo1
namespace Go.Proofs.YtgekdmjneogdoaaGreatDoor
open Go.RowKit Go.Shelf Go.Maps

/-! the values in another order -/
def turnAt (n f i : Nat) : Nat := (n - 1 - i + f) % n

theorem turnAt_lt {n f i : Nat} (h : 0 < n) : turnAt n f i < n := Nat.mod_lt _ h

theorem turnAt_inj {n f i j : Nat} (hi : i < n) (hj : j < n) (h : turnAt n f i = turnAt n f j) : i = j := by
  unfold turnAt at h
  have key : ∀ a b : Nat, a < n → b < n → (a + f) % n = (b + f) % n → a = b := by
    intro a b ha hb hab
    rw [Nat.add_mod a f n, Nat.add_mod b f n, Nat.mod_eq_of_lt ha, Nat.mod_eq_of_lt hb] at hab
    have hf : f % n < n := Nat.mod_lt _ (by omega)
    generalize f % n = r at *
    rcases Nat.lt_or_ge (a + r) n with h1 | h1
    · rw [Nat.mod_eq_of_lt h1] at hab
      rcases Nat.lt_or_ge (b + r) n with h2 | h2
      · rw [Nat.mod_eq_of_lt h2] at hab; omega
      · rw [Nat.mod_eq_sub_mod h2, Nat.mod_eq_of_lt (by omega)] at hab; omega
    · rw [Nat.mod_eq_sub_mod h1, Nat.mod_eq_of_lt (by omega)] at hab
      rcases Nat.lt_or_ge (b + r) n with h2 | h2
      · rw [Nat.mod_eq_of_lt h2] at hab; omega
      · rw [Nat.mod_eq_sub_mod h2, Nat.mod_eq_of_lt (by omega)] at hab; omega
  have := key (n - 1 - i) (n - 1 - j) (by omega) (by omega) h
  omega

def turned (D : List Nat) (f k : Nat) : List Nat := (List.range k).map fun i => D.getD (turnAt D.length f i) 0

theorem turned_length (D : List Nat) (f k : Nat) : (turned D f k).length = k := by simp [turned]
theorem turned_snoc (D : List Nat) (f k : Nat) : turned D f (k + 1) = turned D f k ++ [D.getD (turnAt D.length f k) 0] := by
  unfold turned
  rw [List.range_succ, List.map_append]
  rfl

theorem getD_mem (D : List Nat) (i : Nat) (h : i < D.length) : D.getD i 0 ∈ D := by
  rw [List.getD_eq_getElem?_getD, List.getElem?_eq_getElem h]
  exact List.getElem_mem _

theorem turned_mem (D : List Nat) (f k : Nat) (hk : k ≤ D.length) : ∀ x ∈ turned D f k, x ∈ D := by
  intro x hx
  obtain ⟨i, hi, rfl⟩ := List.mem_map.1 hx
  exact getD_mem D _ (turnAt_lt (by have := List.mem_range.1 hi; omega))

theorem map_range_getD (D : List Nat) : (List.range D.length).map (fun i => D.getD i 0) = D := by
  apply List.ext_getElem
  · simp
  · intro i h1 h2
    simp [List.getElem?_eq_getElem h2]

theorem perm_of_sub : ∀ (l m : List Nat), l.Nodup → l ⊆ m → m.length ≤ l.length → l.Perm m
  | [], m, _, _, h => by
    have : m = [] := List.eq_nil_of_length_eq_zero (by rw [List.length_nil] at h; omega)
    subst this
    exact List.Perm.refl _
  | a :: r, m, hn, hs, h => by
    have ham : a ∈ m := hs (by simp)
    have hn' := List.nodup_cons.1 hn
    have hsub : r ⊆ m.erase a := fun x hx => by
      have hne : x ≠ a := fun e => by subst e; exact hn'.1 hx
      exact (List.mem_erase_of_ne hne).2 (hs (by simp [hx]))
    have hlen : (m.erase a).length ≤ r.length := by
      rw [List.length_erase_of_mem ham]
      simp only [List.length_cons] at h
      omega
    exact ((perm_of_sub r (m.erase a) hn'.2 hsub hlen).cons a).trans (List.perm_cons_erase ham).symm

theorem turned_perm (D : List Nat) (f : Nat) : (turned D f D.length).Perm D := by
  have e : turned D f D.length = ((List.range D.length).map (turnAt D.length f)).map fun i => D.getD i 0 := by
    unfold turned
    rw [List.map_map]
    rfl
  rw [e]
  have hp : ((List.range D.length).map (turnAt D.length f)).Perm (List.range D.length) := by
    have hnd : ((List.range D.length).map (turnAt D.length f)).Nodup := by
      rw [List.nodup_iff_pairwise_ne, List.pairwise_map]
      refine List.Pairwise.imp_of_mem ?_ (List.nodup_iff_pairwise_ne.1 List.nodup_range)
      intro a b ha hb hne heq
      exact hne (turnAt_inj (List.mem_range.1 ha) (List.mem_range.1 hb) heq)
    have hsub : ((List.range D.length).map (turnAt D.length f)) ⊆ List.range D.length := by
      intro x hx
      obtain ⟨i, hi, rfl⟩ := List.mem_map.1 hx
      exact List.mem_range.2 (turnAt_lt (by have := List.mem_range.1 hi; omega))
    exact perm_of_sub _ _ hnd hsub (by simp)
  have := hp.map fun i => D.getD i 0
  rw [map_range_getD] at this
  exact this

/-- what the meter answers hangs on the bag alone -/
theorem rank_perm {L M : List Nat} (h : L.Perm M) (hL : ∀ x ∈ L, isB x) (r : Nat) : rankOf (fun x => L.count x) (ksOf L) r = rankOf (fun x => M.count x) (ksOf M) r := by
  have hM : ∀ x ∈ M, isB x := fun x hx => hL x (h.mem_iff.2 hx)
  have e1 : ksOf L = ksOf M := sorted_eq _ _ (ksOf_sorted L hL) (ksOf_sorted M hM) (fun x => by rw [mem_ksOf, mem_ksOf]; exact h.mem_iff)
  have e2 : (fun x => L.count x) = fun x => M.count x := by
    funext x
    exact h.count_eq x
  rw [e1, e2]

theorem rank_bucket (D : List Nat) (hD : ∀ x ∈ D, isNum x) (R : Nat) (h1 : 1 ≤ R) (h2 : R ≤ D.length) : ∃ t, t < D.length ∧ hasRank D R t ∧ rankOf (fun k => (D.map bucketN).count k) (ksOf (D.map bucketN)) R = bucketN (D.getD t 0) := by
  obtain ⟨t, ht, h⟩ := some_rank D R h1 h2
  exact ⟨t, ht, h, rank_at D hD R t ht h⟩

/-- a greater rank has no lesser value -/
theorem rank_rises (D : List Nat) (hD : ∀ x ∈ D, isNum x) (R S : Nat) (h1 : 1 ≤ R) (h2 : R ≤ S) (h3 : S ≤ D.length) :
    ordI (rankOf (fun k => (D.map bucketN).count k) (ksOf (D.map bucketN)) R) ≤ ordI (rankOf (fun k => (D.map bucketN).count k) (ksOf (D.map bucketN)) S) := by
  obtain ⟨t, ht, ⟨ta, tb⟩, et⟩ := rank_bucket D hD R h1 (by omega)
  obtain ⟨s, hs, ⟨sa, sb⟩, es⟩ := rank_bucket D hD S (by omega) h3
  rw [et, es]
  refine bucket_mono (hD _ (getD_mem D t ht)) (hD _ (getD_mem D s hs)) ?_
  rcases Int.lt_or_le (ordI (D.getD s 0)) (ordI (D.getD t 0)) with h | h
  · exfalso
    have : cL D (D.getD s 0) D.length + cE D (D.getD s 0) D.length ≤ cL D (D.getD t 0) D.length := by
      rw [cLE]
      unfold cL
      refine cnt_le (fun x _ hp => ?_)
      simp only [decide_eq_true_eq] at hp ⊢
      omega
    omega
  · exact h

theorem rank_lt (D : List Nat) (hD : ∀ x ∈ D, isNum x) (R : Nat) (h1 : 1 ≤ R) (h2 : R ≤ D.length) : rankOf (fun k => (D.map bucketN).count k) (ksOf (D.map bucketN)) R < 18446744073709551616 := by
  obtain ⟨t, ht, _, et⟩ := rank_bucket D hD R h1 h2
  rw [et]
  exact bucketN_lt _ (hD _ (getD_mem D t ht)).1

theorem rankN_mono {a b c n : Nat} (h : a ≤ c) : rankN a b n ≤ rankN c b n := by
  unfold rankN
  have h1 : a * n ≤ c * n := Nat.mul_le_mul_right n h
  have h2 : (a * n + b - 1) / b ≤ (c * n + b - 1) / b := Nat.div_le_div_right (by omega)
  omega

theorem inOf_all (D : List Nat) (hD : ∀ x ∈ D, isNum x) (hl : D.length ≤ 50) : inOf D 50 = D := by
  unfold inOf
  rw [List.take_of_length_le hl, List.filter_eq_self]
  intro x hx
  unfold numB
  simpa using (hD x hx).2
end Go.Proofs.YtgekdmjneogdoaaGreatDoor

namespace Go.Proofs.YtgekdmjneogdoaaGreatDoor
open Go.RowKit Go.Shelf Go.Maps

set_option maxRecDepth 40000 in
set_option maxHeartbeats 8000000 in
theorem rising_ok (v : Value) (l : List Nat) (a b c : Int) (w : World) (ha1 : -9223372036854775808 ≤ a) (ha2 : a ≤ 9223372036854775807) (hb1 : -9223372036854775808 ≤ b) (hb2 : b ≤ 9223372036854775807) (hc1 : -9223372036854775808 ≤ c) (hc2 : c ≤ 9223372036854775807)
    (hv : RdU (Under w) w v l) (hz : ∀ z ∈ l, z < 18446744073709551616) (hzl : l.length ≤ 9223372036854775807) (hT : Tabs w) (hC : CTabs w) (hG : GK (Under w)) (hS : SortsTo [halfN, halfN] [halfN]) :
    Calls Tryz.prog 11 #[v, .int .i64 a, .int .i64 b, .int .i64 c] w fun e w' => e = .returned (.bool true) ∧ Below w.heap.size w w' := by
  have HAd := hide (added_ok v l w hv hz hzl hT hC hG hS)
  have HTs := hide (And.intro hT (And.intro hC (And.intro hG hS)))
  have HPa := hide (fun w => pick_any a 1001 w ha1 ha2 (by omega) (by omega))
  have HPb := hide (fun w => pick_any b 1001 w hb1 hb2 (by omega) (by omega))
  have HPc := hide (fun w => pick_any c 100 w hc1 hc2 (by omega) (by omega))
  have hpa := pickN_lt a 1001 (by omega)
  have hpb := pickN_lt b 1001 (by omega)
  have hpc := pickN_lt c 100 (by omega)
  have hDl := inOf_length l 50
  have HDn := hide (inOf_num l 50 hz)
  obtain ⟨i0, hi, hz0, hz1, hz2⟩ := info_parts infoU
  clear hT hC hG hS hv hz hzl ha1 ha2 hb1 hb2 hc1 hc2
  generalize inOf l 50 = D at *
  generalize pickN a 1001 = x at *
  generalize pickN b 1001 = y at *
  generalize pickN c 100 = f at *
  go_enter Tryz.func11, Tryz.ntmps11
  go_wp2_with fail
  refine (unhide HAd).mono ?_
  rintro e w1 ⟨mb, u, rfl, hF, hO, hB⟩
  have HF := hide hF
  have HB := hide hB
  have hr := rdu_own hO
  clear hF hO hB HAd
  obtain ⟨ao, cap, rfl, hcap, hcells⟩ := hr
  have HCe := hide hcells
  clear hcells
  have HTu := hide (turned_snoc D f)
  have HTl := hide (turned_length D f)
  obtain ⟨n, hN⟩ : ∃ n, n = D.length := ⟨_, rfl⟩
  rw [← hN] at hcap HCe HTu hDl ⊢
  have HN := hide hN
  clear hN
  go_wp2_with fail
  go_loopw [11, 12] (fun s i wr => ∃ j : Nat, j ≤ n ∧ i = .int .i64 j ∧ Hid (wr.ownsRow w1.heap.size 25 1 s (turned D f j).length ((turned D f j).map encK)) ∧ Hid (Below w1.heap.size w1 wr)) (fun _ i _ => n - (RowKit.intOf i).toNat)
  case atStart => exact ⟨0, by omega, rfl, World.ownsRow_nil _ _ _ _, Below.refl _ _⟩
  case round =>
    obtain ⟨j, hj, rfl, hO, hB2⟩ := hrel
    by_cases hjn : j < n
    · obtain ⟨g, o, hg, rfl, hce⟩ := unhide HCe (by omega)
      have hlt := turnAt_lt (n := n) (f := f) (i := j) (by omega)
      have hc0 := hce (turnAt n f j) hlt
      have hst := unhide HTu j
      have htl := unhide HTl j
      obtain ⟨S, hSd⟩ : ∃ S, S = n - 1 - j + f := ⟨_, rfl⟩
      have htk : turnAt n f j = S % n := by rw [hSd]; rfl
      have hmod : (S : Int) % (n : Int) = ((turnAt n f j : Nat) : Int) := by rw [htk]; exact (Int.natCast_emod S n).symm
      have hSi : (n : Int) - 1 - (j : Int) + (f : Int) = (S : Int) := by omega
      have hSb : S ≤ 150 := by omega
      clear htk hSd hce
      generalize turnAt n f j = t at *
      generalize D.getD t 0 = z at *
      have hcw : wr.cell? ⟨g, o + t, none⟩ = some (.int .u64 z) := ((unhide hB2).cell (p := ⟨g, o + t, none⟩) hg).trans hc0
      have ho := unhide hO
      have hs2 := (unhide hB2).size
      have hdj : decide ((j : Int) < (n : Int)) = true := by simp; omega
      clear hc0
      go_wp2_with fail
      refine (unhide HPc _).mono ?_
      rintro e w6 ⟨rfl, e6⟩
      rw [e6]
      clear e6 w6
      go_wp2_with (first
        | (at_builtin; refine wpList_append_own_at _ rfl _ _ 47 rfl w1.heap.size 25 i0 (.int .u64 0) 1 8 Tryz.underlying47 hi hz0 hz1 hz2 rfl (by decide) _ _ _ rfl (ho.alloc _) ⟨wr.heap.size, 0, none⟩ 1 1 [.int .u64 z] rfl rfl (cell_one_new _ _ _) (by simp [Value.oneCell']) (by unfold maxLen; omega) (by omega) (by simp; omega) ?_; intro v' W8 hown' hgrow _ hat)
        | go_in)
      have hw8 : W8.ownsRow w1.heap.size 25 1 v' (turned D f (j + 1)).length ((turned D f (j + 1)).map encK) := by
        rw [hst, List.length_append, List.map_append]; exact hown'
      have hb8 : Below w1.heap.size w1 W8 := ((unhide hB2).alloc (unhide hB2).size _).grown hgrow (by simp; omega) (fun k e => (ho.lt k e).1)
      go_roundw
      case rel => exact ⟨j + 1, by omega, rfl, hw8, hb8⟩
      case measure => simp [RowKit.intOf]; omega
    · obtain rfl : j = n := by omega
      have hdj : decide ((j : Int) < (j : Int)) = false := by simp
      have hDn := unhide HDn
      have hpm := turned_perm D f
      have htl := unhide HTl j
      rw [← unhide HN] at hpm
      have hTn : ∀ x ∈ turned D f j, isNum x := fun x hx => hDn x (hpm.mem_iff.1 hx)
      have hBr : Below w.heap.size w wr := (unhide HB).trans ((unhide hB2).mono (unhide HB).size)
      have hF3 : Fill (Under w) wr mb D := (unhide HF).below (unhide hB2)
      have HAd2 : Hid (Calls Tryz.prog 27 #[u11] wr fun e w' => ∃ (mb : Nat) (u : Value), e = .returned (.tuple #[.pointer (some ⟨mb, 0, none⟩), u]) ∧ Fill (Under wr) w' mb (turned D f j) ∧ w'.ownsRow wr.heap.size 25 1 u (turned D f j).length ((turned D f j).map encK) ∧ Below wr.heap.size wr w') := by
        obtain ⟨t1, t2, t3, t4⟩ := unhide HTs
        have h := added_ok u11 (turned D f j) wr (rdu_own (unhide hO)) (fun z hz => (hTn z hz).1) (by rw [htl]; omega) (t1.below hBr) (t2.below t3 hBr) (t3.below hBr) t4
        rw [inOf_all (turned D f j) hTn (by rw [htl]; omega)] at h
        exact h
      have HF3 := hide hF3
      have HBr := hide hBr
      have HPm := hide hpm
      have HTn := hide hTn
      have HTl2 := hide htl
      clear hF3 hBr hpm hTn htl hDn hO hB2 HF HB HTs HTu HTl HPc hpc hi hz0 hz1 hz2
      go_wp2_with fail
      refine (unhide HAd2).mono ?_
      rintro e w4 ⟨mb2, u2, rfl, hF4, hO4, hb4⟩
      have HG4 := hide hF4
      have HF4 := hide ((unhide HF3).below hb4)
      have HB4 := hide ((unhide HBr).trans (hb4.mono (unhide HBr).size))
      clear hF4 hO4 hb4 HF3 HBr HAd2
      go_wp2_with fail
      refine (unhide HPa _).mono ?_
      rintro e w5 ⟨rfl, e5⟩
      rw [e5]
      clear e5 w5 HPa
      go_wp2_with fail
      refine (unhide HPb _).mono ?_
      rintro e w5 ⟨rfl, e5⟩
      rw [e5]
      clear e5 w5 HPb
      have HQ : ∀ r, Hid (rankOf (fun k => ((turned D f j).map bucketN).count k) (ksOf ((turned D f j).map bucketN)) r = rankOf (fun k => (D.map bucketN).count k) (ksOf (D.map bucketN)) r) := fun r => rank_perm ((unhide HPm).map bucketN) (fun q hq => by
        obtain ⟨p, hp, rfl⟩ := List.mem_map.1 hq
        exact bucket_isB p (unhide HTn p hp)) r
      by_cases hxy : x ≤ y
      · have hdx : decide ((y : Int) < (x : Int)) = false := by simp; omega
        by_cases hD0 : D = []
        · have hj0 : j = 0 := by rw [unhide HN, hD0]; rfl
          have hT0 : turned D f j = [] := by rw [hj0]; rfl
          rw [hT0] at HG4
          rw [hD0] at HF4
          have HJ := hide hj0
          clear hT0 HQ HTn HPm HTl2 HDn HN hD0 hDl hcap HCe
          subst hj0
          go_wp2_with fail
          refine (fill_quant_nil (unhide HF4) 1 x 1000 (by omega) (by omega) (by omega) (by omega) (by omega)).mono ?_
          rintro e w5 ⟨rfl, hF5, hb5⟩
          have HF5 := hide hF5
          have HG5 := hide ((unhide HG4).below hb5)
          have HB5 := hide ((unhide HB4).trans (hb5.mono (unhide HB4).size))
          clear hF5 hb5 HF4 HG4 HB4
          go_wp2_with fail
          refine (fill_quant_nil (unhide HF5) 1 y 1000 (by omega) (by omega) (by omega) (by omega) (by omega)).mono ?_
          rintro e w6 ⟨rfl, hF6, hb6⟩
          have HG6 := hide ((unhide HG5).below hb6)
          have HB6 := hide ((unhide HB5).trans (hb6.mono (unhide HB5).size))
          clear hF6 hb6 HF5 HG5 HB5
          go_wp2_with fail
          refine (fill_quant_nil (unhide HG6) 1 x 1000 (by omega) (by omega) (by omega) (by omega) (by omega)).mono ?_
          rintro e w7 ⟨rfl, hF7, hb7⟩
          have HB7 := hide ((unhide HB6).trans (hb7.mono (unhide HB6).size))
          clear hF7 hb7 HG6 HB6
          go_wp2_with fail
          go_ret
          exact ⟨rfl, unhide HB7⟩
        · have hn1 : 1 ≤ D.length := by
            cases D with
            | nil => exact absurd rfl hD0
            | cons x r => simp
          have hn2 : D.length ≤ 50 := by rw [← unhide HN]; exact hDl
          have hT0 : turned D f j ≠ [] := fun e => by
            have := congrArg List.length e
            rw [unhide HTl2, unhide HN] at this
            simp at this
            exact hD0 this
          have hjj : (j : Int) = (D.length : Int) := by rw [unhide HN]
          have hQ1 := fill_quant (unhide HF4) 1 x 1000 (by omega) (by omega) (by omega) (by omega) (by omega) hn2 hD0 (unhide HDn)
          have hTl3 : (turned D f j).length = D.length := by rw [unhide HTl2]; exact unhide HN
          have HQz : Hid (∀ (ww : World), Fill (Under wr) ww mb2 (turned D f j) → Calls Tryz.prog 28 #[.pointer (some ⟨mb2, 0, none⟩), .int .i64 (1 : Nat), .int .i64 x, .int .i64 (1000 : Nat)] ww fun e w' => e = .returned (.tuple #[.int .u64 (rankOf (fun x => (D.map bucketN).count x) (ksOf (D.map bucketN)) (rankN x 1000 D.length)), .int .i64 0]) ∧ Below ww.heap.size ww w') := fun ww hw => by
            have h := fill_quant hw 1 x 1000 (by omega) (by omega) (by omega) (by omega) (by omega) (by rw [hTl3]; exact hn2) hT0 (unhide HTn)
            rw [hTl3, unhide (HQ (rankN x 1000 D.length))] at h
            exact h.mono (fun e w' ⟨h1, _, h2⟩ => ⟨h1, h2⟩)
          have HQy : Hid (∀ (ww : World), Fill (Under w) ww mb D → Calls Tryz.prog 28 #[.pointer (some ⟨mb, 0, none⟩), .int .i64 (1 : Nat), .int .i64 y, .int .i64 (1000 : Nat)] ww fun e w' => e = .returned (.tuple #[.int .u64 (rankOf (fun x => (D.map bucketN).count x) (ksOf (D.map bucketN)) (rankN y 1000 D.length)), .int .i64 0]) ∧ Fill (Under w) w' mb D ∧ Below ww.heap.size ww w') := fun ww hw =>
            fill_quant hw 1 y 1000 (by omega) (by omega) (by omega) (by omega) (by omega) hn2 hD0 (unhide HDn)
          have kx1 : 1 ≤ rankN x 1000 D.length := by unfold rankN; exact Nat.le_max_left _ _
          have ky1 : 1 ≤ rankN y 1000 D.length := by unfold rankN; exact Nat.le_max_left _ _
          have kx2 := rankN_le (a := x) (b := 1000) (n := D.length) (by omega) (by omega) hn1
          have ky2 := rankN_le (a := y) (b := 1000) (n := D.length) (by omega) (by omega) hn1
          have kxy := rankN_mono (a := x) (b := 1000) (c := y) (n := D.length) (by omega)
          have hle := rank_rises D (unhide HDn) _ _ kx1 kxy ky2
          have hUl := rank_lt D (unhide HDn) _ kx1 kx2
          have hVl := rank_lt D (unhide HDn) _ ky1 ky2
          clear kx1 ky1 kx2 ky2 kxy hTl3 hT0 HQ HTn HPm HTl2 HDn HN hD0 hcap HCe hn2
          have HQ1 := hide hQ1
          clear hQ1
          generalize rankOf (fun x => (D.map bucketN).count x) (ksOf (D.map bucketN)) (rankN x 1000 D.length) = U at *
          generalize rankOf (fun x => (D.map bucketN).count x) (ksOf (D.map bucketN)) (rankN y 1000 D.length) = V at *
          have HOu := hide (keeporder_any U hUl)
          have HOv := hide (keeporder_any V hVl)
          have hj1 : 1 ≤ j := by omega
          have hdo : decide (ordI U ≤ ordI V) = true := by simpa using hle
          clear hjj hn1 hUl hVl hle
          go_wp2_with fail
          refine (unhide HQ1).mono ?_
          rintro e w5 ⟨rfl, hF5, hb5⟩
          have HF5 := hide hF5
          have HG5 := hide ((unhide HG4).below hb5)
          have HB5 := hide ((unhide HB4).trans (hb5.mono (unhide HB4).size))
          clear hF5 hb5 HF4 HG4 HB4 HQ1
          go_wp2_with fail
          refine (unhide HQy w5 (unhide HF5)).mono ?_
          rintro e w6 ⟨rfl, hF6, hb6⟩
          have HG6 := hide ((unhide HG5).below hb6)
          have HB6 := hide ((unhide HB5).trans (hb6.mono (unhide HB5).size))
          clear hF6 hb6 HF5 HG5 HB5 HQy
          go_wp2_with fail
          refine (unhide HQz w6 (unhide HG6)).mono ?_
          rintro e w7 ⟨rfl, hb7⟩
          have HB7 := hide ((unhide HB6).trans (hb7.mono (unhide HB6).size))
          clear hb7 HG6 HB6 HQz
          go_wp2_with fail
          refine (unhide HOu _).mono ?_
          rintro e w8 ⟨rfl, e8⟩
          rw [e8]
          clear e8 w8 HOu
          go_wp2_with fail
          refine (unhide HOv _).mono ?_
          rintro e w8 ⟨rfl, e8⟩
          rw [e8]
          clear e8 w8 HOv
          go_wp2_with fail
          go_ret
          exact ⟨rfl, unhide HB7⟩
      · have hdx : decide ((y : Int) < (x : Int)) = true := by simp; omega
        by_cases hD0 : D = []
        · have hj0 : j = 0 := by rw [unhide HN, hD0]; rfl
          have hT0 : turned D f j = [] := by rw [hj0]; rfl
          rw [hT0] at HG4
          rw [hD0] at HF4
          have HJ := hide hj0
          clear hT0 HQ HTn HPm HTl2 HDn HN hD0 hDl hcap HCe
          subst hj0
          go_wp2_with fail
          refine (fill_quant_nil (unhide HF4) 1 y 1000 (by omega) (by omega) (by omega) (by omega) (by omega)).mono ?_
          rintro e w5 ⟨rfl, hF5, hb5⟩
          have HF5 := hide hF5
          have HG5 := hide ((unhide HG4).below hb5)
          have HB5 := hide ((unhide HB4).trans (hb5.mono (unhide HB4).size))
          clear hF5 hb5 HF4 HG4 HB4
          go_wp2_with fail
          refine (fill_quant_nil (unhide HF5) 1 x 1000 (by omega) (by omega) (by omega) (by omega) (by omega)).mono ?_
          rintro e w6 ⟨rfl, hF6, hb6⟩
          have HG6 := hide ((unhide HG5).below hb6)
          have HB6 := hide ((unhide HB5).trans (hb6.mono (unhide HB5).size))
          clear hF6 hb6 HF5 HG5 HB5
          go_wp2_with fail
          refine (fill_quant_nil (unhide HG6) 1 y 1000 (by omega) (by omega) (by omega) (by omega) (by omega)).mono ?_
          rintro e w7 ⟨rfl, hF7, hb7⟩
          have HB7 := hide ((unhide HB6).trans (hb7.mono (unhide HB6).size))
          clear hF7 hb7 HG6 HB6
          go_wp2_with fail
          go_ret
          exact ⟨rfl, unhide HB7⟩
        · have hn1 : 1 ≤ D.length := by
            cases D with
            | nil => exact absurd rfl hD0
            | cons x r => simp
          have hn2 : D.length ≤ 50 := by rw [← unhide HN]; exact hDl
          have hT0 : turned D f j ≠ [] := fun e => by
            have := congrArg List.length e
            rw [unhide HTl2, unhide HN] at this
            simp at this
            exact hD0 this
          have hjj : (j : Int) = (D.length : Int) := by rw [unhide HN]
          have hQ1 := fill_quant (unhide HF4) 1 y 1000 (by omega) (by omega) (by omega) (by omega) (by omega) hn2 hD0 (unhide HDn)
          have hTl3 : (turned D f j).length = D.length := by rw [unhide HTl2]; exact unhide HN
          have HQz : Hid (∀ (ww : World), Fill (Under wr) ww mb2 (turned D f j) → Calls Tryz.prog 28 #[.pointer (some ⟨mb2, 0, none⟩), .int .i64 (1 : Nat), .int .i64 y, .int .i64 (1000 : Nat)] ww fun e w' => e = .returned (.tuple #[.int .u64 (rankOf (fun x => (D.map bucketN).count x) (ksOf (D.map bucketN)) (rankN y 1000 D.length)), .int .i64 0]) ∧ Below ww.heap.size ww w') := fun ww hw => by
            have h := fill_quant hw 1 y 1000 (by omega) (by omega) (by omega) (by omega) (by omega) (by rw [hTl3]; exact hn2) hT0 (unhide HTn)
            rw [hTl3, unhide (HQ (rankN y 1000 D.length))] at h
            exact h.mono (fun e w' ⟨h1, _, h2⟩ => ⟨h1, h2⟩)
          have HQy : Hid (∀ (ww : World), Fill (Under w) ww mb D → Calls Tryz.prog 28 #[.pointer (some ⟨mb, 0, none⟩), .int .i64 (1 : Nat), .int .i64 x, .int .i64 (1000 : Nat)] ww fun e w' => e = .returned (.tuple #[.int .u64 (rankOf (fun x => (D.map bucketN).count x) (ksOf (D.map bucketN)) (rankN x 1000 D.length)), .int .i64 0]) ∧ Fill (Under w) w' mb D ∧ Below ww.heap.size ww w') := fun ww hw =>
            fill_quant hw 1 x 1000 (by omega) (by omega) (by omega) (by omega) (by omega) hn2 hD0 (unhide HDn)
          have kx1 : 1 ≤ rankN y 1000 D.length := by unfold rankN; exact Nat.le_max_left _ _
          have ky1 : 1 ≤ rankN x 1000 D.length := by unfold rankN; exact Nat.le_max_left _ _
          have kx2 := rankN_le (a := y) (b := 1000) (n := D.length) (by omega) (by omega) hn1
          have ky2 := rankN_le (a := x) (b := 1000) (n := D.length) (by omega) (by omega) hn1
          have kxy := rankN_mono (a := y) (b := 1000) (c := x) (n := D.length) (by omega)
          have hle := rank_rises D (unhide HDn) _ _ kx1 kxy ky2
          have hUl := rank_lt D (unhide HDn) _ kx1 kx2
          have hVl := rank_lt D (unhide HDn) _ ky1 ky2
          clear kx1 ky1 kx2 ky2 kxy hTl3 hT0 HQ HTn HPm HTl2 HDn HN hD0 hcap HCe hn2
          have HQ1 := hide hQ1
          clear hQ1
          generalize rankOf (fun x => (D.map bucketN).count x) (ksOf (D.map bucketN)) (rankN y 1000 D.length) = U at *
          generalize rankOf (fun x => (D.map bucketN).count x) (ksOf (D.map bucketN)) (rankN x 1000 D.length) = V at *
          have HOu := hide (keeporder_any U hUl)
          have HOv := hide (keeporder_any V hVl)
          have hj1 : 1 ≤ j := by omega
          have hdo : decide (ordI U ≤ ordI V) = true := by simpa using hle
          clear hjj hn1 hUl hVl hle
          go_wp2_with fail
          refine (unhide HQ1).mono ?_
          rintro e w5 ⟨rfl, hF5, hb5⟩
          have HF5 := hide hF5
          have HG5 := hide ((unhide HG4).below hb5)
          have HB5 := hide ((unhide HB4).trans (hb5.mono (unhide HB4).size))
          clear hF5 hb5 HF4 HG4 HB4 HQ1
          go_wp2_with fail
          refine (unhide HQy w5 (unhide HF5)).mono ?_
          rintro e w6 ⟨rfl, hF6, hb6⟩
          have HG6 := hide ((unhide HG5).below hb6)
          have HB6 := hide ((unhide HB5).trans (hb6.mono (unhide HB5).size))
          clear hF6 hb6 HF5 HG5 HB5 HQy
          go_wp2_with fail
          refine (unhide HQz w6 (unhide HG6)).mono ?_
          rintro e w7 ⟨rfl, hb7⟩
          have HB7 := hide ((unhide HB6).trans (hb7.mono (unhide HB6).size))
          clear hb7 HG6 HB6 HQz
          go_wp2_with fail
          refine (unhide HOu _).mono ?_
          rintro e w8 ⟨rfl, e8⟩
          rw [e8]
          clear e8 w8 HOu
          go_wp2_with fail
          refine (unhide HOv _).mono ?_
          rintro e w8 ⟨rfl, e8⟩
          rw [e8]
          clear e8 w8 HOv
          go_wp2_with fail
          go_ret
          exact ⟨rfl, unhide HB7⟩
end Go.Proofs.YtgekdmjneogdoaaGreatDoor
