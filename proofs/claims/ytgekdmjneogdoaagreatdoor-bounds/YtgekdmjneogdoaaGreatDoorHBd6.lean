import Derived.Test.YtgekdmjneogdoaaGreatDoorHFo1
namespace Go.Proofs.YtgekdmjneogdoaaGreatDoor
open Go.RowKit Go.Shelf Go.Maps

set_option maxRecDepth 40000 in
set_option maxHeartbeats 8000000 in
theorem bounds_ok (v : Value) (l : List Nat) (a b : Int) (w : World) (ha1 : -9223372036854775808 ≤ a) (ha2 : a ≤ 9223372036854775807) (hb1 : -9223372036854775808 ≤ b) (hb2 : b ≤ 9223372036854775807)
    (hv : RdU (Under w) w v l) (hz : ∀ z ∈ l, z < 18446744073709551616) (hzl : l.length ≤ 9223372036854775807) (hT : Tabs w) (hC : CTabs w) (hG : GK (Under w)) (hS : SortsTo [halfN, halfN] [halfN]) :
    Calls Tryz.prog 10 #[v, .int .i64 a, .int .i64 b] w fun e w' => e = .returned (.bool true) ∧ Below w.heap.size w w' := by
  have HAd := hide (added_ok v l w hv hz hzl hT hC hG hS)
  have HPb := hide (fun w => pick_any b 1000 w hb1 hb2 (by omega) (by omega))
  have hpb := pickN_lt b 1000 (by omega)
  have hDl := inOf_length l 50
  have HDn := hide (inOf_num l 50 hz)
  clear hT hC hG hS hv hz hzl
  generalize inOf l 50 = D at *
  generalize pickN b 1000 = pb at *
  obtain ⟨y, hy⟩ : ∃ y, y = 1 + pb := ⟨_, rfl⟩
  have hyi : (1 : Int) + (pb : Int) = (y : Int) := by omega
  have hy1 : 1 ≤ y := by omega
  have hy2 : y ≤ 1000 := by omega
  clear hy
  obtain ⟨Y, hY⟩ : ∃ Y, Y = y + 1 := ⟨_, rfl⟩
  have hYi : (y : Int) + 1 = (Y : Int) := by omega
  have HPa := hide (fun w => pick_any a Y w ha1 ha2 (by omega) (by omega))
  have hpa := pickN_lt a Y (by omega)
  have HP4 := hide (fun w => pick_any a 4 w ha1 ha2 (by omega) (by omega))
  have hp4 := pickN_lt a 4 (by omega)
  generalize pickN a Y = x at *
  generalize pickN a 4 = p4 at *
  obtain ⟨k, hk⟩ : ∃ k, k = 1 + p4 := ⟨_, rfl⟩
  have hki : (1 : Int) + (p4 : Int) = (k : Int) := by omega
  have hk1 : 1 ≤ k := by omega
  have hk2 : k ≤ 4 := by omega
  have hxy : x ≤ y := by omega
  have hY2 : Y ≤ 1001 := by omega
  clear hk hY hpb
  go_enter Tryz.func10, Tryz.ntmps10
  go_wp2_with fail
  refine (unhide HAd).mono ?_
  rintro e w1 ⟨mb, u, rfl, hF, hO, hB⟩
  have HF := hide hF
  have HO := hide hO
  have HB := hide hB
  clear hF hO hB HAd
  go_wp2_with fail
  refine (unhide HPb _).mono ?_
  rintro e w2 ⟨rfl, e2⟩
  rw [e2]
  clear e2 w2 HPb
  go_wp2_with fail
  refine (unhide HPa _).mono ?_
  rintro e w2 ⟨rfl, e2⟩
  rw [e2]
  clear e2 w2 HPa
  go_wp2_with fail
  refine (unhide HP4 _).mono ?_
  rintro e w2 ⟨rfl, e2⟩
  rw [e2]
  clear e2 w2 HP4
  go_wp2_with fail
  by_cases hD0 : D = []
  · subst hD0
    refine (fill_quant_nil (unhide HF) k x y hk1 hk2 hy1 hy2 hxy).mono ?_
    rintro e w2 ⟨rfl, hF2, hb2⟩
    have HB2 := hide ((unhide HB).trans (hb2.mono (unhide HB).size))
    have HO2 := hide (row_kept (K := fun _ => False) (unhide HO) (Kept.ofBelow hb2 (fun k hk => by
      rcases hk with h | h
      · exact h.elim
      · exact ((unhide HO).lt k h).2)))
    clear hF2 hb2 HF HB HO
    obtain ⟨ao, cap, rfl, hcap, hcells⟩ := rdu_own (l := []) (unhide HO2)
    clear hcells
    go_wp2_with fail
    go_ret
    exact ⟨rfl, unhide HB2⟩
  · have hn1 : 1 ≤ D.length := by
      cases D with
      | nil => exact absurd rfl hD0
      | cons x r => simp
    refine (fill_quant (unhide HF) k x y hk1 hk2 hy1 hy2 hxy hDl hD0 (unhide HDn)).mono ?_
    rintro e w2 ⟨rfl, hF2, hb2⟩
    have HB2 := hide ((unhide HB).trans (hb2.mono (unhide HB).size))
    have HO2 := hide (row_kept (K := fun _ => False) (unhide HO) (Kept.ofBelow hb2 (fun k hk => by
      rcases hk with h | h
      · exact h.elim
      · exact ((unhide HO).lt k h).2)))
    clear hF2 hb2 HF HB HO
    obtain ⟨ao, cap, rfl, hcap, hcells⟩ := rdu_own (unhide HO2)
    obtain ⟨g, o, _, rfl, hce⟩ := hcells (by omega)
    have HCe := hide hce
    clear hce hcells HO2
    have HRk := hide (rank_at D (unhide HDn))
    have HSo := hide (some_rank D)
    have HRl := hide (rankN_le (a := x) (b := y) (n := D.length) hxy hy1 hn1)
    have HR1 : Hid (1 ≤ rankN x y D.length) := by unfold rankN; exact Nat.le_max_left _ _
    have hrN : rankN x y D.length = max 1 ((x * D.length + y - 1) / y) := rfl
    have HZ : Hid (∀ t, t < D.length → isNum (D.getD t 0)) := fun t ht => by
      refine unhide HDn (D.getD t 0) ?_
      rw [List.getD_eq_getElem?_getD, List.getElem?_eq_getElem ht]
      exact List.getElem_mem _
    have HsL := hide (cL_step D)
    have HsE := hide (cE_step D)
    have HlL := hide (cL_le D)
    have HlE := hide (cE_le D)
    have HhR : Hid (∀ R t, hasRank D R t ↔ (cL D (D.getD t 0) D.length < R ∧ R ≤ cL D (D.getD t 0) D.length + cE D (D.getD t 0) D.length)) := fun _ _ => Iff.rfl
    clear HDn hD0
    generalize hN : D.length = n at *
    obtain ⟨P, hP⟩ : ∃ P, P = x * n := ⟨_, rfl⟩
    have hPi : (x : Int) * (n : Int) = (P : Int) := by rw [hP]; push_cast; rfl
    have hPle : P ≤ 50000 := by
      have h1 : x * n ≤ 1000 * 50 := Nat.mul_le_mul (by omega) hDl
      omega
    rw [← hP] at hrN
    obtain ⟨T, hT⟩ : ∃ T, T = P + y - 1 := ⟨_, rfl⟩
    have hTi : (P : Int) + (y : Int) - 1 = (T : Int) := by omega
    rw [← hT] at hrN
    obtain ⟨q, hq⟩ : ∃ q, T / y = q := ⟨_, rfl⟩
    have hqi : (T : Int) / (y : Int) = (q : Int) := by rw [← hq]; exact (Int.natCast_ediv T y).symm
    have hqle : q ≤ T := by rw [← hq]; exact Nat.div_le_self _ _
    have hTle : T ≤ 60000 := by omega
    rw [hq] at hrN
    clear hP hT hq
    generalize hV : rankOf (fun x => (D.map bucketN).count x) (ksOf (D.map bucketN)) (rankN x y n) = V at *
    have HVx : Hid (∀ t, t < n → hasRank D (rankN x y n) t → V = bucketN (D.getD t 0)) := fun t ht h => by
      rw [← hV]; exact unhide HRk (rankN x y n) t ht h
    have HSo2 := hide (unhide HSo (rankN x y n) (unhide HR1) (unhide HRl))
    clear hV HRk HSo hyi hYi hki hpa hp4 hY2 hk1 hk2 ha1 ha2 hb1 hb2
    generalize rankN x y n = R at *
    by_cases hq0 : q < 1
    · obtain rfl : R = 1 := by omega
      clear hrN
      have hR1 := unhide HR1
      have hRl := unhide HRl
      go_wp2_with fail
      clear hPi hTi hqi hqle hTle hPle hq0 hxy hy1 hy2
      go_loopw [15, 16, 17, 18, 19, 20] (fun i _ _ _ _ _ wr => ∃ (j r : Nat), j ≤ n ∧ i = .int .i64 j ∧ wr = w2.drewN r ∧ Hid (∀ t, t < j → ¬ hasRank D 1 t)) (fun i _ _ _ _ _ _ => n - (RowKit.intOf i).toNat)
      case atStart => exact ⟨0, 0, by omega, rfl, rfl, fun t ht => by omega⟩
      case round =>
        obtain ⟨j, r, hj, rfl, rfl, hno⟩ := hrel
        by_cases hjn : j < n
        · have hcz0 := unhide HCe j hjn
          have HNz := hide (unhide HZ j hjn)
          have hz64 := (unhide HZ j hjn).1
          have HhRj := hide (unhide HhR 1 j)
          have HVj := hide (unhide HVx j hjn)
          have HsLz := hide (unhide HsL (D.getD j 0))
          have HsEz := hide (unhide HsE (D.getD j 0))
          have HlLz := hide (unhide HlL (D.getD j 0))
          have HlEz := hide (unhide HlE (D.getD j 0))
          have hL0 : cL D (D.getD j 0) 0 = 0 := by simp [cL, cntP]
          have hE0 : cE D (D.getD j 0) 0 = 0 := by simp [cE, cntP]
          generalize D.getD j 0 = z at *
          have HOr := hide keeporder_any
          go_wp2_with fail
          go_loopw [16, 17, 18] (fun un sa kk wx => ∃ (t s : Nat), t ≤ n ∧ kk = .int .i64 t ∧ un = .int .i64 (cL D z t : Nat) ∧ sa = .int .i64 (cE D z t : Nat) ∧ wx = w2.drewN s) (fun _ _ kk _ => n - (RowKit.intOf kk).toNat)
          case atStart => exact ⟨0, r, by omega, rfl, by rw [hL0]; rfl, by rw [hE0]; rfl, rfl⟩
          case round =>
            obtain ⟨t, s, ht, rfl, rfl, rfl, rfl⟩ := hrel
            by_cases htn : t < n
            · have hcy0 := unhide HCe t htn
              have hy64 := (unhide HZ t htn).1
              have hsl := unhide HsLz t htn
              have hse := unhide HsEz t htn
              have hll := unhide HlLz t
              have hle := unhide HlEz t
              generalize D.getD t 0 = yv at *
              have hcy : (w2.drewN s).cell? ⟨g, o + t, none⟩ = some (.int .u64 yv) := hcy0
              have hcz : (w2.drewN s).cell? ⟨g, o + j, none⟩ = some (.int .u64 z) := hcz0
              have HC0 := hide hcz0
              clear hcy0 hcz0
              generalize hwq : w2.drewN s = wq at *
              have HWq := hide hwq
              clear hwq
              have HSl := hide hsl
              have HSe := hide hse
              clear hsl hse
              generalize hcl : cL D z t = c1 at *
              generalize hcE : cE D z t = c2 at *
              rcases Int.lt_trichotomy (ordI yv) (ordI z) with h | h | h
              · have hd1 : decide (ordI yv < ordI z) = true := by simp; omega
                have hd2 : (ordI yv == ordI z) = false := by simp; omega
                have HH := hide h
                clear h
                go_wp2_with fail
                go_quiet ((go_at_call 29; exact Calls.quiet_of_same (unhide HOr _ (by assumption) _)))
                have hcy2 : (wq.drewN nq).cell? ⟨g, o + t, none⟩ = some (.int .u64 yv) := hcy
                have hcz2 : (wq.drewN nq).cell? ⟨g, o + j, none⟩ = some (.int .u64 z) := hcz
                have HW2 : Hid (∃ s', wq.drewN nq = w2.drewN s') := ⟨s + nq, by rw [← unhide HWq]; unfold World.drewN; rw [Nat.add_assoc]⟩
                clear hcy hcz HWq
                generalize wq.drewN nq = wq2 at *
                clear wq
                go_wp2_with fail
                go_quiet ((go_at_call 29; exact Calls.quiet_of_same (unhide HOr _ (by assumption) _)))
                go_wp2_with fail
                obtain ⟨s', hs'⟩ := unhide HW2
                go_roundw
                case rel => exact ⟨t + 1, s' + nq, by omega, rfl, by rw [unhide HSl, if_pos (unhide HH)]; rfl, by rw [unhide HSe, if_neg (by have := unhide HH; omega)]; rfl, by rw [hs']; unfold World.drewN; rw [Nat.add_assoc]⟩
                case measure => simp [RowKit.intOf]; omega
              · have hd1 : decide (ordI yv < ordI z) = false := by simp; omega
                have hd2 : (ordI yv == ordI z) = true := by simp; omega
                have HH := hide h
                clear h
                go_wp2_with fail
                go_quiet ((go_at_call 29; exact Calls.quiet_of_same (unhide HOr _ (by assumption) _)))
                have hcy2 : (wq.drewN nq).cell? ⟨g, o + t, none⟩ = some (.int .u64 yv) := hcy
                have hcz2 : (wq.drewN nq).cell? ⟨g, o + j, none⟩ = some (.int .u64 z) := hcz
                have HW2 : Hid (∃ s', wq.drewN nq = w2.drewN s') := ⟨s + nq, by rw [← unhide HWq]; unfold World.drewN; rw [Nat.add_assoc]⟩
                clear hcy hcz HWq
                generalize wq.drewN nq = wq2 at *
                clear wq
                go_wp2_with fail
                go_quiet ((go_at_call 29; exact Calls.quiet_of_same (unhide HOr _ (by assumption) _)))
                go_wp2_with fail
                obtain ⟨s', hs'⟩ := unhide HW2
                go_roundw
                case rel => exact ⟨t + 1, s' + nq, by omega, rfl, by rw [unhide HSl, if_neg (by have := unhide HH; omega)]; rfl, by rw [unhide HSe, if_pos (unhide HH)]; rfl, by rw [hs']; unfold World.drewN; rw [Nat.add_assoc]⟩
                case measure => simp [RowKit.intOf]; omega
              · have hd1 : decide (ordI yv < ordI z) = false := by simp; omega
                have hd2 : (ordI yv == ordI z) = false := by simp; omega
                have HH := hide h
                clear h
                go_wp2_with fail
                go_quiet ((go_at_call 29; exact Calls.quiet_of_same (unhide HOr _ (by assumption) _)))
                have hcy2 : (wq.drewN nq).cell? ⟨g, o + t, none⟩ = some (.int .u64 yv) := hcy
                have hcz2 : (wq.drewN nq).cell? ⟨g, o + j, none⟩ = some (.int .u64 z) := hcz
                have HW2 : Hid (∃ s', wq.drewN nq = w2.drewN s') := ⟨s + nq, by rw [← unhide HWq]; unfold World.drewN; rw [Nat.add_assoc]⟩
                clear hcy hcz HWq
                generalize wq.drewN nq = wq2 at *
                clear wq
                go_wp2_with fail
                go_quiet ((go_at_call 29; exact Calls.quiet_of_same (unhide HOr _ (by assumption) _)))
                go_wp2_with fail
                obtain ⟨s', hs'⟩ := unhide HW2
                go_roundw
                case rel => exact ⟨t + 1, s' + nq, by omega, rfl, by rw [unhide HSl, if_neg (by have := unhide HH; omega)]; rfl, by rw [unhide HSe, if_neg (by have := unhide HH; omega)]; rfl, by rw [hs']; unfold World.drewN; rw [Nat.add_assoc]⟩
                case measure => simp [RowKit.intOf]; omega
            · obtain rfl : t = n := by omega
              have hll := unhide HlLz t
              have hle := unhide HlEz t
              generalize cL D z t = c1 at *
              generalize cE D z t = c2 at *
              by_cases h1 : c1 < 1
              · by_cases h2 : 1 ≤ c1 + c2
                · have hVz := unhide HVj ((unhide HhRj).2 ⟨h1, h2⟩)
                  rw [bucket_val z (unhide HNz)] at hVz
                  have hcz : (w2.drewN s).cell? ⟨g, o + j, none⟩ = some (.int .u64 z) := hcz0
                  have HBs : Hid (Below w.heap.size w (w2.drewN s)) := below_drewN (unhide HB2) s
                  clear hcz0
                  generalize w2.drewN s = wq at *
                  obtain rfl : c1 = 0 := by omega
                  by_cases hsm : z % 9223372036854775808 < 4503599627370496
                  · rw [if_pos hsm] at hVz
                    subst hVz
                    obtain ⟨zI, hzI⟩ : ∃ zI : Int, (z : Int) = zI := ⟨_, rfl⟩
                    rw [hzI] at hcz
                    have hsi : zI % 9223372036854775808 < 4503599627370496 := by omega
                    have hz1 : 0 ≤ zI := by omega
                    have hz2 : zI ≤ 18446744073709551615 := by omega
                    have hdi : decide (zI % 9223372036854775808 < 4503599627370496) = true := by simp; exact hsi
                    clear hsm hzI hz64 hsi
                    go_wp2_with fail
                    go_ret
                    exact ⟨rfl, unhide HBs⟩
                  · rw [if_neg hsm] at hVz
                    obtain ⟨zI, hzI⟩ : ∃ zI : Int, (z : Int) = zI := ⟨_, rfl⟩
                    rw [hzI] at hcz
                    generalize hVI : (V : Int) = VI at *
                    have hsi : 4503599627370496 ≤ zI % 9223372036854775808 := by omega
                    have hV1 : VI / 35184372088832 = zI / 35184372088832 := by omega
                    have hV2 : VI % 35184372088832 = 0 := by omega
                    have hz1 : 0 ≤ zI := by omega
                    have hz2 : zI ≤ 18446744073709551615 := by omega
                    have hv1 : 0 ≤ VI := by omega
                    have hv2 : VI ≤ 18446744073709551615 := by omega
                    have hdi : decide (zI % 9223372036854775808 < 4503599627370496) = false := by simp; exact hsi
                    clear hsm hVz hzI hVI hz64 hsi
                    go_wp2_with fail
                    go_ret
                    exact ⟨rfl, unhide HBs⟩
                · have HNo : Hid (∀ q, q < j + 1 → ¬ hasRank D 1 q) := fun q hq hr => by
                    rcases Nat.lt_or_ge q j with k | k
                    · exact unhide hno q k hr
                    · obtain rfl : q = j := by omega
                      have := (unhide HhRj).1 hr
                      omega
                  obtain rfl : c1 = 0 := by omega
                  obtain rfl : c2 = 0 := by omega
                  go_wp2_with fail
                  go_roundw
                  case rel => exact ⟨j + 1, s, by omega, rfl, rfl, HNo⟩
                  case measure => simp [RowKit.intOf]; omega
              · have hd1 : decide ((c1 : Int) < ((1 : Nat) : Int)) = false := by simp; omega
                have HNo : Hid (∀ q, q < j + 1 → ¬ hasRank D 1 q) := fun q hq hr => by
                  rcases Nat.lt_or_ge q j with k | k
                  · exact unhide hno q k hr
                  · obtain rfl : q = j := by omega
                    have := (unhide HhRj).1 hr
                    omega
                go_wp2_with fail
                go_roundw
                case rel => exact ⟨j + 1, s, by omega, rfl, rfl, HNo⟩
                case measure => simp [RowKit.intOf]; omega
        · obtain ⟨t, ht, h⟩ := unhide HSo2
          exact absurd h (unhide hno t (by omega))
    · obtain rfl : R = q := by omega
      clear hrN
      have hR1 := unhide HR1
      have hRl := unhide HRl
      go_wp2_with fail
      clear hPi hTi hqi hqle hTle hPle hq0 hxy hy1 hy2
      go_loopw [15, 16, 17, 18, 19, 20] (fun i _ _ _ _ _ wr => ∃ (j r : Nat), j ≤ n ∧ i = .int .i64 j ∧ wr = w2.drewN r ∧ Hid (∀ t, t < j → ¬ hasRank D R t)) (fun i _ _ _ _ _ _ => n - (RowKit.intOf i).toNat)
      case atStart => exact ⟨0, 0, by omega, rfl, rfl, fun t ht => by omega⟩
      case round =>
        obtain ⟨j, r, hj, rfl, rfl, hno⟩ := hrel
        by_cases hjn : j < n
        · have hcz0 := unhide HCe j hjn
          have HNz := hide (unhide HZ j hjn)
          have hz64 := (unhide HZ j hjn).1
          have HhRj := hide (unhide HhR R j)
          have HVj := hide (unhide HVx j hjn)
          have HsLz := hide (unhide HsL (D.getD j 0))
          have HsEz := hide (unhide HsE (D.getD j 0))
          have HlLz := hide (unhide HlL (D.getD j 0))
          have HlEz := hide (unhide HlE (D.getD j 0))
          have hL0 : cL D (D.getD j 0) 0 = 0 := by simp [cL, cntP]
          have hE0 : cE D (D.getD j 0) 0 = 0 := by simp [cE, cntP]
          generalize D.getD j 0 = z at *
          have HOr := hide keeporder_any
          go_wp2_with fail
          go_loopw [16, 17, 18] (fun un sa kk wx => ∃ (t s : Nat), t ≤ n ∧ kk = .int .i64 t ∧ un = .int .i64 (cL D z t : Nat) ∧ sa = .int .i64 (cE D z t : Nat) ∧ wx = w2.drewN s) (fun _ _ kk _ => n - (RowKit.intOf kk).toNat)
          case atStart => exact ⟨0, r, by omega, rfl, by rw [hL0]; rfl, by rw [hE0]; rfl, rfl⟩
          case round =>
            obtain ⟨t, s, ht, rfl, rfl, rfl, rfl⟩ := hrel
            by_cases htn : t < n
            · have hcy0 := unhide HCe t htn
              have hy64 := (unhide HZ t htn).1
              have hsl := unhide HsLz t htn
              have hse := unhide HsEz t htn
              have hll := unhide HlLz t
              have hle := unhide HlEz t
              generalize D.getD t 0 = yv at *
              have hcy : (w2.drewN s).cell? ⟨g, o + t, none⟩ = some (.int .u64 yv) := hcy0
              have hcz : (w2.drewN s).cell? ⟨g, o + j, none⟩ = some (.int .u64 z) := hcz0
              have HC0 := hide hcz0
              clear hcy0 hcz0
              generalize hwq : w2.drewN s = wq at *
              have HWq := hide hwq
              clear hwq
              have HSl := hide hsl
              have HSe := hide hse
              clear hsl hse
              generalize hcl : cL D z t = c1 at *
              generalize hcE : cE D z t = c2 at *
              rcases Int.lt_trichotomy (ordI yv) (ordI z) with h | h | h
              · have hd1 : decide (ordI yv < ordI z) = true := by simp; omega
                have hd2 : (ordI yv == ordI z) = false := by simp; omega
                have HH := hide h
                clear h
                go_wp2_with fail
                go_quiet ((go_at_call 29; exact Calls.quiet_of_same (unhide HOr _ (by assumption) _)))
                have hcy2 : (wq.drewN nq).cell? ⟨g, o + t, none⟩ = some (.int .u64 yv) := hcy
                have hcz2 : (wq.drewN nq).cell? ⟨g, o + j, none⟩ = some (.int .u64 z) := hcz
                have HW2 : Hid (∃ s', wq.drewN nq = w2.drewN s') := ⟨s + nq, by rw [← unhide HWq]; unfold World.drewN; rw [Nat.add_assoc]⟩
                clear hcy hcz HWq
                generalize wq.drewN nq = wq2 at *
                clear wq
                go_wp2_with fail
                go_quiet ((go_at_call 29; exact Calls.quiet_of_same (unhide HOr _ (by assumption) _)))
                go_wp2_with fail
                obtain ⟨s', hs'⟩ := unhide HW2
                go_roundw
                case rel => exact ⟨t + 1, s' + nq, by omega, rfl, by rw [unhide HSl, if_pos (unhide HH)]; rfl, by rw [unhide HSe, if_neg (by have := unhide HH; omega)]; rfl, by rw [hs']; unfold World.drewN; rw [Nat.add_assoc]⟩
                case measure => simp [RowKit.intOf]; omega
              · have hd1 : decide (ordI yv < ordI z) = false := by simp; omega
                have hd2 : (ordI yv == ordI z) = true := by simp; omega
                have HH := hide h
                clear h
                go_wp2_with fail
                go_quiet ((go_at_call 29; exact Calls.quiet_of_same (unhide HOr _ (by assumption) _)))
                have hcy2 : (wq.drewN nq).cell? ⟨g, o + t, none⟩ = some (.int .u64 yv) := hcy
                have hcz2 : (wq.drewN nq).cell? ⟨g, o + j, none⟩ = some (.int .u64 z) := hcz
                have HW2 : Hid (∃ s', wq.drewN nq = w2.drewN s') := ⟨s + nq, by rw [← unhide HWq]; unfold World.drewN; rw [Nat.add_assoc]⟩
                clear hcy hcz HWq
                generalize wq.drewN nq = wq2 at *
                clear wq
                go_wp2_with fail
                go_quiet ((go_at_call 29; exact Calls.quiet_of_same (unhide HOr _ (by assumption) _)))
                go_wp2_with fail
                obtain ⟨s', hs'⟩ := unhide HW2
                go_roundw
                case rel => exact ⟨t + 1, s' + nq, by omega, rfl, by rw [unhide HSl, if_neg (by have := unhide HH; omega)]; rfl, by rw [unhide HSe, if_pos (unhide HH)]; rfl, by rw [hs']; unfold World.drewN; rw [Nat.add_assoc]⟩
                case measure => simp [RowKit.intOf]; omega
              · have hd1 : decide (ordI yv < ordI z) = false := by simp; omega
                have hd2 : (ordI yv == ordI z) = false := by simp; omega
                have HH := hide h
                clear h
                go_wp2_with fail
                go_quiet ((go_at_call 29; exact Calls.quiet_of_same (unhide HOr _ (by assumption) _)))
                have hcy2 : (wq.drewN nq).cell? ⟨g, o + t, none⟩ = some (.int .u64 yv) := hcy
                have hcz2 : (wq.drewN nq).cell? ⟨g, o + j, none⟩ = some (.int .u64 z) := hcz
                have HW2 : Hid (∃ s', wq.drewN nq = w2.drewN s') := ⟨s + nq, by rw [← unhide HWq]; unfold World.drewN; rw [Nat.add_assoc]⟩
                clear hcy hcz HWq
                generalize wq.drewN nq = wq2 at *
                clear wq
                go_wp2_with fail
                go_quiet ((go_at_call 29; exact Calls.quiet_of_same (unhide HOr _ (by assumption) _)))
                go_wp2_with fail
                obtain ⟨s', hs'⟩ := unhide HW2
                go_roundw
                case rel => exact ⟨t + 1, s' + nq, by omega, rfl, by rw [unhide HSl, if_neg (by have := unhide HH; omega)]; rfl, by rw [unhide HSe, if_neg (by have := unhide HH; omega)]; rfl, by rw [hs']; unfold World.drewN; rw [Nat.add_assoc]⟩
                case measure => simp [RowKit.intOf]; omega
            · obtain rfl : t = n := by omega
              have hll := unhide HlLz t
              have hle := unhide HlEz t
              generalize cL D z t = c1 at *
              generalize cE D z t = c2 at *
              by_cases h1 : c1 < R
              · by_cases h2 : R ≤ c1 + c2
                · have hVz := unhide HVj ((unhide HhRj).2 ⟨h1, h2⟩)
                  rw [bucket_val z (unhide HNz)] at hVz
                  have hcz : (w2.drewN s).cell? ⟨g, o + j, none⟩ = some (.int .u64 z) := hcz0
                  have HBs : Hid (Below w.heap.size w (w2.drewN s)) := below_drewN (unhide HB2) s
                  clear hcz0
                  generalize w2.drewN s = wq at *
                  have hd1 : decide ((c1 : Int) < (R : Int)) = true := by simp; omega
                  have hd2 : decide ((R : Int) ≤ (c1 : Int) + (c2 : Int)) = true := by simp; omega
                  by_cases hsm : z % 9223372036854775808 < 4503599627370496
                  · rw [if_pos hsm] at hVz
                    subst hVz
                    obtain ⟨zI, hzI⟩ : ∃ zI : Int, (z : Int) = zI := ⟨_, rfl⟩
                    rw [hzI] at hcz
                    have hsi : zI % 9223372036854775808 < 4503599627370496 := by omega
                    have hz1 : 0 ≤ zI := by omega
                    have hz2 : zI ≤ 18446744073709551615 := by omega
                    have hdi : decide (zI % 9223372036854775808 < 4503599627370496) = true := by simp; exact hsi
                    clear hsm hzI hz64 hsi
                    go_wp2_with fail
                    go_ret
                    exact ⟨rfl, unhide HBs⟩
                  · rw [if_neg hsm] at hVz
                    obtain ⟨zI, hzI⟩ : ∃ zI : Int, (z : Int) = zI := ⟨_, rfl⟩
                    rw [hzI] at hcz
                    generalize hVI : (V : Int) = VI at *
                    have hsi : 4503599627370496 ≤ zI % 9223372036854775808 := by omega
                    have hV1 : VI / 35184372088832 = zI / 35184372088832 := by omega
                    have hV2 : VI % 35184372088832 = 0 := by omega
                    have hz1 : 0 ≤ zI := by omega
                    have hz2 : zI ≤ 18446744073709551615 := by omega
                    have hv1 : 0 ≤ VI := by omega
                    have hv2 : VI ≤ 18446744073709551615 := by omega
                    have hdi : decide (zI % 9223372036854775808 < 4503599627370496) = false := by simp; exact hsi
                    clear hsm hVz hzI hVI hz64 hsi
                    go_wp2_with fail
                    go_ret
                    exact ⟨rfl, unhide HBs⟩
                · have HNo : Hid (∀ q, q < j + 1 → ¬ hasRank D R q) := fun q hq hr => by
                    rcases Nat.lt_or_ge q j with k | k
                    · exact unhide hno q k hr
                    · obtain rfl : q = j := by omega
                      have := (unhide HhRj).1 hr
                      omega
                  have hd1 : decide ((c1 : Int) < (R : Int)) = true := by simp; omega
                  have hd2 : decide ((R : Int) ≤ (c1 : Int) + (c2 : Int)) = false := by simp; omega
                  go_wp2_with fail
                  go_roundw
                  case rel => exact ⟨j + 1, s, by omega, rfl, rfl, HNo⟩
                  case measure => simp [RowKit.intOf]; omega
              · have hd1 : decide ((c1 : Int) < ((R : Nat) : Int)) = false := by simp; omega
                have HNo : Hid (∀ q, q < j + 1 → ¬ hasRank D R q) := fun q hq hr => by
                  rcases Nat.lt_or_ge q j with k | k
                  · exact unhide hno q k hr
                  · obtain rfl : q = j := by omega
                    have := (unhide HhRj).1 hr
                    omega
                go_wp2_with fail
                go_roundw
                case rel => exact ⟨j + 1, s, by omega, rfl, rfl, HNo⟩
                case measure => simp [RowKit.intOf]; omega
        · obtain ⟨t, ht, h⟩ := unhide HSo2
          exact absurd h (unhide hno t (by omega))
end Go.Proofs.YtgekdmjneogdoaaGreatDoor
