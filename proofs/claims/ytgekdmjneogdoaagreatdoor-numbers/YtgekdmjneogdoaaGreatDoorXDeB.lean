import Derived.Test.YtgekdmjneogdoaaGreatDoorXDe7
import Derived.Test.YtgekdmjneogdoaaGreatDoorXRfExp
import Derived.Deep.LoopGhost
import Derived.Deep.DeepCutAuto
import Derived.BigGuardPart
namespace Go.Proofs.YtgekdmjneogdoaaGreatDoor
open Go.RowKit

theorem RF.run2_go {st st' : RF} {N : Nat} {c : UInt8} {r : List UInt8} {R : RF × Nat × List UInt8} (h : RF.run2 st N (c :: r) = R) (hs : st.step c.toNat = some st') : RF.run2 st' (if c.toNat = 46 then N else N * 10 + (c.toNat - 48)) r = R := by
  rw [RF.run2, hs] at h; exact h
theorem RF.run2_stop {st : RF} {N : Nat} {c : UInt8} {r : List UInt8} {R : RF × Nat × List UInt8} (h : RF.run2 st N (c :: r) = R) (hs : st.step c.toNat = none) : R = (st, N, c :: r) := by
  rw [RF.run2, hs] at h; exact h.symm
theorem RF.step_dot {st : RF} {c : UInt8} (hc : (c.toNat : Int) = 46) (hs : st.sd = false) : st.step c.toNat = some { st with sd := true, dp := st.nd } := by
  have : c.toNat = 46 := by omega
  rw [this]; simp [RF.step, hs]
theorem RF.step_dot2 {st : RF} {c : UInt8} (hc : (c.toNat : Int) = 46) (hs : st.sd = true) : st.step c.toNat = none := by
  have : c.toNat = 46 := by omega
  rw [this]; simp [RF.step, hs]
theorem RF.step_dig {st : RF} {c : UInt8} (h1 : 48 ≤ (c.toNat : Int)) (h2 : (c.toNat : Int) ≤ 57) : st.step c.toNat = some (st.digit c.toNat) := by
  unfold RF.step; rw [if_neg (by omega), if_pos (by omega)]
theorem RF.step_no {st : RF} {c : UInt8} (h0 : ¬ (c.toNat : Int) = 46) (h1 : ¬ (48 ≤ (c.toNat : Int) ∧ (c.toNat : Int) ≤ 57)) : st.step c.toNat = none := by
  unfold RF.step; rw [if_neg (by omega), if_neg (by omega)]
theorem RF.digit_zero {st : RF} (h : st.nd = 0) : st.digit 48 = { st with sg := true, dp := st.dp - 1 } := by
  unfold RF.digit; rw [if_pos ⟨rfl, h⟩]
theorem RF.digit_more {st : RF} {c : Nat} (h : ¬ (c = 48 ∧ st.nd = 0)) : (st.digit c).nd = st.nd + 1 ∧ (st.digit c).dp = st.dp ∧ (st.digit c).sd = st.sd ∧ (st.digit c).sg = true := by
  unfold RF.digit; rw [if_neg h]; split <;> exact ⟨rfl, rfl, rfl, rfl⟩

set_option maxRecDepth 100000 in
set_option maxHeartbeats 8000000 in
theorem set_pos (s : ByteArray) (w : World) (b : Nat) (a0 : Nat → Nat) (ng tr0 : Bool) (R : RF × Nat × List UInt8) (x F : Int) (h0 : 0 < s.size) (hm : s.size ≤ 40) (c1 : 48 ≤ (s[0].toNat : Int)) (c2 : (s[0].toNat : Int) ≤ 57) (hu : ∀ (i : Nat) (h : i < s.size), (s[i].toNat : Int) ≠ 95)
    (hR : RF.run2 RF.start 0 (s.data.toList.drop 0) = R) (hR2 : R.2.2 = [] ∨ ∃ r, R.2.2 = 101 :: r) (hsg : R.1.sg = true) (hx0 : R.2.2 = [] → x = 0) (hE : ∀ r, R.2.2 = 101 :: r → ∃ es ds, ExpOk r es ds ∧ x = es * (expVal 0 ds : Int)) (hF : (if R.1.sd then R.1.dp else R.1.nd) + x = F) (hM : DM w b a0 0 0 ng tr0) :
    Calls Tryz.prog 280 #[.pointer (some ⟨b, 0, none⟩), .string s] w fun e w' => e = .returned (.bool true) ∧ (∃ a, DM w' b a R.1.nd F false false ∧ DigsOf a R.2.1 R.1.nd) ∧ Kept (But b) w w' := by
  have h43 : ((s[0].toNat : Int) == 43) = false := beq_eq_false_iff_ne.2 (by omega)
  have h45 : ((s[0].toNat : Int) == 45) = false := beq_eq_false_iff_ne.2 (by omega)
  have g3 := hM.neg
  have g4 := hM.tr
  have q3 := hM.fz 802
  have q4 := hM.fz 803
  have he : decide (s = ByteArray.empty) = false := by
    rw [decide_eq_false_iff_not]; intro h; rw [h] at h0; simp at h0
  have he2 : s.size ≠ 0 := by omega
  have he3 : decide (s.size ≤ 0) = false := decide_eq_false (by omega)
  have HR := hide hR
  have HR2 := hide hR2
  have Hu := hide hu
  have Hsg := hide hsg
  have Hx0 := hide hx0
  have HE := hide hE
  have HF := hide hF
  have HM := hide hM
  clear hR hR2 hu hsg hx0 hE hF hM
  obtain ⟨PP, hPP⟩ : ∃ PP : World → Prop, PP = fun w' => ∃ a, DM w' b a R.1.nd F false false ∧ DigsOf a R.2.1 R.1.nd := ⟨_, rfl⟩
  have HPP := hide hPP
  rw [show (fun (e : Ending) (w' : World) => e = Ending.returned (.bool true) ∧ (∃ a, DM w' b a R.1.nd F false false ∧ DigsOf a R.2.1 R.1.nd) ∧ Kept (But b) w w') = (fun e w' => e = .returned (.bool true) ∧ PP w' ∧ Kept (But b) w w') by rw [hPP]]
  clear hPP
  go_enter Tryz.func280, Tryz.ntmps280
  go_wp2_with fail
  go_loopw [5, 6, 7] (fun i sd sg wr => ∃ (st : RF) (N k : Nat) (a : Nat → Nat), 0 ≤ k ∧ k ≤ s.size ∧ i = .int .i64 (k : Nat) ∧ sd = .bool st.sd ∧ sg = .bool st.sg ∧ st.Ok k ∧ Hid (RF.run2 st N (s.data.toList.drop k) = R) ∧ Hid (DM wr b a st.nd st.dp false false ∧ DigsOf a N st.nd) ∧ Hid (Kept (But b) w wr)) (fun i _ _ _ => s.size - (intOf i).toNat)
  case atStart =>
    refine ⟨RF.start, 0, 0, a0, Nat.le_refl _, by omega, rfl, rfl, rfl, RF.start_ok _, HR, ⟨?_, fun i hi => by simp [RF.start] at hi⟩, ?_⟩
    · exact ((unhide HM).setNeg false).setTr false
    · exact (kept_set b 802 _ w).trans (kept_set b 803 _ _)
  case round =>
    obtain ⟨st, N, k, a, k0, k1, rfl, rfl, rfl, hok, hrun, hmem, hkp⟩ := hrel
    have b2 := hok.nd
    have b3 := hok.lo
    have b4 := hok.hi
    have m0 := (unhide hmem).1.nd
    have m1 := (unhide hmem).1.dp
    have n0 := (unhide hmem).1.fz 800
    have n1 := (unhide hmem).1.fz 801
    by_cases hlt : k < s.size
    · have hnu := unhide Hu k hlt
      have hdr := hide (drop_byte s k hlt)
      have hb : s[k].toNat < 256 := UInt8.toNat_lt _
      by_cases e1 : (s[k].toNat : Int) = 46
      · cases hsd : st.sd
        · go_wp2_with fail
          refine ⟨⟨{ st with sd := true, dp := st.nd }, N, k + 1, a, by omega, by omega, by go_num, rfl, rfl, hok.dot, ?_, ⟨(unhide hmem).1.setDp _, (unhide hmem).2⟩, (unhide hkp).trans (kept_set b 801 _ _)⟩, ?_⟩
          · have h := unhide hrun
            rw [unhide hdr] at h
            have h2 := RF.run2_go h (RF.step_dot e1 hsd)
            rw [if_pos (by omega)] at h2
            exact h2
          · simp [intOf]; omega
        · exfalso
          have h := unhide hrun
          rw [unhide hdr] at h
          have h2 := RF.run2_stop h (RF.step_dot2 e1 hsd)
          rcases unhide HR2 with q | ⟨r, q⟩
          · rw [h2] at q; cases q
          · rw [h2] at q
            injection q with q _
            rw [q] at e1
            revert e1; decide
      · by_cases e2 : 48 ≤ (s[k].toNat : Int) ∧ (s[k].toNat : Int) ≤ 57
        · obtain ⟨e2, e3⟩ := e2
          have e2' : 48 ≤ s[k].toNat := by omega
          have e3' : s[k].toNat ≤ 57 := by omega
          by_cases ez : s[k].toNat = 48 ∧ st.nd = 0
          · obtain ⟨ez1, ez2⟩ := ez
            have hz : (s[k].toNat : Int) = 48 := by omega
            have m0' : wr.cell? ⟨b, 800, none⟩ = some (.int .i64 0) := by rw [m0, ez2]; rfl
            clear m0
            go_wp2_with fail
            refine ⟨⟨{ st with sg := true, dp := st.dp - 1 }, N * 10, k + 1, a, by omega, by omega, by go_num, rfl, rfl, ?_, ?_, ⟨(unhide hmem).1.setDp _, ?_⟩, (unhide hkp).trans (kept_set b 801 _ _)⟩, ?_⟩
            · have := hok.digit e2' e3'
              rw [ez1, RF.digit_zero ez2] at this
              exact this
            · have h := unhide hrun
              rw [unhide hdr] at h
              have h2 := RF.run2_go h (RF.step_dig e2 e3)
              rw [if_neg (by omega), ez1, RF.digit_zero ez2] at h2
              exact h2
            · intro i hi
              have : i < st.nd := hi
              omega
            · simp [intOf]; omega
          · have hnd8 : (st.nd : Int) < 800 := by omega
            obtain ⟨d1, d2, d3, d4⟩ := RF.digit_more ez
            have co := (unhide hmem).1.dig st.nd (by omega)
            have fo := (unhide hmem).1.fz st.nd
            have hok2 := hide (hok.digit e2' e3')
            have hrun2 : Hid (RF.run2 (st.digit s[k].toNat) (N * 10 + (s[k].toNat - 48)) (s.data.toList.drop (k + 1)) = R) := by
              have h := unhide hrun
              rw [unhide hdr] at h
              have h2 := RF.run2_go h (RF.step_dig e2 e3)
              rw [if_neg (by omega)] at h2
              exact h2
            have HD := hide (And.intro d1 (And.intro d2 (And.intro d3 d4)))
            clear d1 d2 d3 d4
            by_cases ec : s[k].toNat = 48
            · have hz : (s[k].toNat : Int) = 48 := by omega
              have hn0 : ((st.nd : Int) == 0) = false := by rw [beq_eq_false_iff_ne]; omega
              have hn0' : ¬ st.nd = 0 := fun q => ez ⟨ec, q⟩
              clear ez
              go_wp2_with fail
              go_region
              all_goals
                go_wp2_with fail
                obtain ⟨d1, d2, d3, d4⟩ := unhide HD
                have hv : (48 : Int) = ((s[k].toNat : Nat) : Int) := by omega
                refine ⟨⟨st.digit s[k].toNat, N * 10 + (s[k].toNat - 48), k + 1, (fun i => if i = st.nd then s[k].toNat else a i), by omega, by omega, by go_num, by rw [d3], by rw [d4], unhide hok2, hrun2, ⟨?_, ?_⟩, ?_⟩, ?_⟩
                · rw [d1, d2, hv]
                  exact (((unhide hmem).1.setDig st.nd s[k].toNat (by omega)).setNd (st.nd + 1) _ (by omega)).drewN 1
                · rw [d1]
                  exact digs_push (unhide hmem).2 (by omega) _ (by omega)
                · exact (unhide hkp).trans (((kept_set b st.nd _ _).trans (kept_set b 800 _ _)).trans (kdrewN _ 1 _))
                · simp [intOf]; omega
            · have hz : ((s[k].toNat : Int) == 48) = false := by rw [beq_eq_false_iff_ne]; omega
              clear ez
              go_wp2_with fail
              go_region
              all_goals
                go_wp2_with fail
                obtain ⟨d1, d2, d3, d4⟩ := unhide HD
                refine ⟨⟨st.digit s[k].toNat, N * 10 + (s[k].toNat - 48), k + 1, (fun i => if i = st.nd then s[k].toNat else a i), by omega, by omega, by go_num, by rw [d3], by rw [d4], unhide hok2, hrun2, ⟨?_, ?_⟩, ?_⟩, ?_⟩
                · rw [d1, d2]
                  exact (((unhide hmem).1.setDig st.nd s[k].toNat (by omega)).setNd (st.nd + 1) _ (by omega)).drewN 1
                · rw [d1]
                  exact digs_push (unhide hmem).2 (by omega) _ (by omega)
                · exact (unhide hkp).trans (((kept_set b st.nd _ _).trans (kept_set b 800 _ _)).trans (kdrewN _ 1 _))
                · simp [intOf]; omega
        · have hRk : R = (st, N, s.data.toList.drop k) := by
            have h := unhide hrun
            rw [unhide hdr] at h ⊢
            exact RF.run2_stop h (RF.step_no e1 e2)
          have hsg2 : st.sg = true := by have := unhide Hsg; rw [hRk] at this; exact this
          have e4' : s[k] = 101 := by
            rcases unhide HR2 with h | ⟨r, h⟩
            · rw [hRk, drop_byte s k hlt] at h; simp at h
            · rw [hRk, drop_byte s k hlt] at h; simp at h; exact h.1
          have e4 : (s[k].toNat : Int) = 101 := by rw [e4']; rfl
          have h101 : bits BinOp.or IntKind.u8 101 32 = 101 := by decide
          obtain ⟨es, ds, hek, hxe⟩ := unhide HE (s.data.toList.drop (k + 1)) (by rw [hRk, drop_byte s k hlt, e4'])
          obtain ⟨j, j1, j2, j3, j4, jf⟩ := exp_forms s k es ds hek
          obtain ⟨bx1, bx2⟩ := hek.bound hxe
          rw [← j4] at hxe
          obtain ⟨V, hV⟩ : ∃ V, expVal 0 (s.data.toList.drop j) = V := ⟨_, rfl⟩
          rw [hV] at hxe
          have HV := hide hV
          have J3 := hide j3
          have HRk := hide hRk
          have hFF : Hid ((if st.sd then st.dp else (st.nd : Int)) + x = F) := by have := unhide HF; rw [hRk] at this; exact this
          clear j3 j4 hek e4' hV hRk hdr hrun
          cases hsd : st.sd
          · -- no point
            have hFF' : Hid ((st.nd : Int) + x = F) := by have := unhide hFF; rw [hsd] at this; exact this
            rcases jf with ⟨rfl, ⟨jh, j5⟩, rfl⟩ | ⟨rfl, ⟨jh, j5⟩, rfl⟩ | ⟨rfl, rfl⟩
            · have jd := unhide J3 _ j1 (Nat.le_refl _)
              obtain ⟨jd1, jd2⟩ := jd
              have DW := hide ((unhide hmem).1.setDp (st.nd : Int))
              have DWd := (unhide DW).dp
              have DWf := (unhide DW).fz 801
              have hxe' := hide hxe
              clear hxe
              have j6 : (k : Int) + 1 < s.size := by omega
              have jg0 : decide (s.size ≤ k + 1) = false := decide_eq_false (by omega)
              have jg1 : decide ((s.size : Int) ≤ (k : Int) + 1) = false := decide_eq_false (by omega)
              have jg2 : decide (s.size ≤ k + 1 + 1) = false := decide_eq_false (by omega)
              have jg3 : decide ((s.size : Int) ≤ ((k : Int) + 1 + 1)) = false := decide_eq_false (by omega)
              have jl1 : decide ((s[k + 1 + 1].toNat : Int) < 48) = false := decide_eq_false (by omega)
              have jl2 : decide (s[k + 1 + 1].toNat < 48) = false := decide_eq_false (by omega)
              have jl3 : decide ((57 : Int) < (s[k + 1 + 1].toNat : Int)) = false := decide_eq_false (by omega)
              have jl4 : decide (57 < s[k + 1 + 1].toNat) = false := decide_eq_false (by omega)
              have j9 : ((s[k + 1].toNat : Int) == 43) = true := by rw [beq_iff_eq]; exact j5
              go_wp2_with (go_at_call 250; refine (Tryz.internal_strconv_lower _ _).mono ?_; rintro e w' ⟨rfl, hw⟩; rw [hw]; clear hw w')
              go_loopw [5, 9] (fun i e wz => ∃ (q v : Nat), k + 1 + 1 ≤ q ∧ q ≤ s.size ∧ v < 10 ^ (q - (k + 1 + 1)) ∧ Hid (expVal v (s.data.toList.drop q) = V) ∧ i = .int .i64 (q : Nat) ∧ e = .int .i64 (v : Nat) ∧ wz = (wr.setCell ⟨b, 801, none⟩ (.int .i64 (st.nd : Int)))) (fun i _ _ => s.size - (intOf i).toNat)
              case atStart => exact ⟨k + 1 + 1, 0, Nat.le_refl _, by omega, Nat.pow_pos (by omega), HV, by go_num, rfl, rfl⟩
              case round =>
                obtain ⟨q, v, q1, q2, q3, q4, rfl, rfl, hwz⟩ := hrel
                rw [hwz]
                clear hwz
                by_cases q5 : q < s.size
                · obtain ⟨q6, q7⟩ := unhide J3 q q5 q1
                  have q8 := exp_bound v q (k + 1 + 1) q3 (by omega)
                  have q10 := hide (exp_step v q (k + 1 + 1) s[q].toNat q3 q1 (by omega))
                  have hb2 := byte_lt s[q]
                  have q12 := unhide Hu q q5
                  have q13 : ((s[q].toNat : Int) == 95) = false := by rw [beq_eq_false_iff_ne]; exact q12
                  have q11 : Hid (expVal (v * 10 + (s[q].toNat - 48)) (s.data.toList.drop (q + 1)) = V) := by
                    have h := unhide q4
                    rw [drop_byte s q q5] at h
                    exact h
                  have q14 : (v : Int) < 10000 := by omega
                  clear q3
                  go_wp2_with fail
                  refine ⟨⟨q + 1, v * 10 + (s[q].toNat - 48), by omega, by omega, unhide q10, q11, by go_num, by go_num, trivial⟩, ?_⟩
                  simp [intOf]; omega
                · have q6 : q = s.size := by omega
                  have q11 : v = V := by
                    have h := unhide q4
                    rw [q6, List.drop_of_length_le (by simp)] at h
                    exact h
                  have q12 : v ≤ 9999 := by
                    have : 10 ^ (q - (k + 1 + 1)) ≤ 10 ^ 4 := Nat.pow_le_pow_right (by omega) (by omega)
                    omega
                  have q13 : ¬ (q : Int) < (s.size : Int) := by omega
                  have q14 : decide (q < s.size) = false := decide_eq_false (by omega)
                  have q15 : (q : Int) = (s.size : Int) := by omega
                  clear q3
                  go_wp2_with fail
                  go_ret
                  have hRk := unhide HRk
                  have hfin := unhide hFF'
                  have hxx := unhide hxe'
                  have hval : (st.nd : Int) + (V : Int) = F := by rw [← hfin, hxx]; omega
                  refine ⟨rfl, ?_, (unhide hkp).trans ((kept_set b 801 _ _).trans (kept_set b 801 _ _))⟩
                  rw [unhide HPP]
                  refine ⟨a, ?_, ?_⟩
                  · rw [hRk, ← hval]
                    exact (unhide DW).setDp _
                  · rw [hRk]; exact (unhide hmem).2
            · have jd := unhide J3 _ j1 (Nat.le_refl _)
              obtain ⟨jd1, jd2⟩ := jd
              have DW := hide ((unhide hmem).1.setDp (st.nd : Int))
              have DWd := (unhide DW).dp
              have DWf := (unhide DW).fz 801
              have hxe' := hide hxe
              clear hxe
              have j6 : (k : Int) + 1 < s.size := by omega
              have jg0 : decide (s.size ≤ k + 1) = false := decide_eq_false (by omega)
              have jg1 : decide ((s.size : Int) ≤ (k : Int) + 1) = false := decide_eq_false (by omega)
              have jg2 : decide (s.size ≤ k + 1 + 1) = false := decide_eq_false (by omega)
              have jg3 : decide ((s.size : Int) ≤ ((k : Int) + 1 + 1)) = false := decide_eq_false (by omega)
              have jl1 : decide ((s[k + 1 + 1].toNat : Int) < 48) = false := decide_eq_false (by omega)
              have jl2 : decide (s[k + 1 + 1].toNat < 48) = false := decide_eq_false (by omega)
              have jl3 : decide ((57 : Int) < (s[k + 1 + 1].toNat : Int)) = false := decide_eq_false (by omega)
              have jl4 : decide (57 < s[k + 1 + 1].toNat) = false := decide_eq_false (by omega)
              have j9 : ((s[k + 1].toNat : Int) == 43) = false := beq_eq_false_iff_ne.2 (by omega)
              have j10 : ((s[k + 1].toNat : Int) == 45) = true := by rw [beq_iff_eq]; exact j5
              go_wp2_with (go_at_call 250; refine (Tryz.internal_strconv_lower _ _).mono ?_; rintro e w' ⟨rfl, hw⟩; rw [hw]; clear hw w')
              go_loopw [5, 9] (fun i e wz => ∃ (q v : Nat), k + 1 + 1 ≤ q ∧ q ≤ s.size ∧ v < 10 ^ (q - (k + 1 + 1)) ∧ Hid (expVal v (s.data.toList.drop q) = V) ∧ i = .int .i64 (q : Nat) ∧ e = .int .i64 (v : Nat) ∧ wz = (wr.setCell ⟨b, 801, none⟩ (.int .i64 (st.nd : Int)))) (fun i _ _ => s.size - (intOf i).toNat)
              case atStart => exact ⟨k + 1 + 1, 0, Nat.le_refl _, by omega, Nat.pow_pos (by omega), HV, by go_num, rfl, rfl⟩
              case round =>
                obtain ⟨q, v, q1, q2, q3, q4, rfl, rfl, hwz⟩ := hrel
                rw [hwz]
                clear hwz
                by_cases q5 : q < s.size
                · obtain ⟨q6, q7⟩ := unhide J3 q q5 q1
                  have q8 := exp_bound v q (k + 1 + 1) q3 (by omega)
                  have q10 := hide (exp_step v q (k + 1 + 1) s[q].toNat q3 q1 (by omega))
                  have hb2 := byte_lt s[q]
                  have q12 := unhide Hu q q5
                  have q13 : ((s[q].toNat : Int) == 95) = false := by rw [beq_eq_false_iff_ne]; exact q12
                  have q11 : Hid (expVal (v * 10 + (s[q].toNat - 48)) (s.data.toList.drop (q + 1)) = V) := by
                    have h := unhide q4
                    rw [drop_byte s q q5] at h
                    exact h
                  have q14 : (v : Int) < 10000 := by omega
                  clear q3
                  go_wp2_with fail
                  refine ⟨⟨q + 1, v * 10 + (s[q].toNat - 48), by omega, by omega, unhide q10, q11, by go_num, by go_num, trivial⟩, ?_⟩
                  simp [intOf]; omega
                · have q6 : q = s.size := by omega
                  have q11 : v = V := by
                    have h := unhide q4
                    rw [q6, List.drop_of_length_le (by simp)] at h
                    exact h
                  have q12 : v ≤ 9999 := by
                    have : 10 ^ (q - (k + 1 + 1)) ≤ 10 ^ 4 := Nat.pow_le_pow_right (by omega) (by omega)
                    omega
                  have q13 : ¬ (q : Int) < (s.size : Int) := by omega
                  have q14 : decide (q < s.size) = false := decide_eq_false (by omega)
                  have q15 : (q : Int) = (s.size : Int) := by omega
                  clear q3
                  go_wp2_with fail
                  go_ret
                  have hRk := unhide HRk
                  have hfin := unhide hFF'
                  have hxx := unhide hxe'
                  have hval : (st.nd : Int) + -(V : Int) = F := by rw [← hfin, hxx]; omega
                  refine ⟨rfl, ?_, (unhide hkp).trans ((kept_set b 801 _ _).trans (kept_set b 801 _ _))⟩
                  rw [unhide HPP]
                  refine ⟨a, ?_, ?_⟩
                  · rw [hRk, ← hval]
                    exact (unhide DW).setDp _
                  · rw [hRk]; exact (unhide hmem).2
            · have jd := unhide J3 _ j1 (Nat.le_refl _)
              obtain ⟨jd1, jd2⟩ := jd
              have DW := hide ((unhide hmem).1.setDp (st.nd : Int))
              have DWd := (unhide DW).dp
              have DWf := (unhide DW).fz 801
              have hxe' := hide hxe
              clear hxe
              have j6 : (k : Int) + 1 < s.size := by omega
              have jg0 : decide (s.size ≤ k + 1) = false := decide_eq_false (by omega)
              have jg1 : decide ((s.size : Int) ≤ (k : Int) + 1) = false := decide_eq_false (by omega)
              have jg2 : decide (s.size ≤ k + 1) = false := decide_eq_false (by omega)
              have jg3 : decide ((s.size : Int) ≤ ((k : Int) + 1)) = false := decide_eq_false (by omega)
              have jl1 : decide ((s[k + 1].toNat : Int) < 48) = false := decide_eq_false (by omega)
              have jl2 : decide (s[k + 1].toNat < 48) = false := decide_eq_false (by omega)
              have jl3 : decide ((57 : Int) < (s[k + 1].toNat : Int)) = false := decide_eq_false (by omega)
              have jl4 : decide (57 < s[k + 1].toNat) = false := decide_eq_false (by omega)
              have j9 : ((s[k + 1].toNat : Int) == 43) = false := beq_eq_false_iff_ne.2 (by omega)
              have j10 : ((s[k + 1].toNat : Int) == 45) = false := beq_eq_false_iff_ne.2 (by omega)
              go_wp2_with (go_at_call 250; refine (Tryz.internal_strconv_lower _ _).mono ?_; rintro e w' ⟨rfl, hw⟩; rw [hw]; clear hw w')
              go_loopw [5, 9] (fun i e wz => ∃ (q v : Nat), k + 1 ≤ q ∧ q ≤ s.size ∧ v < 10 ^ (q - (k + 1)) ∧ Hid (expVal v (s.data.toList.drop q) = V) ∧ i = .int .i64 (q : Nat) ∧ e = .int .i64 (v : Nat) ∧ wz = (wr.setCell ⟨b, 801, none⟩ (.int .i64 (st.nd : Int)))) (fun i _ _ => s.size - (intOf i).toNat)
              case atStart => exact ⟨k + 1, 0, Nat.le_refl _, by omega, Nat.pow_pos (by omega), HV, by go_num, rfl, rfl⟩
              case round =>
                obtain ⟨q, v, q1, q2, q3, q4, rfl, rfl, hwz⟩ := hrel
                rw [hwz]
                clear hwz
                by_cases q5 : q < s.size
                · obtain ⟨q6, q7⟩ := unhide J3 q q5 q1
                  have q8 := exp_bound v q (k + 1) q3 (by omega)
                  have q10 := hide (exp_step v q (k + 1) s[q].toNat q3 q1 (by omega))
                  have hb2 := byte_lt s[q]
                  have q12 := unhide Hu q q5
                  have q13 : ((s[q].toNat : Int) == 95) = false := by rw [beq_eq_false_iff_ne]; exact q12
                  have q11 : Hid (expVal (v * 10 + (s[q].toNat - 48)) (s.data.toList.drop (q + 1)) = V) := by
                    have h := unhide q4
                    rw [drop_byte s q q5] at h
                    exact h
                  have q14 : (v : Int) < 10000 := by omega
                  clear q3
                  go_wp2_with fail
                  refine ⟨⟨q + 1, v * 10 + (s[q].toNat - 48), by omega, by omega, unhide q10, q11, by go_num, by go_num, trivial⟩, ?_⟩
                  simp [intOf]; omega
                · have q6 : q = s.size := by omega
                  have q11 : v = V := by
                    have h := unhide q4
                    rw [q6, List.drop_of_length_le (by simp)] at h
                    exact h
                  have q12 : v ≤ 9999 := by
                    have : 10 ^ (q - (k + 1)) ≤ 10 ^ 4 := Nat.pow_le_pow_right (by omega) (by omega)
                    omega
                  have q13 : ¬ (q : Int) < (s.size : Int) := by omega
                  have q14 : decide (q < s.size) = false := decide_eq_false (by omega)
                  have q15 : (q : Int) = (s.size : Int) := by omega
                  clear q3
                  go_wp2_with fail
                  go_ret
                  have hRk := unhide HRk
                  have hfin := unhide hFF'
                  have hxx := unhide hxe'
                  have hval : (st.nd : Int) + (V : Int) = F := by rw [← hfin, hxx]; omega
                  refine ⟨rfl, ?_, (unhide hkp).trans ((kept_set b 801 _ _).trans (kept_set b 801 _ _))⟩
                  rw [unhide HPP]
                  refine ⟨a, ?_, ?_⟩
                  · rw [hRk, ← hval]
                    exact (unhide DW).setDp _
                  · rw [hRk]; exact (unhide hmem).2
          · have hFF' : Hid (st.dp + x = F) := by have := unhide hFF; rw [hsd] at this; exact this
            rcases jf with ⟨rfl, ⟨jh, j5⟩, rfl⟩ | ⟨rfl, ⟨jh, j5⟩, rfl⟩ | ⟨rfl, rfl⟩
            · have jd := unhide J3 _ j1 (Nat.le_refl _)
              obtain ⟨jd1, jd2⟩ := jd
              have DW := hide ((unhide hmem).1)
              have DWd := (unhide DW).dp
              have DWf := (unhide DW).fz 801
              have hxe' := hide hxe
              clear hxe
              have j6 : (k : Int) + 1 < s.size := by omega
              have jg0 : decide (s.size ≤ k + 1) = false := decide_eq_false (by omega)
              have jg1 : decide ((s.size : Int) ≤ (k : Int) + 1) = false := decide_eq_false (by omega)
              have jg2 : decide (s.size ≤ k + 1 + 1) = false := decide_eq_false (by omega)
              have jg3 : decide ((s.size : Int) ≤ ((k : Int) + 1 + 1)) = false := decide_eq_false (by omega)
              have jl1 : decide ((s[k + 1 + 1].toNat : Int) < 48) = false := decide_eq_false (by omega)
              have jl2 : decide (s[k + 1 + 1].toNat < 48) = false := decide_eq_false (by omega)
              have jl3 : decide ((57 : Int) < (s[k + 1 + 1].toNat : Int)) = false := decide_eq_false (by omega)
              have jl4 : decide (57 < s[k + 1 + 1].toNat) = false := decide_eq_false (by omega)
              have j9 : ((s[k + 1].toNat : Int) == 43) = true := by rw [beq_iff_eq]; exact j5
              go_wp2_with (go_at_call 250; refine (Tryz.internal_strconv_lower _ _).mono ?_; rintro e w' ⟨rfl, hw⟩; rw [hw]; clear hw w')
              go_loopw [5, 9] (fun i e wz => ∃ (q v : Nat), k + 1 + 1 ≤ q ∧ q ≤ s.size ∧ v < 10 ^ (q - (k + 1 + 1)) ∧ Hid (expVal v (s.data.toList.drop q) = V) ∧ i = .int .i64 (q : Nat) ∧ e = .int .i64 (v : Nat) ∧ wz = wr) (fun i _ _ => s.size - (intOf i).toNat)
              case atStart => exact ⟨k + 1 + 1, 0, Nat.le_refl _, by omega, Nat.pow_pos (by omega), HV, by go_num, rfl, rfl⟩
              case round =>
                obtain ⟨q, v, q1, q2, q3, q4, rfl, rfl, hwz⟩ := hrel
                rw [hwz]
                clear hwz
                by_cases q5 : q < s.size
                · obtain ⟨q6, q7⟩ := unhide J3 q q5 q1
                  have q8 := exp_bound v q (k + 1 + 1) q3 (by omega)
                  have q10 := hide (exp_step v q (k + 1 + 1) s[q].toNat q3 q1 (by omega))
                  have hb2 := byte_lt s[q]
                  have q12 := unhide Hu q q5
                  have q13 : ((s[q].toNat : Int) == 95) = false := by rw [beq_eq_false_iff_ne]; exact q12
                  have q11 : Hid (expVal (v * 10 + (s[q].toNat - 48)) (s.data.toList.drop (q + 1)) = V) := by
                    have h := unhide q4
                    rw [drop_byte s q q5] at h
                    exact h
                  have q14 : (v : Int) < 10000 := by omega
                  clear q3
                  go_wp2_with fail
                  refine ⟨⟨q + 1, v * 10 + (s[q].toNat - 48), by omega, by omega, unhide q10, q11, by go_num, by go_num, trivial⟩, ?_⟩
                  simp [intOf]; omega
                · have q6 : q = s.size := by omega
                  have q11 : v = V := by
                    have h := unhide q4
                    rw [q6, List.drop_of_length_le (by simp)] at h
                    exact h
                  have q12 : v ≤ 9999 := by
                    have : 10 ^ (q - (k + 1 + 1)) ≤ 10 ^ 4 := Nat.pow_le_pow_right (by omega) (by omega)
                    omega
                  have q13 : ¬ (q : Int) < (s.size : Int) := by omega
                  have q14 : decide (q < s.size) = false := decide_eq_false (by omega)
                  have q15 : (q : Int) = (s.size : Int) := by omega
                  clear q3
                  go_wp2_with fail
                  go_ret
                  have hRk := unhide HRk
                  have hfin := unhide hFF'
                  have hxx := unhide hxe'
                  have hval : st.dp + (V : Int) = F := by rw [← hfin, hxx]; omega
                  refine ⟨rfl, ?_, (unhide hkp).trans ((Kept.refl _ _).trans (kept_set b 801 _ _))⟩
                  rw [unhide HPP]
                  refine ⟨a, ?_, ?_⟩
                  · rw [hRk, ← hval]
                    exact (unhide DW).setDp _
                  · rw [hRk]; exact (unhide hmem).2
            · have jd := unhide J3 _ j1 (Nat.le_refl _)
              obtain ⟨jd1, jd2⟩ := jd
              have DW := hide ((unhide hmem).1)
              have DWd := (unhide DW).dp
              have DWf := (unhide DW).fz 801
              have hxe' := hide hxe
              clear hxe
              have j6 : (k : Int) + 1 < s.size := by omega
              have jg0 : decide (s.size ≤ k + 1) = false := decide_eq_false (by omega)
              have jg1 : decide ((s.size : Int) ≤ (k : Int) + 1) = false := decide_eq_false (by omega)
              have jg2 : decide (s.size ≤ k + 1 + 1) = false := decide_eq_false (by omega)
              have jg3 : decide ((s.size : Int) ≤ ((k : Int) + 1 + 1)) = false := decide_eq_false (by omega)
              have jl1 : decide ((s[k + 1 + 1].toNat : Int) < 48) = false := decide_eq_false (by omega)
              have jl2 : decide (s[k + 1 + 1].toNat < 48) = false := decide_eq_false (by omega)
              have jl3 : decide ((57 : Int) < (s[k + 1 + 1].toNat : Int)) = false := decide_eq_false (by omega)
              have jl4 : decide (57 < s[k + 1 + 1].toNat) = false := decide_eq_false (by omega)
              have j9 : ((s[k + 1].toNat : Int) == 43) = false := beq_eq_false_iff_ne.2 (by omega)
              have j10 : ((s[k + 1].toNat : Int) == 45) = true := by rw [beq_iff_eq]; exact j5
              go_wp2_with (go_at_call 250; refine (Tryz.internal_strconv_lower _ _).mono ?_; rintro e w' ⟨rfl, hw⟩; rw [hw]; clear hw w')
              go_loopw [5, 9] (fun i e wz => ∃ (q v : Nat), k + 1 + 1 ≤ q ∧ q ≤ s.size ∧ v < 10 ^ (q - (k + 1 + 1)) ∧ Hid (expVal v (s.data.toList.drop q) = V) ∧ i = .int .i64 (q : Nat) ∧ e = .int .i64 (v : Nat) ∧ wz = wr) (fun i _ _ => s.size - (intOf i).toNat)
              case atStart => exact ⟨k + 1 + 1, 0, Nat.le_refl _, by omega, Nat.pow_pos (by omega), HV, by go_num, rfl, rfl⟩
              case round =>
                obtain ⟨q, v, q1, q2, q3, q4, rfl, rfl, hwz⟩ := hrel
                rw [hwz]
                clear hwz
                by_cases q5 : q < s.size
                · obtain ⟨q6, q7⟩ := unhide J3 q q5 q1
                  have q8 := exp_bound v q (k + 1 + 1) q3 (by omega)
                  have q10 := hide (exp_step v q (k + 1 + 1) s[q].toNat q3 q1 (by omega))
                  have hb2 := byte_lt s[q]
                  have q12 := unhide Hu q q5
                  have q13 : ((s[q].toNat : Int) == 95) = false := by rw [beq_eq_false_iff_ne]; exact q12
                  have q11 : Hid (expVal (v * 10 + (s[q].toNat - 48)) (s.data.toList.drop (q + 1)) = V) := by
                    have h := unhide q4
                    rw [drop_byte s q q5] at h
                    exact h
                  have q14 : (v : Int) < 10000 := by omega
                  clear q3
                  go_wp2_with fail
                  refine ⟨⟨q + 1, v * 10 + (s[q].toNat - 48), by omega, by omega, unhide q10, q11, by go_num, by go_num, trivial⟩, ?_⟩
                  simp [intOf]; omega
                · have q6 : q = s.size := by omega
                  have q11 : v = V := by
                    have h := unhide q4
                    rw [q6, List.drop_of_length_le (by simp)] at h
                    exact h
                  have q12 : v ≤ 9999 := by
                    have : 10 ^ (q - (k + 1 + 1)) ≤ 10 ^ 4 := Nat.pow_le_pow_right (by omega) (by omega)
                    omega
                  have q13 : ¬ (q : Int) < (s.size : Int) := by omega
                  have q14 : decide (q < s.size) = false := decide_eq_false (by omega)
                  have q15 : (q : Int) = (s.size : Int) := by omega
                  clear q3
                  go_wp2_with fail
                  go_ret
                  have hRk := unhide HRk
                  have hfin := unhide hFF'
                  have hxx := unhide hxe'
                  have hval : st.dp + -(V : Int) = F := by rw [← hfin, hxx]; omega
                  refine ⟨rfl, ?_, (unhide hkp).trans ((Kept.refl _ _).trans (kept_set b 801 _ _))⟩
                  rw [unhide HPP]
                  refine ⟨a, ?_, ?_⟩
                  · rw [hRk, ← hval]
                    exact (unhide DW).setDp _
                  · rw [hRk]; exact (unhide hmem).2
            · have jd := unhide J3 _ j1 (Nat.le_refl _)
              obtain ⟨jd1, jd2⟩ := jd
              have DW := hide ((unhide hmem).1)
              have DWd := (unhide DW).dp
              have DWf := (unhide DW).fz 801
              have hxe' := hide hxe
              clear hxe
              have j6 : (k : Int) + 1 < s.size := by omega
              have jg0 : decide (s.size ≤ k + 1) = false := decide_eq_false (by omega)
              have jg1 : decide ((s.size : Int) ≤ (k : Int) + 1) = false := decide_eq_false (by omega)
              have jg2 : decide (s.size ≤ k + 1) = false := decide_eq_false (by omega)
              have jg3 : decide ((s.size : Int) ≤ ((k : Int) + 1)) = false := decide_eq_false (by omega)
              have jl1 : decide ((s[k + 1].toNat : Int) < 48) = false := decide_eq_false (by omega)
              have jl2 : decide (s[k + 1].toNat < 48) = false := decide_eq_false (by omega)
              have jl3 : decide ((57 : Int) < (s[k + 1].toNat : Int)) = false := decide_eq_false (by omega)
              have jl4 : decide (57 < s[k + 1].toNat) = false := decide_eq_false (by omega)
              have j9 : ((s[k + 1].toNat : Int) == 43) = false := beq_eq_false_iff_ne.2 (by omega)
              have j10 : ((s[k + 1].toNat : Int) == 45) = false := beq_eq_false_iff_ne.2 (by omega)
              go_wp2_with (go_at_call 250; refine (Tryz.internal_strconv_lower _ _).mono ?_; rintro e w' ⟨rfl, hw⟩; rw [hw]; clear hw w')
              go_loopw [5, 9] (fun i e wz => ∃ (q v : Nat), k + 1 ≤ q ∧ q ≤ s.size ∧ v < 10 ^ (q - (k + 1)) ∧ Hid (expVal v (s.data.toList.drop q) = V) ∧ i = .int .i64 (q : Nat) ∧ e = .int .i64 (v : Nat) ∧ wz = wr) (fun i _ _ => s.size - (intOf i).toNat)
              case atStart => exact ⟨k + 1, 0, Nat.le_refl _, by omega, Nat.pow_pos (by omega), HV, by go_num, rfl, rfl⟩
              case round =>
                obtain ⟨q, v, q1, q2, q3, q4, rfl, rfl, hwz⟩ := hrel
                rw [hwz]
                clear hwz
                by_cases q5 : q < s.size
                · obtain ⟨q6, q7⟩ := unhide J3 q q5 q1
                  have q8 := exp_bound v q (k + 1) q3 (by omega)
                  have q10 := hide (exp_step v q (k + 1) s[q].toNat q3 q1 (by omega))
                  have hb2 := byte_lt s[q]
                  have q12 := unhide Hu q q5
                  have q13 : ((s[q].toNat : Int) == 95) = false := by rw [beq_eq_false_iff_ne]; exact q12
                  have q11 : Hid (expVal (v * 10 + (s[q].toNat - 48)) (s.data.toList.drop (q + 1)) = V) := by
                    have h := unhide q4
                    rw [drop_byte s q q5] at h
                    exact h
                  have q14 : (v : Int) < 10000 := by omega
                  clear q3
                  go_wp2_with fail
                  refine ⟨⟨q + 1, v * 10 + (s[q].toNat - 48), by omega, by omega, unhide q10, q11, by go_num, by go_num, trivial⟩, ?_⟩
                  simp [intOf]; omega
                · have q6 : q = s.size := by omega
                  have q11 : v = V := by
                    have h := unhide q4
                    rw [q6, List.drop_of_length_le (by simp)] at h
                    exact h
                  have q12 : v ≤ 9999 := by
                    have : 10 ^ (q - (k + 1)) ≤ 10 ^ 4 := Nat.pow_le_pow_right (by omega) (by omega)
                    omega
                  have q13 : ¬ (q : Int) < (s.size : Int) := by omega
                  have q14 : decide (q < s.size) = false := decide_eq_false (by omega)
                  have q15 : (q : Int) = (s.size : Int) := by omega
                  clear q3
                  go_wp2_with fail
                  go_ret
                  have hRk := unhide HRk
                  have hfin := unhide hFF'
                  have hxx := unhide hxe'
                  have hval : st.dp + (V : Int) = F := by rw [← hfin, hxx]; omega
                  refine ⟨rfl, ?_, (unhide hkp).trans ((Kept.refl _ _).trans (kept_set b 801 _ _))⟩
                  rw [unhide HPP]
                  refine ⟨a, ?_, ?_⟩
                  · rw [hRk, ← hval]
                    exact (unhide DW).setDp _
                  · rw [hRk]; exact (unhide hmem).2
    · have hke : k = s.size := by omega
      have hRk : R = (st, N, []) := by
        have h := unhide hrun
        rw [List.drop_of_length_le (by simp; omega)] at h
        exact h.symm
      have hsg2 : st.sg = true := by have := unhide Hsg; rw [hRk] at this; exact this
      have hx1 : x = 0 := unhide Hx0 (by rw [hRk])
      have hFF : (if st.sd then st.dp else (st.nd : Int)) = F := by have := unhide HF; rw [hRk, hx1, Int.add_zero] at this; exact this
      have hPe : Hid (∀ w', (∃ a', DM w' b a' st.nd F false false ∧ DigsOf a' N st.nd) → PP w') := by
        intro w' h
        rw [unhide HPP, hRk]; exact h
      clear hRk hrun hx1
      subst hke
      cases hsd : st.sd
      · rw [hsd] at hFF
        simp only [Bool.false_eq_true, if_false] at hFF
        have HFF := hide hFF
        clear hFF
        go_wp2_with fail
        go_ret
        refine ⟨rfl, unhide hPe _ ⟨a, ?_, (unhide hmem).2⟩, (unhide hkp).trans (kept_set b 801 _ _)⟩
        rw [← unhide HFF]
        exact (unhide hmem).1.setDp _
      · rw [hsd] at hFF
        simp only [if_true] at hFF
        have HFF := hide hFF
        clear hFF
        go_wp2_with fail
        go_ret
        refine ⟨rfl, unhide hPe _ ⟨a, ?_, (unhide hmem).2⟩, unhide hkp⟩
        rw [← unhide HFF]
        exact (unhide hmem).1
end Go.Proofs.YtgekdmjneogdoaaGreatDoor

namespace Go.Proofs.YtgekdmjneogdoaaGreatDoor
open Go.RowKit

set_option maxRecDepth 100000 in
set_option maxHeartbeats 8000000 in
theorem set_neg (s : ByteArray) (w : World) (b : Nat) (a0 : Nat → Nat) (ng tr0 : Bool) (R : RF × Nat × List UInt8) (x F : Int) (h0 : 1 < s.size) (hm : s.size ≤ 40) (c1 : (s[0].toNat : Int) = 45) (hu : ∀ (i : Nat) (h : i < s.size), (s[i].toNat : Int) ≠ 95)
    (hR : RF.run2 RF.start 0 (s.data.toList.drop 1) = R) (hR2 : R.2.2 = [] ∨ ∃ r, R.2.2 = 101 :: r) (hsg : R.1.sg = true) (hx0 : R.2.2 = [] → x = 0) (hE : ∀ r, R.2.2 = 101 :: r → ∃ es ds, ExpOk r es ds ∧ x = es * (expVal 0 ds : Int)) (hF : (if R.1.sd then R.1.dp else R.1.nd) + x = F) (hM : DM w b a0 0 0 ng tr0) :
    Calls Tryz.prog 280 #[.pointer (some ⟨b, 0, none⟩), .string s] w fun e w' => e = .returned (.bool true) ∧ (∃ a, DM w' b a R.1.nd F true false ∧ DigsOf a R.2.1 R.1.nd) ∧ Kept (But b) w w' := by
  have h43 : ((s[0].toNat : Int) == 43) = false := beq_eq_false_iff_ne.2 (by omega)
  have h45 : ((s[0].toNat : Int) == 45) = true := by rw [beq_iff_eq]; exact c1
  have g3 := hM.neg
  have g4 := hM.tr
  have q3 := hM.fz 802
  have q4 := hM.fz 803
  have he : decide (s = ByteArray.empty) = false := by
    rw [decide_eq_false_iff_not]; intro h; rw [h] at h0; simp at h0
  have he2 : s.size ≠ 0 := by omega
  have he3 : decide (s.size ≤ 0) = false := decide_eq_false (by omega)
  have HR := hide hR
  have HR2 := hide hR2
  have Hu := hide hu
  have Hsg := hide hsg
  have Hx0 := hide hx0
  have HE := hide hE
  have HF := hide hF
  have HM := hide hM
  clear hR hR2 hu hsg hx0 hE hF hM
  obtain ⟨PP, hPP⟩ : ∃ PP : World → Prop, PP = fun w' => ∃ a, DM w' b a R.1.nd F true false ∧ DigsOf a R.2.1 R.1.nd := ⟨_, rfl⟩
  have HPP := hide hPP
  rw [show (fun (e : Ending) (w' : World) => e = Ending.returned (.bool true) ∧ (∃ a, DM w' b a R.1.nd F true false ∧ DigsOf a R.2.1 R.1.nd) ∧ Kept (But b) w w') = (fun e w' => e = .returned (.bool true) ∧ PP w' ∧ Kept (But b) w w') by rw [hPP]]
  clear hPP
  go_enter Tryz.func280, Tryz.ntmps280
  go_wp2_with fail
  go_loopw [5, 6, 7] (fun i sd sg wr => ∃ (st : RF) (N k : Nat) (a : Nat → Nat), 1 ≤ k ∧ k ≤ s.size ∧ i = .int .i64 (k : Nat) ∧ sd = .bool st.sd ∧ sg = .bool st.sg ∧ st.Ok k ∧ Hid (RF.run2 st N (s.data.toList.drop k) = R) ∧ Hid (DM wr b a st.nd st.dp true false ∧ DigsOf a N st.nd) ∧ Hid (Kept (But b) w wr)) (fun i _ _ _ => s.size - (intOf i).toNat)
  case atStart =>
    refine ⟨RF.start, 0, 1, a0, Nat.le_refl _, by omega, rfl, rfl, rfl, RF.start_ok _, HR, ⟨?_, fun i hi => by simp [RF.start] at hi⟩, ?_⟩
    · exact (((unhide HM).setNeg false).setTr false).setNeg true
    · exact ((kept_set b 802 _ w).trans (kept_set b 803 _ _)).trans (kept_set b 802 _ _)
  case round =>
    obtain ⟨st, N, k, a, k0, k1, rfl, rfl, rfl, hok, hrun, hmem, hkp⟩ := hrel
    have b2 := hok.nd
    have b3 := hok.lo
    have b4 := hok.hi
    have m0 := (unhide hmem).1.nd
    have m1 := (unhide hmem).1.dp
    have n0 := (unhide hmem).1.fz 800
    have n1 := (unhide hmem).1.fz 801
    by_cases hlt : k < s.size
    · have hnu := unhide Hu k hlt
      have hdr := hide (drop_byte s k hlt)
      have hb : s[k].toNat < 256 := UInt8.toNat_lt _
      by_cases e1 : (s[k].toNat : Int) = 46
      · cases hsd : st.sd
        · go_wp2_with fail
          refine ⟨⟨{ st with sd := true, dp := st.nd }, N, k + 1, a, by omega, by omega, by go_num, rfl, rfl, hok.dot, ?_, ⟨(unhide hmem).1.setDp _, (unhide hmem).2⟩, (unhide hkp).trans (kept_set b 801 _ _)⟩, ?_⟩
          · have h := unhide hrun
            rw [unhide hdr] at h
            have h2 := RF.run2_go h (RF.step_dot e1 hsd)
            rw [if_pos (by omega)] at h2
            exact h2
          · simp [intOf]; omega
        · exfalso
          have h := unhide hrun
          rw [unhide hdr] at h
          have h2 := RF.run2_stop h (RF.step_dot2 e1 hsd)
          rcases unhide HR2 with q | ⟨r, q⟩
          · rw [h2] at q; cases q
          · rw [h2] at q
            injection q with q _
            rw [q] at e1
            revert e1; decide
      · by_cases e2 : 48 ≤ (s[k].toNat : Int) ∧ (s[k].toNat : Int) ≤ 57
        · obtain ⟨e2, e3⟩ := e2
          have e2' : 48 ≤ s[k].toNat := by omega
          have e3' : s[k].toNat ≤ 57 := by omega
          by_cases ez : s[k].toNat = 48 ∧ st.nd = 0
          · obtain ⟨ez1, ez2⟩ := ez
            have hz : (s[k].toNat : Int) = 48 := by omega
            have m0' : wr.cell? ⟨b, 800, none⟩ = some (.int .i64 0) := by rw [m0, ez2]; rfl
            clear m0
            go_wp2_with fail
            refine ⟨⟨{ st with sg := true, dp := st.dp - 1 }, N * 10, k + 1, a, by omega, by omega, by go_num, rfl, rfl, ?_, ?_, ⟨(unhide hmem).1.setDp _, ?_⟩, (unhide hkp).trans (kept_set b 801 _ _)⟩, ?_⟩
            · have := hok.digit e2' e3'
              rw [ez1, RF.digit_zero ez2] at this
              exact this
            · have h := unhide hrun
              rw [unhide hdr] at h
              have h2 := RF.run2_go h (RF.step_dig e2 e3)
              rw [if_neg (by omega), ez1, RF.digit_zero ez2] at h2
              exact h2
            · intro i hi
              have : i < st.nd := hi
              omega
            · simp [intOf]; omega
          · have hnd8 : (st.nd : Int) < 800 := by omega
            obtain ⟨d1, d2, d3, d4⟩ := RF.digit_more ez
            have co := (unhide hmem).1.dig st.nd (by omega)
            have fo := (unhide hmem).1.fz st.nd
            have hok2 := hide (hok.digit e2' e3')
            have hrun2 : Hid (RF.run2 (st.digit s[k].toNat) (N * 10 + (s[k].toNat - 48)) (s.data.toList.drop (k + 1)) = R) := by
              have h := unhide hrun
              rw [unhide hdr] at h
              have h2 := RF.run2_go h (RF.step_dig e2 e3)
              rw [if_neg (by omega)] at h2
              exact h2
            have HD := hide (And.intro d1 (And.intro d2 (And.intro d3 d4)))
            clear d1 d2 d3 d4
            by_cases ec : s[k].toNat = 48
            · have hz : (s[k].toNat : Int) = 48 := by omega
              have hn0 : ((st.nd : Int) == 0) = false := by rw [beq_eq_false_iff_ne]; omega
              have hn0' : ¬ st.nd = 0 := fun q => ez ⟨ec, q⟩
              clear ez
              go_wp2_with fail
              go_region
              all_goals
                go_wp2_with fail
                obtain ⟨d1, d2, d3, d4⟩ := unhide HD
                have hv : (48 : Int) = ((s[k].toNat : Nat) : Int) := by omega
                refine ⟨⟨st.digit s[k].toNat, N * 10 + (s[k].toNat - 48), k + 1, (fun i => if i = st.nd then s[k].toNat else a i), by omega, by omega, by go_num, by rw [d3], by rw [d4], unhide hok2, hrun2, ⟨?_, ?_⟩, ?_⟩, ?_⟩
                · rw [d1, d2, hv]
                  exact (((unhide hmem).1.setDig st.nd s[k].toNat (by omega)).setNd (st.nd + 1) _ (by omega)).drewN 1
                · rw [d1]
                  exact digs_push (unhide hmem).2 (by omega) _ (by omega)
                · exact (unhide hkp).trans (((kept_set b st.nd _ _).trans (kept_set b 800 _ _)).trans (kdrewN _ 1 _))
                · simp [intOf]; omega
            · have hz : ((s[k].toNat : Int) == 48) = false := by rw [beq_eq_false_iff_ne]; omega
              clear ez
              go_wp2_with fail
              go_region
              all_goals
                go_wp2_with fail
                obtain ⟨d1, d2, d3, d4⟩ := unhide HD
                refine ⟨⟨st.digit s[k].toNat, N * 10 + (s[k].toNat - 48), k + 1, (fun i => if i = st.nd then s[k].toNat else a i), by omega, by omega, by go_num, by rw [d3], by rw [d4], unhide hok2, hrun2, ⟨?_, ?_⟩, ?_⟩, ?_⟩
                · rw [d1, d2]
                  exact (((unhide hmem).1.setDig st.nd s[k].toNat (by omega)).setNd (st.nd + 1) _ (by omega)).drewN 1
                · rw [d1]
                  exact digs_push (unhide hmem).2 (by omega) _ (by omega)
                · exact (unhide hkp).trans (((kept_set b st.nd _ _).trans (kept_set b 800 _ _)).trans (kdrewN _ 1 _))
                · simp [intOf]; omega
        · have hRk : R = (st, N, s.data.toList.drop k) := by
            have h := unhide hrun
            rw [unhide hdr] at h ⊢
            exact RF.run2_stop h (RF.step_no e1 e2)
          have hsg2 : st.sg = true := by have := unhide Hsg; rw [hRk] at this; exact this
          have e4' : s[k] = 101 := by
            rcases unhide HR2 with h | ⟨r, h⟩
            · rw [hRk, drop_byte s k hlt] at h; simp at h
            · rw [hRk, drop_byte s k hlt] at h; simp at h; exact h.1
          have e4 : (s[k].toNat : Int) = 101 := by rw [e4']; rfl
          have h101 : bits BinOp.or IntKind.u8 101 32 = 101 := by decide
          obtain ⟨es, ds, hek, hxe⟩ := unhide HE (s.data.toList.drop (k + 1)) (by rw [hRk, drop_byte s k hlt, e4'])
          obtain ⟨j, j1, j2, j3, j4, jf⟩ := exp_forms s k es ds hek
          obtain ⟨bx1, bx2⟩ := hek.bound hxe
          rw [← j4] at hxe
          obtain ⟨V, hV⟩ : ∃ V, expVal 0 (s.data.toList.drop j) = V := ⟨_, rfl⟩
          rw [hV] at hxe
          have HV := hide hV
          have J3 := hide j3
          have HRk := hide hRk
          have hFF : Hid ((if st.sd then st.dp else (st.nd : Int)) + x = F) := by have := unhide HF; rw [hRk] at this; exact this
          clear j3 j4 hek e4' hV hRk hdr hrun
          cases hsd : st.sd
          · -- no point
            have hFF' : Hid ((st.nd : Int) + x = F) := by have := unhide hFF; rw [hsd] at this; exact this
            rcases jf with ⟨rfl, ⟨jh, j5⟩, rfl⟩ | ⟨rfl, ⟨jh, j5⟩, rfl⟩ | ⟨rfl, rfl⟩
            · have jd := unhide J3 _ j1 (Nat.le_refl _)
              obtain ⟨jd1, jd2⟩ := jd
              have DW := hide ((unhide hmem).1.setDp (st.nd : Int))
              have DWd := (unhide DW).dp
              have DWf := (unhide DW).fz 801
              have hxe' := hide hxe
              clear hxe
              have j6 : (k : Int) + 1 < s.size := by omega
              have jg0 : decide (s.size ≤ k + 1) = false := decide_eq_false (by omega)
              have jg1 : decide ((s.size : Int) ≤ (k : Int) + 1) = false := decide_eq_false (by omega)
              have jg2 : decide (s.size ≤ k + 1 + 1) = false := decide_eq_false (by omega)
              have jg3 : decide ((s.size : Int) ≤ ((k : Int) + 1 + 1)) = false := decide_eq_false (by omega)
              have jl1 : decide ((s[k + 1 + 1].toNat : Int) < 48) = false := decide_eq_false (by omega)
              have jl2 : decide (s[k + 1 + 1].toNat < 48) = false := decide_eq_false (by omega)
              have jl3 : decide ((57 : Int) < (s[k + 1 + 1].toNat : Int)) = false := decide_eq_false (by omega)
              have jl4 : decide (57 < s[k + 1 + 1].toNat) = false := decide_eq_false (by omega)
              have j9 : ((s[k + 1].toNat : Int) == 43) = true := by rw [beq_iff_eq]; exact j5
              go_wp2_with (go_at_call 250; refine (Tryz.internal_strconv_lower _ _).mono ?_; rintro e w' ⟨rfl, hw⟩; rw [hw]; clear hw w')
              go_loopw [5, 9] (fun i e wz => ∃ (q v : Nat), k + 1 + 1 ≤ q ∧ q ≤ s.size ∧ v < 10 ^ (q - (k + 1 + 1)) ∧ Hid (expVal v (s.data.toList.drop q) = V) ∧ i = .int .i64 (q : Nat) ∧ e = .int .i64 (v : Nat) ∧ wz = (wr.setCell ⟨b, 801, none⟩ (.int .i64 (st.nd : Int)))) (fun i _ _ => s.size - (intOf i).toNat)
              case atStart => exact ⟨k + 1 + 1, 0, Nat.le_refl _, by omega, Nat.pow_pos (by omega), HV, by go_num, rfl, rfl⟩
              case round =>
                obtain ⟨q, v, q1, q2, q3, q4, rfl, rfl, hwz⟩ := hrel
                rw [hwz]
                clear hwz
                by_cases q5 : q < s.size
                · obtain ⟨q6, q7⟩ := unhide J3 q q5 q1
                  have q8 := exp_bound v q (k + 1 + 1) q3 (by omega)
                  have q10 := hide (exp_step v q (k + 1 + 1) s[q].toNat q3 q1 (by omega))
                  have hb2 := byte_lt s[q]
                  have q12 := unhide Hu q q5
                  have q13 : ((s[q].toNat : Int) == 95) = false := by rw [beq_eq_false_iff_ne]; exact q12
                  have q11 : Hid (expVal (v * 10 + (s[q].toNat - 48)) (s.data.toList.drop (q + 1)) = V) := by
                    have h := unhide q4
                    rw [drop_byte s q q5] at h
                    exact h
                  have q14 : (v : Int) < 10000 := by omega
                  clear q3
                  go_wp2_with fail
                  refine ⟨⟨q + 1, v * 10 + (s[q].toNat - 48), by omega, by omega, unhide q10, q11, by go_num, by go_num, trivial⟩, ?_⟩
                  simp [intOf]; omega
                · have q6 : q = s.size := by omega
                  have q11 : v = V := by
                    have h := unhide q4
                    rw [q6, List.drop_of_length_le (by simp)] at h
                    exact h
                  have q12 : v ≤ 9999 := by
                    have : 10 ^ (q - (k + 1 + 1)) ≤ 10 ^ 4 := Nat.pow_le_pow_right (by omega) (by omega)
                    omega
                  have q13 : ¬ (q : Int) < (s.size : Int) := by omega
                  have q14 : decide (q < s.size) = false := decide_eq_false (by omega)
                  have q15 : (q : Int) = (s.size : Int) := by omega
                  clear q3
                  go_wp2_with fail
                  go_ret
                  have hRk := unhide HRk
                  have hfin := unhide hFF'
                  have hxx := unhide hxe'
                  have hval : (st.nd : Int) + (V : Int) = F := by rw [← hfin, hxx]; omega
                  refine ⟨rfl, ?_, (unhide hkp).trans ((kept_set b 801 _ _).trans (kept_set b 801 _ _))⟩
                  rw [unhide HPP]
                  refine ⟨a, ?_, ?_⟩
                  · rw [hRk, ← hval]
                    exact (unhide DW).setDp _
                  · rw [hRk]; exact (unhide hmem).2
            · have jd := unhide J3 _ j1 (Nat.le_refl _)
              obtain ⟨jd1, jd2⟩ := jd
              have DW := hide ((unhide hmem).1.setDp (st.nd : Int))
              have DWd := (unhide DW).dp
              have DWf := (unhide DW).fz 801
              have hxe' := hide hxe
              clear hxe
              have j6 : (k : Int) + 1 < s.size := by omega
              have jg0 : decide (s.size ≤ k + 1) = false := decide_eq_false (by omega)
              have jg1 : decide ((s.size : Int) ≤ (k : Int) + 1) = false := decide_eq_false (by omega)
              have jg2 : decide (s.size ≤ k + 1 + 1) = false := decide_eq_false (by omega)
              have jg3 : decide ((s.size : Int) ≤ ((k : Int) + 1 + 1)) = false := decide_eq_false (by omega)
              have jl1 : decide ((s[k + 1 + 1].toNat : Int) < 48) = false := decide_eq_false (by omega)
              have jl2 : decide (s[k + 1 + 1].toNat < 48) = false := decide_eq_false (by omega)
              have jl3 : decide ((57 : Int) < (s[k + 1 + 1].toNat : Int)) = false := decide_eq_false (by omega)
              have jl4 : decide (57 < s[k + 1 + 1].toNat) = false := decide_eq_false (by omega)
              have j9 : ((s[k + 1].toNat : Int) == 43) = false := beq_eq_false_iff_ne.2 (by omega)
              have j10 : ((s[k + 1].toNat : Int) == 45) = true := by rw [beq_iff_eq]; exact j5
              go_wp2_with (go_at_call 250; refine (Tryz.internal_strconv_lower _ _).mono ?_; rintro e w' ⟨rfl, hw⟩; rw [hw]; clear hw w')
              go_loopw [5, 9] (fun i e wz => ∃ (q v : Nat), k + 1 + 1 ≤ q ∧ q ≤ s.size ∧ v < 10 ^ (q - (k + 1 + 1)) ∧ Hid (expVal v (s.data.toList.drop q) = V) ∧ i = .int .i64 (q : Nat) ∧ e = .int .i64 (v : Nat) ∧ wz = (wr.setCell ⟨b, 801, none⟩ (.int .i64 (st.nd : Int)))) (fun i _ _ => s.size - (intOf i).toNat)
              case atStart => exact ⟨k + 1 + 1, 0, Nat.le_refl _, by omega, Nat.pow_pos (by omega), HV, by go_num, rfl, rfl⟩
              case round =>
                obtain ⟨q, v, q1, q2, q3, q4, rfl, rfl, hwz⟩ := hrel
                rw [hwz]
                clear hwz
                by_cases q5 : q < s.size
                · obtain ⟨q6, q7⟩ := unhide J3 q q5 q1
                  have q8 := exp_bound v q (k + 1 + 1) q3 (by omega)
                  have q10 := hide (exp_step v q (k + 1 + 1) s[q].toNat q3 q1 (by omega))
                  have hb2 := byte_lt s[q]
                  have q12 := unhide Hu q q5
                  have q13 : ((s[q].toNat : Int) == 95) = false := by rw [beq_eq_false_iff_ne]; exact q12
                  have q11 : Hid (expVal (v * 10 + (s[q].toNat - 48)) (s.data.toList.drop (q + 1)) = V) := by
                    have h := unhide q4
                    rw [drop_byte s q q5] at h
                    exact h
                  have q14 : (v : Int) < 10000 := by omega
                  clear q3
                  go_wp2_with fail
                  refine ⟨⟨q + 1, v * 10 + (s[q].toNat - 48), by omega, by omega, unhide q10, q11, by go_num, by go_num, trivial⟩, ?_⟩
                  simp [intOf]; omega
                · have q6 : q = s.size := by omega
                  have q11 : v = V := by
                    have h := unhide q4
                    rw [q6, List.drop_of_length_le (by simp)] at h
                    exact h
                  have q12 : v ≤ 9999 := by
                    have : 10 ^ (q - (k + 1 + 1)) ≤ 10 ^ 4 := Nat.pow_le_pow_right (by omega) (by omega)
                    omega
                  have q13 : ¬ (q : Int) < (s.size : Int) := by omega
                  have q14 : decide (q < s.size) = false := decide_eq_false (by omega)
                  have q15 : (q : Int) = (s.size : Int) := by omega
                  clear q3
                  go_wp2_with fail
                  go_ret
                  have hRk := unhide HRk
                  have hfin := unhide hFF'
                  have hxx := unhide hxe'
                  have hval : (st.nd : Int) + -(V : Int) = F := by rw [← hfin, hxx]; omega
                  refine ⟨rfl, ?_, (unhide hkp).trans ((kept_set b 801 _ _).trans (kept_set b 801 _ _))⟩
                  rw [unhide HPP]
                  refine ⟨a, ?_, ?_⟩
                  · rw [hRk, ← hval]
                    exact (unhide DW).setDp _
                  · rw [hRk]; exact (unhide hmem).2
            · have jd := unhide J3 _ j1 (Nat.le_refl _)
              obtain ⟨jd1, jd2⟩ := jd
              have DW := hide ((unhide hmem).1.setDp (st.nd : Int))
              have DWd := (unhide DW).dp
              have DWf := (unhide DW).fz 801
              have hxe' := hide hxe
              clear hxe
              have j6 : (k : Int) + 1 < s.size := by omega
              have jg0 : decide (s.size ≤ k + 1) = false := decide_eq_false (by omega)
              have jg1 : decide ((s.size : Int) ≤ (k : Int) + 1) = false := decide_eq_false (by omega)
              have jg2 : decide (s.size ≤ k + 1) = false := decide_eq_false (by omega)
              have jg3 : decide ((s.size : Int) ≤ ((k : Int) + 1)) = false := decide_eq_false (by omega)
              have jl1 : decide ((s[k + 1].toNat : Int) < 48) = false := decide_eq_false (by omega)
              have jl2 : decide (s[k + 1].toNat < 48) = false := decide_eq_false (by omega)
              have jl3 : decide ((57 : Int) < (s[k + 1].toNat : Int)) = false := decide_eq_false (by omega)
              have jl4 : decide (57 < s[k + 1].toNat) = false := decide_eq_false (by omega)
              have j9 : ((s[k + 1].toNat : Int) == 43) = false := beq_eq_false_iff_ne.2 (by omega)
              have j10 : ((s[k + 1].toNat : Int) == 45) = false := beq_eq_false_iff_ne.2 (by omega)
              go_wp2_with (go_at_call 250; refine (Tryz.internal_strconv_lower _ _).mono ?_; rintro e w' ⟨rfl, hw⟩; rw [hw]; clear hw w')
              go_loopw [5, 9] (fun i e wz => ∃ (q v : Nat), k + 1 ≤ q ∧ q ≤ s.size ∧ v < 10 ^ (q - (k + 1)) ∧ Hid (expVal v (s.data.toList.drop q) = V) ∧ i = .int .i64 (q : Nat) ∧ e = .int .i64 (v : Nat) ∧ wz = (wr.setCell ⟨b, 801, none⟩ (.int .i64 (st.nd : Int)))) (fun i _ _ => s.size - (intOf i).toNat)
              case atStart => exact ⟨k + 1, 0, Nat.le_refl _, by omega, Nat.pow_pos (by omega), HV, by go_num, rfl, rfl⟩
              case round =>
                obtain ⟨q, v, q1, q2, q3, q4, rfl, rfl, hwz⟩ := hrel
                rw [hwz]
                clear hwz
                by_cases q5 : q < s.size
                · obtain ⟨q6, q7⟩ := unhide J3 q q5 q1
                  have q8 := exp_bound v q (k + 1) q3 (by omega)
                  have q10 := hide (exp_step v q (k + 1) s[q].toNat q3 q1 (by omega))
                  have hb2 := byte_lt s[q]
                  have q12 := unhide Hu q q5
                  have q13 : ((s[q].toNat : Int) == 95) = false := by rw [beq_eq_false_iff_ne]; exact q12
                  have q11 : Hid (expVal (v * 10 + (s[q].toNat - 48)) (s.data.toList.drop (q + 1)) = V) := by
                    have h := unhide q4
                    rw [drop_byte s q q5] at h
                    exact h
                  have q14 : (v : Int) < 10000 := by omega
                  clear q3
                  go_wp2_with fail
                  refine ⟨⟨q + 1, v * 10 + (s[q].toNat - 48), by omega, by omega, unhide q10, q11, by go_num, by go_num, trivial⟩, ?_⟩
                  simp [intOf]; omega
                · have q6 : q = s.size := by omega
                  have q11 : v = V := by
                    have h := unhide q4
                    rw [q6, List.drop_of_length_le (by simp)] at h
                    exact h
                  have q12 : v ≤ 9999 := by
                    have : 10 ^ (q - (k + 1)) ≤ 10 ^ 4 := Nat.pow_le_pow_right (by omega) (by omega)
                    omega
                  have q13 : ¬ (q : Int) < (s.size : Int) := by omega
                  have q14 : decide (q < s.size) = false := decide_eq_false (by omega)
                  have q15 : (q : Int) = (s.size : Int) := by omega
                  clear q3
                  go_wp2_with fail
                  go_ret
                  have hRk := unhide HRk
                  have hfin := unhide hFF'
                  have hxx := unhide hxe'
                  have hval : (st.nd : Int) + (V : Int) = F := by rw [← hfin, hxx]; omega
                  refine ⟨rfl, ?_, (unhide hkp).trans ((kept_set b 801 _ _).trans (kept_set b 801 _ _))⟩
                  rw [unhide HPP]
                  refine ⟨a, ?_, ?_⟩
                  · rw [hRk, ← hval]
                    exact (unhide DW).setDp _
                  · rw [hRk]; exact (unhide hmem).2
          · have hFF' : Hid (st.dp + x = F) := by have := unhide hFF; rw [hsd] at this; exact this
            rcases jf with ⟨rfl, ⟨jh, j5⟩, rfl⟩ | ⟨rfl, ⟨jh, j5⟩, rfl⟩ | ⟨rfl, rfl⟩
            · have jd := unhide J3 _ j1 (Nat.le_refl _)
              obtain ⟨jd1, jd2⟩ := jd
              have DW := hide ((unhide hmem).1)
              have DWd := (unhide DW).dp
              have DWf := (unhide DW).fz 801
              have hxe' := hide hxe
              clear hxe
              have j6 : (k : Int) + 1 < s.size := by omega
              have jg0 : decide (s.size ≤ k + 1) = false := decide_eq_false (by omega)
              have jg1 : decide ((s.size : Int) ≤ (k : Int) + 1) = false := decide_eq_false (by omega)
              have jg2 : decide (s.size ≤ k + 1 + 1) = false := decide_eq_false (by omega)
              have jg3 : decide ((s.size : Int) ≤ ((k : Int) + 1 + 1)) = false := decide_eq_false (by omega)
              have jl1 : decide ((s[k + 1 + 1].toNat : Int) < 48) = false := decide_eq_false (by omega)
              have jl2 : decide (s[k + 1 + 1].toNat < 48) = false := decide_eq_false (by omega)
              have jl3 : decide ((57 : Int) < (s[k + 1 + 1].toNat : Int)) = false := decide_eq_false (by omega)
              have jl4 : decide (57 < s[k + 1 + 1].toNat) = false := decide_eq_false (by omega)
              have j9 : ((s[k + 1].toNat : Int) == 43) = true := by rw [beq_iff_eq]; exact j5
              go_wp2_with (go_at_call 250; refine (Tryz.internal_strconv_lower _ _).mono ?_; rintro e w' ⟨rfl, hw⟩; rw [hw]; clear hw w')
              go_loopw [5, 9] (fun i e wz => ∃ (q v : Nat), k + 1 + 1 ≤ q ∧ q ≤ s.size ∧ v < 10 ^ (q - (k + 1 + 1)) ∧ Hid (expVal v (s.data.toList.drop q) = V) ∧ i = .int .i64 (q : Nat) ∧ e = .int .i64 (v : Nat) ∧ wz = wr) (fun i _ _ => s.size - (intOf i).toNat)
              case atStart => exact ⟨k + 1 + 1, 0, Nat.le_refl _, by omega, Nat.pow_pos (by omega), HV, by go_num, rfl, rfl⟩
              case round =>
                obtain ⟨q, v, q1, q2, q3, q4, rfl, rfl, hwz⟩ := hrel
                rw [hwz]
                clear hwz
                by_cases q5 : q < s.size
                · obtain ⟨q6, q7⟩ := unhide J3 q q5 q1
                  have q8 := exp_bound v q (k + 1 + 1) q3 (by omega)
                  have q10 := hide (exp_step v q (k + 1 + 1) s[q].toNat q3 q1 (by omega))
                  have hb2 := byte_lt s[q]
                  have q12 := unhide Hu q q5
                  have q13 : ((s[q].toNat : Int) == 95) = false := by rw [beq_eq_false_iff_ne]; exact q12
                  have q11 : Hid (expVal (v * 10 + (s[q].toNat - 48)) (s.data.toList.drop (q + 1)) = V) := by
                    have h := unhide q4
                    rw [drop_byte s q q5] at h
                    exact h
                  have q14 : (v : Int) < 10000 := by omega
                  clear q3
                  go_wp2_with fail
                  refine ⟨⟨q + 1, v * 10 + (s[q].toNat - 48), by omega, by omega, unhide q10, q11, by go_num, by go_num, trivial⟩, ?_⟩
                  simp [intOf]; omega
                · have q6 : q = s.size := by omega
                  have q11 : v = V := by
                    have h := unhide q4
                    rw [q6, List.drop_of_length_le (by simp)] at h
                    exact h
                  have q12 : v ≤ 9999 := by
                    have : 10 ^ (q - (k + 1 + 1)) ≤ 10 ^ 4 := Nat.pow_le_pow_right (by omega) (by omega)
                    omega
                  have q13 : ¬ (q : Int) < (s.size : Int) := by omega
                  have q14 : decide (q < s.size) = false := decide_eq_false (by omega)
                  have q15 : (q : Int) = (s.size : Int) := by omega
                  clear q3
                  go_wp2_with fail
                  go_ret
                  have hRk := unhide HRk
                  have hfin := unhide hFF'
                  have hxx := unhide hxe'
                  have hval : st.dp + (V : Int) = F := by rw [← hfin, hxx]; omega
                  refine ⟨rfl, ?_, (unhide hkp).trans ((Kept.refl _ _).trans (kept_set b 801 _ _))⟩
                  rw [unhide HPP]
                  refine ⟨a, ?_, ?_⟩
                  · rw [hRk, ← hval]
                    exact (unhide DW).setDp _
                  · rw [hRk]; exact (unhide hmem).2
            · have jd := unhide J3 _ j1 (Nat.le_refl _)
              obtain ⟨jd1, jd2⟩ := jd
              have DW := hide ((unhide hmem).1)
              have DWd := (unhide DW).dp
              have DWf := (unhide DW).fz 801
              have hxe' := hide hxe
              clear hxe
              have j6 : (k : Int) + 1 < s.size := by omega
              have jg0 : decide (s.size ≤ k + 1) = false := decide_eq_false (by omega)
              have jg1 : decide ((s.size : Int) ≤ (k : Int) + 1) = false := decide_eq_false (by omega)
              have jg2 : decide (s.size ≤ k + 1 + 1) = false := decide_eq_false (by omega)
              have jg3 : decide ((s.size : Int) ≤ ((k : Int) + 1 + 1)) = false := decide_eq_false (by omega)
              have jl1 : decide ((s[k + 1 + 1].toNat : Int) < 48) = false := decide_eq_false (by omega)
              have jl2 : decide (s[k + 1 + 1].toNat < 48) = false := decide_eq_false (by omega)
              have jl3 : decide ((57 : Int) < (s[k + 1 + 1].toNat : Int)) = false := decide_eq_false (by omega)
              have jl4 : decide (57 < s[k + 1 + 1].toNat) = false := decide_eq_false (by omega)
              have j9 : ((s[k + 1].toNat : Int) == 43) = false := beq_eq_false_iff_ne.2 (by omega)
              have j10 : ((s[k + 1].toNat : Int) == 45) = true := by rw [beq_iff_eq]; exact j5
              go_wp2_with (go_at_call 250; refine (Tryz.internal_strconv_lower _ _).mono ?_; rintro e w' ⟨rfl, hw⟩; rw [hw]; clear hw w')
              go_loopw [5, 9] (fun i e wz => ∃ (q v : Nat), k + 1 + 1 ≤ q ∧ q ≤ s.size ∧ v < 10 ^ (q - (k + 1 + 1)) ∧ Hid (expVal v (s.data.toList.drop q) = V) ∧ i = .int .i64 (q : Nat) ∧ e = .int .i64 (v : Nat) ∧ wz = wr) (fun i _ _ => s.size - (intOf i).toNat)
              case atStart => exact ⟨k + 1 + 1, 0, Nat.le_refl _, by omega, Nat.pow_pos (by omega), HV, by go_num, rfl, rfl⟩
              case round =>
                obtain ⟨q, v, q1, q2, q3, q4, rfl, rfl, hwz⟩ := hrel
                rw [hwz]
                clear hwz
                by_cases q5 : q < s.size
                · obtain ⟨q6, q7⟩ := unhide J3 q q5 q1
                  have q8 := exp_bound v q (k + 1 + 1) q3 (by omega)
                  have q10 := hide (exp_step v q (k + 1 + 1) s[q].toNat q3 q1 (by omega))
                  have hb2 := byte_lt s[q]
                  have q12 := unhide Hu q q5
                  have q13 : ((s[q].toNat : Int) == 95) = false := by rw [beq_eq_false_iff_ne]; exact q12
                  have q11 : Hid (expVal (v * 10 + (s[q].toNat - 48)) (s.data.toList.drop (q + 1)) = V) := by
                    have h := unhide q4
                    rw [drop_byte s q q5] at h
                    exact h
                  have q14 : (v : Int) < 10000 := by omega
                  clear q3
                  go_wp2_with fail
                  refine ⟨⟨q + 1, v * 10 + (s[q].toNat - 48), by omega, by omega, unhide q10, q11, by go_num, by go_num, trivial⟩, ?_⟩
                  simp [intOf]; omega
                · have q6 : q = s.size := by omega
                  have q11 : v = V := by
                    have h := unhide q4
                    rw [q6, List.drop_of_length_le (by simp)] at h
                    exact h
                  have q12 : v ≤ 9999 := by
                    have : 10 ^ (q - (k + 1 + 1)) ≤ 10 ^ 4 := Nat.pow_le_pow_right (by omega) (by omega)
                    omega
                  have q13 : ¬ (q : Int) < (s.size : Int) := by omega
                  have q14 : decide (q < s.size) = false := decide_eq_false (by omega)
                  have q15 : (q : Int) = (s.size : Int) := by omega
                  clear q3
                  go_wp2_with fail
                  go_ret
                  have hRk := unhide HRk
                  have hfin := unhide hFF'
                  have hxx := unhide hxe'
                  have hval : st.dp + -(V : Int) = F := by rw [← hfin, hxx]; omega
                  refine ⟨rfl, ?_, (unhide hkp).trans ((Kept.refl _ _).trans (kept_set b 801 _ _))⟩
                  rw [unhide HPP]
                  refine ⟨a, ?_, ?_⟩
                  · rw [hRk, ← hval]
                    exact (unhide DW).setDp _
                  · rw [hRk]; exact (unhide hmem).2
            · have jd := unhide J3 _ j1 (Nat.le_refl _)
              obtain ⟨jd1, jd2⟩ := jd
              have DW := hide ((unhide hmem).1)
              have DWd := (unhide DW).dp
              have DWf := (unhide DW).fz 801
              have hxe' := hide hxe
              clear hxe
              have j6 : (k : Int) + 1 < s.size := by omega
              have jg0 : decide (s.size ≤ k + 1) = false := decide_eq_false (by omega)
              have jg1 : decide ((s.size : Int) ≤ (k : Int) + 1) = false := decide_eq_false (by omega)
              have jg2 : decide (s.size ≤ k + 1) = false := decide_eq_false (by omega)
              have jg3 : decide ((s.size : Int) ≤ ((k : Int) + 1)) = false := decide_eq_false (by omega)
              have jl1 : decide ((s[k + 1].toNat : Int) < 48) = false := decide_eq_false (by omega)
              have jl2 : decide (s[k + 1].toNat < 48) = false := decide_eq_false (by omega)
              have jl3 : decide ((57 : Int) < (s[k + 1].toNat : Int)) = false := decide_eq_false (by omega)
              have jl4 : decide (57 < s[k + 1].toNat) = false := decide_eq_false (by omega)
              have j9 : ((s[k + 1].toNat : Int) == 43) = false := beq_eq_false_iff_ne.2 (by omega)
              have j10 : ((s[k + 1].toNat : Int) == 45) = false := beq_eq_false_iff_ne.2 (by omega)
              go_wp2_with (go_at_call 250; refine (Tryz.internal_strconv_lower _ _).mono ?_; rintro e w' ⟨rfl, hw⟩; rw [hw]; clear hw w')
              go_loopw [5, 9] (fun i e wz => ∃ (q v : Nat), k + 1 ≤ q ∧ q ≤ s.size ∧ v < 10 ^ (q - (k + 1)) ∧ Hid (expVal v (s.data.toList.drop q) = V) ∧ i = .int .i64 (q : Nat) ∧ e = .int .i64 (v : Nat) ∧ wz = wr) (fun i _ _ => s.size - (intOf i).toNat)
              case atStart => exact ⟨k + 1, 0, Nat.le_refl _, by omega, Nat.pow_pos (by omega), HV, by go_num, rfl, rfl⟩
              case round =>
                obtain ⟨q, v, q1, q2, q3, q4, rfl, rfl, hwz⟩ := hrel
                rw [hwz]
                clear hwz
                by_cases q5 : q < s.size
                · obtain ⟨q6, q7⟩ := unhide J3 q q5 q1
                  have q8 := exp_bound v q (k + 1) q3 (by omega)
                  have q10 := hide (exp_step v q (k + 1) s[q].toNat q3 q1 (by omega))
                  have hb2 := byte_lt s[q]
                  have q12 := unhide Hu q q5
                  have q13 : ((s[q].toNat : Int) == 95) = false := by rw [beq_eq_false_iff_ne]; exact q12
                  have q11 : Hid (expVal (v * 10 + (s[q].toNat - 48)) (s.data.toList.drop (q + 1)) = V) := by
                    have h := unhide q4
                    rw [drop_byte s q q5] at h
                    exact h
                  have q14 : (v : Int) < 10000 := by omega
                  clear q3
                  go_wp2_with fail
                  refine ⟨⟨q + 1, v * 10 + (s[q].toNat - 48), by omega, by omega, unhide q10, q11, by go_num, by go_num, trivial⟩, ?_⟩
                  simp [intOf]; omega
                · have q6 : q = s.size := by omega
                  have q11 : v = V := by
                    have h := unhide q4
                    rw [q6, List.drop_of_length_le (by simp)] at h
                    exact h
                  have q12 : v ≤ 9999 := by
                    have : 10 ^ (q - (k + 1)) ≤ 10 ^ 4 := Nat.pow_le_pow_right (by omega) (by omega)
                    omega
                  have q13 : ¬ (q : Int) < (s.size : Int) := by omega
                  have q14 : decide (q < s.size) = false := decide_eq_false (by omega)
                  have q15 : (q : Int) = (s.size : Int) := by omega
                  clear q3
                  go_wp2_with fail
                  go_ret
                  have hRk := unhide HRk
                  have hfin := unhide hFF'
                  have hxx := unhide hxe'
                  have hval : st.dp + (V : Int) = F := by rw [← hfin, hxx]; omega
                  refine ⟨rfl, ?_, (unhide hkp).trans ((Kept.refl _ _).trans (kept_set b 801 _ _))⟩
                  rw [unhide HPP]
                  refine ⟨a, ?_, ?_⟩
                  · rw [hRk, ← hval]
                    exact (unhide DW).setDp _
                  · rw [hRk]; exact (unhide hmem).2
    · have hke : k = s.size := by omega
      have hRk : R = (st, N, []) := by
        have h := unhide hrun
        rw [List.drop_of_length_le (by simp; omega)] at h
        exact h.symm
      have hsg2 : st.sg = true := by have := unhide Hsg; rw [hRk] at this; exact this
      have hx1 : x = 0 := unhide Hx0 (by rw [hRk])
      have hFF : (if st.sd then st.dp else (st.nd : Int)) = F := by have := unhide HF; rw [hRk, hx1, Int.add_zero] at this; exact this
      have hPe : Hid (∀ w', (∃ a', DM w' b a' st.nd F true false ∧ DigsOf a' N st.nd) → PP w') := by
        intro w' h
        rw [unhide HPP, hRk]; exact h
      clear hRk hrun hx1
      subst hke
      cases hsd : st.sd
      · rw [hsd] at hFF
        simp only [Bool.false_eq_true, if_false] at hFF
        have HFF := hide hFF
        clear hFF
        go_wp2_with fail
        go_ret
        refine ⟨rfl, unhide hPe _ ⟨a, ?_, (unhide hmem).2⟩, (unhide hkp).trans (kept_set b 801 _ _)⟩
        rw [← unhide HFF]
        exact (unhide hmem).1.setDp _
      · rw [hsd] at hFF
        simp only [if_true] at hFF
        have HFF := hide hFF
        clear hFF
        go_wp2_with fail
        go_ret
        refine ⟨rfl, unhide hPe _ ⟨a, ?_, (unhide hmem).2⟩, unhide hkp⟩
        rw [← unhide HFF]
        exact (unhide hmem).1
end Go.Proofs.YtgekdmjneogdoaaGreatDoor
