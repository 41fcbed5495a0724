import Derived.Test.YtgekdmjneogdoaaGreatDoorXDeD
namespace Go.Proofs.YtgekdmjneogdoaaGreatDoor
open Go.RowKit

set_option maxRecDepth 20000 in
set_option maxHeartbeats 6000000 in
theorem fbits_mid (w : World) (b M N nd0 : Nat) (y : Int) (neg : Bool) (h : DecW w b N nd0 (nd0 + y) neg) (h0 : Num0 M N nd0 y) (hT : SlowT w b) :
    Calls Tryz.prog 281 #[.pointer (some ⟨b, 0, none⟩), .pointer (some ⟨8, 0, none⟩)] w fun e w' => (∃ v : Nat, NearV (N * 10 ^ y.toNat) (10 ^ (-y).toNat) v ∧ e = .returned (.tuple #[.int .u64 (sgn neg + v : Nat), .bool (decide (v = 9218868437227405312))])) ∧ Kept (But b) w w' := by
  obtain ⟨a, hm, _⟩ := h.mem
  have c0 := hm.nd
  have c1 := hm.dp
  have n1 := h0.n1
  have n40 := h0.n40
  have gM := h0.M1
  have d1 := h0.d1
  have d2 := h0.d2
  obtain ⟨dp0, hdp0⟩ : ∃ dp0 : Int, nd0 + y = dp0 := ⟨_, rfl⟩
  have HS : Hid (FB w b M N y neg N nd0 dp0 (0 : Nat)) := by
    rw [← hdp0]
    refine ⟨h, ?_⟩
    rw [show (nd0 : Int) + y - nd0 = y by omega]
    exact Rel.start M N y (by omega)
  rw [hdp0] at c1 d1 d2
  have HT0 := hide hT
  have H0 := hide h0
  have HY := hide hdp0
  clear h hm hT h0
  have hz : ((nd0 : Int) == 0) = false := by rw [beq_eq_false_iff_ne]; omega
  have hn0 : ¬ nd0 = 0 := by omega
  have hd1 : ¬ (310 : Int) < dp0 := by omega
  have hd2 : ¬ dp0 < -330 := by omega
  clear hdp0
  go_enter Tryz.func281, Tryz.ntmps281
  go_wp2_with fail
  refine wp_scope_tails rfl rfl ?_
  go_wp2_with fail
  go_loopw [6] (fun ex wr => ∃ (D nd : Nat) (dp : Int) (s : Nat), ex = .int .i64 (s : Int) ∧ Hid (FB wr b M N y neg D nd dp s ∧ y - s ≤ dp - nd ∧ (dp < 0 → s = 0 ∧ nd = nd0 ∧ dp = dp0)) ∧ Hid (SlowT wr b) ∧ Hid (Kept (But b) w wr)) (fun ex _ => (2000 - intOf ex).toNat)
  case atStart =>
    have hy := unhide HY
    exact ⟨N, nd0, dp0, 0, rfl, ⟨unhide HS, by omega, fun _ => ⟨rfl, rfl, rfl⟩⟩, unhide HT0, Kept.refl _ _⟩
  case round =>
    obtain ⟨D, nd, dp, s, rfl, H1, HT, HK⟩ := hrel
    clear c0 c1 hz hn0 hd1 hd2 HT0 HS
    obtain ⟨f1, f2, f3⟩ := unhide H1
    obtain ⟨a1, m1, _⟩ := f1.dec.mem
    have c1 := m1.dp
    have nd8 := f1.dec.nd8
    have nd1 := f1.dec.nd1
    obtain ⟨u1, u2⟩ := f1.sUp (unhide H0)
    have hy := unhide HY
    clear m1
    by_cases hp : 0 < dp
    · obtain ⟨p, rfl⟩ : ∃ p : Nat, dp = (p : Int) := ⟨dp.toNat, by omega⟩
      obtain ⟨t1, t2, _, _⟩ := pt_ok p
      have HC : Hid (∀ n, Calls Tryz.prog 229 #[.pointer (some ⟨b, 0, none⟩), .int .i64 (-(ptN p : Int))] (wr.drewN n) fun e w' => e = .returned (.tuple #[]) ∧ (∃ (D' nd' p' : Nat), FB w' b M N y neg D' nd' (p' : Int) (s + ptN p : Nat) ∧ y - (s + ptN p : Nat) ≤ (p' : Int) - nd') ∧ Kept (But b) (wr.drewN n) w') := fun n => step_down (f1.drewN n) (unhide H0) (by omega) f2
      obtain ⟨t, ht⟩ : ∃ t, ptN p = t := ⟨_, rfl⟩
      rw [ht] at HC t1 t2
      obtain ⟨B, O, _, p1, p2⟩ := (unhide HT).pow
      have hs : (s : Int) ≤ 1100 := by omega
      have hpos : 0 < p := by omega
      clear f1 f2 f3 hy u1 u2 H1
      by_cases h9 : 9 ≤ p
      · have t27 : t = 27 := by
          rw [← ht]; unfold ptN
          rw [List.getD_eq_getElem?_getD, List.getElem?_eq_none (by simpa using h9)]; rfl
        subst t27
        have h9' : (9 : Int) ≤ (p : Int) := by omega
        clear p2
        go_wp2_with fail
        go_quiet (fail)
        go_wp2_with fail
        refine (unhide HC _).mono ?_
        rintro e w' ⟨rfl, hp', hk'⟩
        have HP := hide hp'
        have HK' := hide hk'
        clear hp' hk'
        go_wp2_with fail
        obtain ⟨D', nd', p', g1, g2⟩ := unhide HP
        refine ⟨⟨D', nd', p', s + 27, by go_num, ⟨g1, g2, fun hh => by omega⟩, ((unhide HT).drewN _).kept (unhide HK'), (unhide HK).trans ((kdrewN _ _ _).trans (unhide HK'))⟩, ?_⟩
        simp [intOf]; omega
      · have pc := p2 p (by omega)
        rw [ht] at pc
        have h9' : ¬ (9 : Int) ≤ (p : Int) := by omega
        have h9'' : ¬ 9 ≤ p := h9
        have hp9 : p < 9 := by omega
        clear p2
        go_wp2_with fail
        go_quiet (fail)
        go_wp2_with fail
        go_quiet (fail)
        go_wp2_with fail
        refine (unhide HC _).mono ?_
        rintro e w' ⟨rfl, hp', hk'⟩
        have HP := hide hp'
        have HK' := hide hk'
        clear hp' hk'
        go_wp2_with fail
        obtain ⟨D', nd', p', g1, g2⟩ := unhide HP
        refine ⟨⟨D', nd', p', s + t, by go_num, ⟨g1, g2, fun hh => by omega⟩, ((unhide HT).drewN _).kept (unhide HK'), (unhide HK).trans ((kdrewN _ _ _).trans (unhide HK'))⟩, ?_⟩
        simp [intOf]; omega
    · have hpn : ¬ (0 : Int) < dp := hp
      have hstart : ∃ q : Nat, dp = -(q : Int) ∧ nd + q ≤ 770 ∧ (dp0 ≤ 0 → nd + q ≤ 370) := by
        refine ⟨(-dp).toNat, by omega, ?_, ?_⟩
        · by_cases hd : dp < 0
          · have := f3 hd; omega
          · omega
        · intro hh
          by_cases hd : dp < 0
          · have := f3 hd; omega
          · omega
      obtain ⟨q0, rfl, hq1, hq2⟩ := hstart
      have HB := hide f1
      have HQ := hide (And.intro hq1 hq2)
      have hs : (s : Int) ≤ 1100 := by omega
      clear f1 f2 f3 hy u1 u2 H1 hq1 hq2 hp
      go_wp2_with fail
      clear hpn c1
      go_loopw [6] (fun ex wv => ∃ (D nd q : Nat) (x : Int), ex = .int .i64 x ∧ -1200 ≤ x ∧ x ≤ 1100 ∧ Hid (FB wv b M N y neg D nd (-(q : Int)) x ∧ nd + q ≤ 770 ∧ (dp0 ≤ 0 → nd + q ≤ 370)) ∧ Hid (SlowT wv b) ∧ Hid (Kept (But b) w wv)) (fun ex _ => (2000 + intOf ex).toNat)
      case atStart => exact ⟨D, nd, q0, (s : Int), rfl, by omega, hs, ⟨unhide HB, (unhide HQ).1, (unhide HQ).2⟩, unhide HT, unhide HK⟩
      case round =>
        clear HB HQ HT HK hs nd8 nd1
        obtain ⟨D, nd, q, x, rfl, x1, x2, H1, HT, HK⟩ := hrel
        obtain ⟨f1, f2, f3⟩ := unhide H1
        have xl := f1.xLow (unhide H0) (by omega)
        have nd1 := f1.dec.nd1
        obtain ⟨a1, m1, _⟩ := f1.dec.mem
        have c1 := m1.dp
        obtain ⟨g, g9, cg, gl, gh⟩ := f1.first
        clear m1
        obtain ⟨t1, t2, _, _⟩ := pt_ok q
        by_cases hq : 1 ≤ q
        · have HC : Hid (∀ n, Calls Tryz.prog 229 #[.pointer (some ⟨b, 0, none⟩), .int .i64 (ptN q : Int)] (wr.drewN n) fun e w' => e = .returned (.tuple #[]) ∧ (∃ (D' nd' q' : Nat), FB w' b M N y neg D' nd' (-(q' : Int)) (x - ptN q) ∧ nd' + q' ≤ nd + q) ∧ Kept (But b) (wr.drewN n) w') := fun n => step_up (f1.drewN n) (unhide H0) ((unhide HT).drewN n).cheat (fun hh => by omega) f2 (by omega) (by omega)
          obtain ⟨t, ht⟩ : ∃ t, ptN q = t := ⟨_, rfl⟩
          rw [ht] at HC t1 t2
          obtain ⟨B, O, _, p1, p2⟩ := (unhide HT).pow
          have F23 := hide (And.intro f2 f3)
          have hneg : -(q : Int) < 0 := by omega
          have hq7 : (q : Int) ≤ 770 := by omega
          clear f1 f2 f3 H1 gl gh cg
          by_cases h9 : 9 ≤ q
          · have t27 : t = 27 := by
              rw [← ht]; unfold ptN
              rw [List.getD_eq_getElem?_getD, List.getElem?_eq_none (by simpa using h9)]; rfl
            subst t27
            have h9' : (9 : Int) ≤ (q : Int) := by omega
            clear p2
            go_wp2_with fail
            go_quiet (fail)
            go_wp2_with fail
            refine (unhide HC _).mono ?_
            rintro e w' ⟨rfl, hp', hk'⟩
            have HP := hide hp'
            have HK' := hide hk'
            clear hp' hk'
            go_wp2_with fail
            obtain ⟨D', nd', q', g1, g2⟩ := unhide HP
            have := (unhide F23).1
            refine ⟨⟨D', nd', q', x - 27, by go_num, by omega, by omega, ⟨g1, by omega, fun hh => by have := (unhide F23).2 hh; omega⟩, ((unhide HT).drewN _).kept (unhide HK'), (unhide HK).trans ((kdrewN _ _ _).trans (unhide HK'))⟩, ?_⟩
            simp [intOf]; omega
          · have pc := p2 q (by omega)
            rw [ht] at pc
            have h9' : ¬ (9 : Int) ≤ (q : Int) := by omega
            have h9'' : ¬ 9 ≤ q := h9
            have hp9 : q < 9 := by omega
            clear p2
            go_wp2_with fail
            go_quiet (fail)
            go_wp2_with fail
            go_quiet (fail)
            go_wp2_with fail
            refine (unhide HC _).mono ?_
            rintro e w' ⟨rfl, hp', hk'⟩
            have HP := hide hp'
            have HK' := hide hk'
            clear hp' hk'
            go_wp2_with fail
            obtain ⟨D', nd', q', g1, g2⟩ := unhide HP
            have := (unhide F23).1
            refine ⟨⟨D', nd', q', x - t, by go_num, by omega, by omega, ⟨g1, by omega, fun hh => by have := (unhide F23).2 hh; omega⟩, ((unhide HT).drewN _).kept (unhide HK'), (unhide HK).trans ((kdrewN _ _ _).trans (unhide HK'))⟩, ?_⟩
            simp [intOf]; omega
        · obtain rfl : q = 0 := by omega
          rw [show -((0 : Nat) : Int) = 0 from rfl] at c1
          by_cases hg : g < 5
          · have HC : Hid (∀ n, Calls Tryz.prog 229 #[.pointer (some ⟨b, 0, none⟩), .int .i64 1] (wr.drewN n) fun e w' => e = .returned (.tuple #[]) ∧ (∃ (D' nd' q' : Nat), FB w' b M N y neg D' nd' (-(q' : Int)) (x - 1) ∧ nd' + q' ≤ nd + 0) ∧ Kept (But b) (wr.drewN n) w') := fun n => step_up (f1.drewN n) (unhide H0) ((unhide HT).drewN n).cheat (fun _ => gl hg) f2 (by omega) (by omega)
            obtain ⟨B, O, _, p1, p2⟩ := (unhide HT).pow
            have pc := p2 0 (by omega)
            rw [show (ptN 0 : Int) = 1 from rfl, Nat.add_zero] at pc
            have F23 := hide (And.intro f2 f3)
            have hg' : (48 + (g : Int)) < 53 := by omega
            clear f1 f2 f3 H1 gl gh p2
            go_wp2_with fail
            go_quiet (fail)
            go_wp2_with fail
            go_quiet (fail)
            go_wp2_with fail
            refine (unhide HC _).mono ?_
            rintro e w' ⟨rfl, hp', hk'⟩
            have HP := hide hp'
            have HK' := hide hk'
            clear hp' hk'
            go_wp2_with fail
            obtain ⟨D', nd', q', g1, g2⟩ := unhide HP
            have := (unhide F23).1
            refine ⟨⟨D', nd', q', x - 1, by go_num, by omega, by omega, ⟨g1, by omega, fun hh => by have := (unhide F23).2 hh; omega⟩, ((unhide HT).drewN _).kept (unhide HK'), (unhide HK).trans ((kdrewN _ _ _).trans (unhide HK'))⟩, ?_⟩
            simp [intOf]; omega
          · have hg' : ¬ (48 + (g : Int)) < 53 := by omega
            have HG := hide (gh (by omega))
            clear H1 gl gh
            have HB := hide f1
            have HQ := hide (And.intro f2 f3)
            clear f1 f2 f3
            have i0 := (unhide HT).mant
            have i1 := (unhide HT).expb
            have i2 := (unhide HT).bias
            by_cases hx : x - 1 < -1022
            · obtain ⟨k, hk⟩ : ∃ k : Nat, (k : Int) = -1021 - x := ⟨(-1021 - x).toNat, by omega⟩
              have hle : dp0 ≤ 0 := by
                rcases Int.lt_or_le 0 dp0 with z | z
                · have := (unhide HB).xPos (unhide H0) (by have := unhide HY; omega) (by omega)
                  omega
                · exact z
              have hk1 : 1 ≤ k := by omega
              have hk2 : k ≤ 120 := by omega
              have HC := hide (sub_fb (unhide HB) k hk1 hk2 gM ((unhide HQ).2 hle))
              rw [show x + (k : Int) = -1021 by omega] at HC
              have ek : -1022 - (x - 1) = (k : Int) := by omega
              have ek2 : x - 1 + (k : Int) = -1022 := by omega
              clear hk
              go_wp2_with fail
              refine (unhide HC).mono ?_
              rintro e w1 ⟨rfl, ⟨D1, nd1', q1, s1, s2, s3⟩, k1⟩
              have HF := hide s1
              have HKW := hide ((unhide HK).trans k1)
              have HTW := hide ((unhide HT).kept k1)
              clear s1 k1 HC i0 i1 i2 cg c1 HK HT HB
              have i0 := (unhide HTW).mant
              have i1 := (unhide HTW).expb
              have i2 := (unhide HTW).bias
              have HL : Hid (∀ n, Calls Tryz.prog 229 #[.pointer (some ⟨b, 0, none⟩), .int .i64 53] (w1.drewN n) _) := fun n => last_fb ((unhide HF).drewN n) gM s2 s3 (by omega) ((unhide HTW).drewN n).cheat
              go_wp2_with fail
              go_quiet (fail)
              go_wp2_with fail
              refine (unhide HL _).mono ?_
              rintro e w2 ⟨rfl, ⟨D2, nd2, dp2, r1, r2, r3, r4, r5⟩, k2⟩
              obtain ⟨a2, m2, dg2⟩ := r1.mem
              have HR := hide (rint_any w2 b D2 nd2 dp2 neg a2 m2 dg2 r1.hi r1.nd8 r4 r5)
              obtain ⟨m, hm⟩ : ∃ m, preN D2 nd2 dp2.toNat + (rndUp D2 nd2 dp2).toNat = m := ⟨_, rfl⟩
              have HN : Hid (NearV (N * 10 ^ y.toNat) (10 ^ (-y).toNat) (min (0 * 4503599627370496 + m) 9218868437227405312)) := (fb_near (F := 0) (by rw [show ((0 : Nat) : Int) - 1074 = -1021 - 53 by omega]; exact r2) hm r1.hi r1.last (by rw [← hm]; exact r3) (fun z => absurd rfl z)).1
              rw [hm] at HR r3
              have c2 := m2.neg
              have HT2 := ((unhide HTW).drewN nq).kept k2
              have j0 := HT2.mant
              have j1 := HT2.expb
              have j2 := HT2.bias
              have HK2 := hide ((unhide HKW).trans ((kdrewN _ _ _).trans k2))
              clear r1 r2 r4 r5 m2 dg2 hm HT2 k2 HL HF HKW HTW i0 i1 i2
              go_wp2_with fail
              refine (unhide HR).mono ?_
              rintro e w3 ⟨rfl, hw3⟩
              rw [hw3]
              clear hw3 HR
              rcases (show m = 9007199254740992 ∨ (4503599627370496 ≤ m ∧ m ≤ 9007199254740991) ∨ m < 4503599627370496 by omega) with hm | hm | hm
              · subst hm
                have hb : bits BinOp.and IntKind.u64 4503599627370496 4503599627370496 = 4503599627370496 := by decide
                obtain ⟨v, hv⟩ : ∃ v, 0 * 4503599627370496 + 9007199254740992 = v := ⟨_, rfl⟩
                have HVV := hide (near_v_of (unhide HN) hv (by omega) (Nat.le_refl _) (fun z => by omega))
                have HV := hide (unhide HVV).1
                have HW := hide (unhide HVV).2
                have Hv := hide hv
                clear HN HVV hv
                go_wp2_with fail
                go_quiet (fail)
                go_wp2_with fail
                go_step3
                refine tails0 ?_
                go_wp2_with fail
                go_quiet (fail)
                cases neg
                · go_wp2_with fail
                  simp only [Exit.noGoto]
                  go_ret2
                  refine ⟨fb_end false _ (v) _ _ _ (unhide HV) (fb_pack_f _ _ (4503599627370496) (0 + 2) _ ?_ ?_ (by omega) (by omega) (pe2 (unhide Hv))) (decide_eq_false (Nat.ne_of_lt (unhide HW))), ?_⟩
                  · first | rfl | omega
                  · omega
                  · first | exact Kept.trans (unhide HK2) (kdrewN _ _ _) | exact kept_more (unhide HK2) _ _
                · go_wp2_with fail
                  go_quiet (fail)
                  go_wp2_with fail
                  simp only [Exit.noGoto]
                  go_ret2
                  refine ⟨fb_end true _ (v) _ _ _ (unhide HV) (fb_pack_t _ _ (4503599627370496) (0 + 2) _ ?_ ?_ (by omega) (by omega) (pe2 (unhide Hv))) (decide_eq_false (Nat.ne_of_lt (unhide HW))), ?_⟩
                  · first | rfl | omega
                  · omega
                  · first | exact Kept.trans (unhide HK2) (kdrewN _ _ _) | exact kept_more (unhide HK2) _ _
              · have hne : ((m : Int) == 9007199254740992) = false := by rw [beq_eq_false_iff_ne]; omega
                have hne' : ¬ m = 9007199254740992 := by omega
                have hb : bits BinOp.and IntKind.u64 (m : Int) 4503599627370496 = 4503599627370496 := by
                  rw [and_bit52 m hm.2, show m / 4503599627370496 = 1 by omega]; rfl
                obtain ⟨v, hv⟩ : ∃ v, 0 * 4503599627370496 + m = v := ⟨_, rfl⟩
                have HVV := hide (near_v_of (unhide HN) hv (by omega) (by omega) (fun _ => hne'))
                have HV := hide (unhide HVV).1
                have HW := hide (unhide HVV).2
                have HH := hide (pe1 hv hm.1 hm.2)
                clear HN HVV hv
                go_wp2_with fail
                go_step3
                refine tails0 ?_
                go_wp2_with fail
                go_quiet (fail)
                cases neg
                · go_wp2_with fail
                  simp only [Exit.noGoto]
                  go_ret2
                  refine ⟨fb_end false _ (v) _ _ _ (unhide HV) (fb_pack_f _ _ (m) (0 + 1) _ ?_ ?_ (by omega) (by omega) (unhide HH)) (decide_eq_false (Nat.ne_of_lt (unhide HW))), ?_⟩
                  · first | rfl | omega
                  · omega
                  · first | exact Kept.trans (unhide HK2) (kdrewN _ _ _) | exact kept_more (unhide HK2) _ _
                · go_wp2_with fail
                  go_quiet (fail)
                  go_wp2_with fail
                  simp only [Exit.noGoto]
                  go_ret2
                  refine ⟨fb_end true _ (v) _ _ _ (unhide HV) (fb_pack_t _ _ (m) (0 + 1) _ ?_ ?_ (by omega) (by omega) (unhide HH)) (decide_eq_false (Nat.ne_of_lt (unhide HW))), ?_⟩
                  · first | rfl | omega
                  · omega
                  · first | exact Kept.trans (unhide HK2) (kdrewN _ _ _) | exact kept_more (unhide HK2) _ _
              · have hne : ((m : Int) == 9007199254740992) = false := by rw [beq_eq_false_iff_ne]; omega
                have hne' : ¬ m = 9007199254740992 := by omega
                have hb : bits BinOp.and IntKind.u64 (m : Int) 4503599627370496 = 0 := by
                  rw [and_bit52 m (by omega), show m / 4503599627370496 = 0 by omega]; rfl
                have HVV := hide (near_v_of (unhide HN) rfl (by omega) (by omega) (fun _ => hne'))
                rw [Nat.zero_mul, Nat.zero_add] at HVV
                have HV := hide (unhide HVV).1
                have HW := hide (unhide HVV).2
                have HH := hide (pe0 hm)
                clear HN HVV
                go_wp2_with fail
                go_step3
                refine tails0 ?_
                go_wp2_with fail
                go_quiet (fail)
                cases neg
                · go_wp2_with fail
                  simp only [Exit.noGoto]
                  go_ret2
                  refine ⟨fb_end false _ (m) _ _ _ (unhide HV) (fb_pack_f _ _ (m) (0) _ ?_ ?_ (by omega) (by omega) (unhide HH)) (decide_eq_false (Nat.ne_of_lt (unhide HW))), ?_⟩
                  · first | rfl | omega
                  · omega
                  · first | exact Kept.trans (unhide HK2) (kdrewN _ _ _) | exact kept_more (unhide HK2) _ _
                · go_wp2_with fail
                  go_quiet (fail)
                  go_wp2_with fail
                  simp only [Exit.noGoto]
                  go_ret2
                  refine ⟨fb_end true _ (m) _ _ _ (unhide HV) (fb_pack_t _ _ (m) (0) _ ?_ ?_ (by omega) (by omega) (unhide HH)) (decide_eq_false (Nat.ne_of_lt (unhide HW))), ?_⟩
                  · first | rfl | omega
                  · omega
                  · first | exact Kept.trans (unhide HK2) (kdrewN _ _ _) | exact kept_more (unhide HK2) _ _
            · obtain ⟨F, hF⟩ : ∃ F : Nat, (F : Int) = x + 1021 := ⟨(x + 1021).toNat, by omega⟩
              have HFull : Hid (9007199254740992 * 2 ^ F * 10 ^ (-y).toNat ≤ N * 10 ^ y.toNat * tw) := by
                have hr := (unhide HB).rel
                rw [show -((0 : Nat) : Int) = 0 from rfl, show x = (F : Int) - 1021 by omega] at hr
                exact fb_full hr (unhide HG)
              by_cases hbig : 2046 ≤ F
              · have HV := hide (fb_inf hbig (unhide HFull))
                have hov : (2047 : Int) ≤ x - 1 + 1023 := by omega
                have c2 : wr.cell? ⟨b, 802, none⟩ = some (.bool neg) := by
                  obtain ⟨a3, m3, _⟩ := (unhide HB).dec.mem
                  exact m3.neg
                clear HB HG HFull H0
                go_wp2_with fail
                go_quiet (fail)
                go_wp2_with fail
                go_step3
                refine tails1 ?_
                go_wp2_with fail
                go_quiet (fail)
                go_wp2_with fail
                go_step3
                go_wp2_with fail
                go_quiet (fail)
                cases neg
                · go_wp2_with fail
                  simp only [Exit.noGoto]
                  go_ret2
                  refine ⟨fb_end false _ (9218868437227405312) _ _ _ (unhide HV) (fb_pack_f _ _ (0) (2047) _ ?_ ?_ (by omega) (by omega) (pe3)) (by decide), ?_⟩
                  · first | rfl | omega
                  · omega
                  · first | exact Kept.trans (unhide HK) (kdrewN _ _ _) | exact kept_more (unhide HK) _ _
                · go_wp2_with fail
                  go_quiet (fail)
                  go_wp2_with fail
                  simp only [Exit.noGoto]
                  go_ret2
                  refine ⟨fb_end true _ (9218868437227405312) _ _ _ (unhide HV) (fb_pack_t _ _ (0) (2047) _ ?_ ?_ (by omega) (by omega) (pe3)) (by decide), ?_⟩
                  · first | rfl | omega
                  · omega
                  · first | exact Kept.trans (unhide HK) (kdrewN _ _ _) | exact kept_more (unhide HK) _ _
              · have hov : ¬ (2047 : Int) ≤ x - 1 + 1023 := by omega
                have hF45 : F ≤ 2045 := by omega
                have HF := hide (unhide HB)
                have hn7 : nd ≤ 780 := by have := (unhide HQ).1; omega
                have HL : Hid (∀ n, Calls Tryz.prog 229 #[.pointer (some ⟨b, 0, none⟩), .int .i64 53] (wr.drewN n) _) := fun n => last_fb ((unhide HF).drewN n) gM hn7 (by omega) (by omega) ((unhide HT).drewN n).cheat
                go_wp2_with fail
                go_quiet (fail)
                go_wp2_with fail
                refine (unhide HL _).mono ?_
                rintro e w2 ⟨rfl, ⟨D2, nd2, dp2, r1, r2, r3, r4, r5⟩, k2⟩
                obtain ⟨a2, m2, dg2⟩ := r1.mem
                have HR := hide (rint_any w2 b D2 nd2 dp2 neg a2 m2 dg2 r1.hi r1.nd8 r4 r5)
                obtain ⟨m, hm⟩ : ∃ m, preN D2 nd2 dp2.toNat + (rndUp D2 nd2 dp2).toNat = m := ⟨_, rfl⟩
                have HNM : Hid (NearV (N * 10 ^ y.toNat) (10 ^ (-y).toNat) (min (F * 4503599627370496 + m) 9218868437227405312) ∧ (F ≠ 0 → 4503599627370496 ≤ m)) := fb_near (F := F) (by rw [show (F : Int) - 1074 = x - 53 by omega]; exact r2) hm r1.hi r1.last (by rw [← hm]; exact r3) (fun _ => unhide HFull)
                have HN := hide (unhide HNM).1
                have HM := hide (unhide HNM).2
                rw [hm] at HR r3
                have c2 := m2.neg
                have HT2 := ((unhide HT).drewN nq).kept k2
                have j0 := HT2.mant
                have j1 := HT2.expb
                have j2 := HT2.bias
                have HK2 := hide ((unhide HK).trans ((kdrewN _ _ _).trans k2))
                clear r1 r2 r4 r5 m2 dg2 hm HT2 k2 HL HF HB HG HFull HT HK HNM i0 i1 i2 c1 cg
                go_wp2_with fail
                refine (unhide HR).mono ?_
                rintro e w3 ⟨rfl, hw3⟩
                rw [hw3]
                clear hw3 HR
                rcases (show m = 9007199254740992 ∨ (4503599627370496 ≤ m ∧ m ≤ 9007199254740991) ∨ m < 4503599627370496 by omega) with hm | hm | hm
                · subst hm
                  have hb : bits BinOp.and IntKind.u64 4503599627370496 4503599627370496 = 4503599627370496 := by decide
                  by_cases hF4 : F = 2045
                  · have HV := hide (near_inf_of (unhide HN) hF4 rfl)
                    have hov2 : (2047 : Int) ≤ x - 1 + 1 + 1023 := by omega
                    have hov3 : (2047 : Int) ≤ x + 1023 := by omega
                    clear HN
                    go_wp2_with fail
                    go_quiet (fail)
                    go_wp2_with fail
                    go_step3
                    refine tails1 ?_
                    go_wp2_with fail
                    go_quiet (fail)
                    go_wp2_with fail
                    go_step3
                    go_wp2_with fail
                    go_quiet (fail)
                    cases neg
                    · go_wp2_with fail
                      simp only [Exit.noGoto]
                      go_ret2
                      refine ⟨fb_end false _ (9218868437227405312) _ _ _ (unhide HV) (fb_pack_f _ _ (0) (2047) _ ?_ ?_ (by omega) (by omega) (pe3)) (by decide), ?_⟩
                      · first | rfl | omega
                      · omega
                      · first | exact Kept.trans (unhide HK2) (kdrewN _ _ _) | exact kept_more (unhide HK2) _ _
                    · go_wp2_with fail
                      go_quiet (fail)
                      go_wp2_with fail
                      simp only [Exit.noGoto]
                      go_ret2
                      refine ⟨fb_end true _ (9218868437227405312) _ _ _ (unhide HV) (fb_pack_t _ _ (0) (2047) _ ?_ ?_ (by omega) (by omega) (pe3)) (by decide), ?_⟩
                      · first | rfl | omega
                      · omega
                      · first | exact Kept.trans (unhide HK2) (kdrewN _ _ _) | exact kept_more (unhide HK2) _ _
                  · obtain ⟨v, hv⟩ : ∃ v, F * 4503599627370496 + 9007199254740992 = v := ⟨_, rfl⟩
                    have HVV := hide (near_v_of (unhide HN) hv hF45 (Nat.le_refl _) (fun z => by omega))
                    have HV := hide (unhide HVV).1
                    have HW := hide (unhide HVV).2
                    have Hv := hide hv
                    have hov2 : ¬ (2047 : Int) ≤ x - 1 + 1 + 1023 := by omega
                    have hov3 : ¬ (2047 : Int) ≤ x + 1023 := by omega
                    clear HN HVV hv
                    go_wp2_with fail
                    go_quiet (fail)
                    go_wp2_with fail
                    go_step3
                    refine tails0 ?_
                    go_wp2_with fail
                    go_quiet (fail)
                    cases neg
                    · go_wp2_with fail
                      simp only [Exit.noGoto]
                      go_ret2
                      refine ⟨fb_end false _ (v) _ _ _ (unhide HV) (fb_pack_f _ _ (4503599627370496) (F + 2) _ ?_ ?_ (by omega) (by omega) (pe2 (unhide Hv))) (decide_eq_false (Nat.ne_of_lt (unhide HW))), ?_⟩
                      · first | rfl | omega
                      · omega
                      · first | exact Kept.trans (unhide HK2) (kdrewN _ _ _) | exact kept_more (unhide HK2) _ _
                    · go_wp2_with fail
                      go_quiet (fail)
                      go_wp2_with fail
                      simp only [Exit.noGoto]
                      go_ret2
                      refine ⟨fb_end true _ (v) _ _ _ (unhide HV) (fb_pack_t _ _ (4503599627370496) (F + 2) _ ?_ ?_ (by omega) (by omega) (pe2 (unhide Hv))) (decide_eq_false (Nat.ne_of_lt (unhide HW))), ?_⟩
                      · first | rfl | omega
                      · omega
                      · first | exact Kept.trans (unhide HK2) (kdrewN _ _ _) | exact kept_more (unhide HK2) _ _
                · have hne : ((m : Int) == 9007199254740992) = false := by rw [beq_eq_false_iff_ne]; omega
                  have hne' : ¬ m = 9007199254740992 := by omega
                  have hb : bits BinOp.and IntKind.u64 (m : Int) 4503599627370496 = 4503599627370496 := by
                    rw [and_bit52 m hm.2, show m / 4503599627370496 = 1 by omega]; rfl
                  obtain ⟨v, hv⟩ : ∃ v, F * 4503599627370496 + m = v := ⟨_, rfl⟩
                  have HVV := hide (near_v_of (unhide HN) hv hF45 (by omega) (fun _ => hne'))
                  have HV := hide (unhide HVV).1
                  have HW := hide (unhide HVV).2
                  have HH := hide (pe1 hv hm.1 hm.2)
                  clear HN HVV hv
                  go_wp2_with fail
                  go_step3
                  refine tails0 ?_
                  go_wp2_with fail
                  go_quiet (fail)
                  cases neg
                  · go_wp2_with fail
                    simp only [Exit.noGoto]
                    go_ret2
                    refine ⟨fb_end false _ (v) _ _ _ (unhide HV) (fb_pack_f _ _ (m) (F + 1) _ ?_ ?_ (by omega) (by omega) (unhide HH)) (decide_eq_false (Nat.ne_of_lt (unhide HW))), ?_⟩
                    · first | rfl | omega
                    · omega
                    · first | exact Kept.trans (unhide HK2) (kdrewN _ _ _) | exact kept_more (unhide HK2) _ _
                  · go_wp2_with fail
                    go_quiet (fail)
                    go_wp2_with fail
                    simp only [Exit.noGoto]
                    go_ret2
                    refine ⟨fb_end true _ (v) _ _ _ (unhide HV) (fb_pack_t _ _ (m) (F + 1) _ ?_ ?_ (by omega) (by omega) (unhide HH)) (decide_eq_false (Nat.ne_of_lt (unhide HW))), ?_⟩
                    · first | rfl | omega
                    · omega
                    · first | exact Kept.trans (unhide HK2) (kdrewN _ _ _) | exact kept_more (unhide HK2) _ _
                · have hne : ((m : Int) == 9007199254740992) = false := by rw [beq_eq_false_iff_ne]; omega
                  have hne' : ¬ m = 9007199254740992 := by omega
                  have hb : bits BinOp.and IntKind.u64 (m : Int) 4503599627370496 = 0 := by
                    rw [and_bit52 m (by omega), show m / 4503599627370496 = 0 by omega]; rfl
                  have hF0 : F = 0 := by
                    rcases Nat.eq_zero_or_pos F with z | z
                    · exact z
                    · have := unhide HM (by omega)
                      omega
                  subst hF0
                  have HVV := hide (near_v_of (unhide HN) rfl (by omega) (by omega) (fun _ => hne'))
                  rw [Nat.zero_mul, Nat.zero_add] at HVV
                  have HV := hide (unhide HVV).1
                  have HW := hide (unhide HVV).2
                  have HH := hide (pe0 hm)
                  clear HN HVV
                  go_wp2_with fail
                  go_step3
                  refine tails0 ?_
                  go_wp2_with fail
                  go_quiet (fail)
                  cases neg
                  · go_wp2_with fail
                    simp only [Exit.noGoto]
                    go_ret2
                    refine ⟨fb_end false _ (m) _ _ _ (unhide HV) (fb_pack_f _ _ (m) (0) _ ?_ ?_ (by omega) (by omega) (unhide HH)) (decide_eq_false (Nat.ne_of_lt (unhide HW))), ?_⟩
                    · first | rfl | omega
                    · omega
                    · first | exact Kept.trans (unhide HK2) (kdrewN _ _ _) | exact kept_more (unhide HK2) _ _
                  · go_wp2_with fail
                    go_quiet (fail)
                    go_wp2_with fail
                    simp only [Exit.noGoto]
                    go_ret2
                    refine ⟨fb_end true _ (m) _ _ _ (unhide HV) (fb_pack_t _ _ (m) (0) _ ?_ ?_ (by omega) (by omega) (unhide HH)) (decide_eq_false (Nat.ne_of_lt (unhide HW))), ?_⟩
                    · first | rfl | omega
                    · omega
                    · first | exact Kept.trans (unhide HK2) (kdrewN _ _ _) | exact kept_more (unhide HK2) _ _
end Go.Proofs.YtgekdmjneogdoaaGreatDoor
