import Derived.Test.YtgekdmjneogdoaaGreatDoorXRn1
namespace Go.Proofs.YtgekdmjneogdoaaGreatDoor
open Go.RowKit

set_option maxRecDepth 20000 in
set_option maxHeartbeats 4000000 in
theorem numeral_pos (s : ByteArray) (w : World) (hs : s.size ≤ 40) (h0 : 0 < s.size) (h45 : ¬ (s[0].toNat : Int) = 45) :
    Calls Tryz.prog 151 #[.string s] w fun e w' => NumPost s w e w' := by
  have TM := hide times_rd
  have hb45 : ((s[0].toNat : Int) == 45) = false := by rw [beq_eq_false_iff_ne]; exact h45
  have SG : Hid (Sg s.data.toList false 0) := Or.inr ⟨rfl, rfl, byte_not (d := 45) h0 h45⟩
  clear h45
  go_enter Tryz.func151, Tryz.ntmps151
  go_wp2_with fail
  go_loopw [6, 8] (fun iv nv wr => ∃ (q N : Nat), 0 ≤ q ∧ q ≤ s.size ∧ iv = .int .i64 (q : Int) ∧ Hid (Ph s.data.toList 0 q 0 N) ∧ Hid (NumB wr w nv N)) (fun iv _ _ => s.size - (intOf iv).toNat)
  case atStart => exact ⟨0, 0, by omega, by omega, rfl, Ph.start _ _ _, rd_nil _, Below.refl _ _⟩
  case round =>
    obtain ⟨q, N, hq1, hq, rfl, P1, NB⟩ := hrel
    by_cases hlt : q < s.size
    · by_cases h1 : 48 ≤ (s[q].toNat : Int) ∧ (s[q].toNat : Int) ≤ 57
      · obtain ⟨h1, h2⟩ := h1
        have PN := hide (Ph.step (unhide P1) (drop_byte s q hlt) (by omega) (by omega))
        have LM : Hid (Lim N) := lim_ph (unhide P1) (by omega) (by omega)
        have ec : (s[q].toNat : Int) - 48 = ((s[q].toNat - 48 : Nat) : Int) := by omega
        generalize s[q].toNat - 48 = c at *
        go_wp2_with fail
        refine (unhide TM _ _ 10 _ _ (unhide NB).1 (unhide LM) (by omega) (by omega)).mono ?_
        rintro e w1 ⟨v1, rfl, hr, hb⟩
        have NB1 : Hid (NumB w1 w v1 (N * 10 + c)) := ⟨hr, (unhide NB).2.trans (hb.mono (unhide NB).2.size)⟩
        clear hr hb
        go_wp2_with fail
        refine ⟨⟨q + 1, _, by omega, by omega, by go_num, PN, NB1⟩, ?_⟩
        simp [intOf]; omega
      · have E1 : Hid (EndD s.data.toList q) := byte_end hlt h1
        by_cases hq0 : q = 0
        · subst hq0
          have FF := hide (pre_noA (unhide SG) (unhide P1) (unhide E1))
          by_cases h2 : 48 ≤ (s[0].toNat : Int)
          · have h3 : ¬ (s[0].toNat : Int) ≤ 57 := fun h => h1 ⟨h2, h⟩
            clear h1
            go_wp2_with fail
            all_goals (try simp only [Exit.inBlock, Exit.then])
            all_goals refine bodyPost_ret (results_tmp4 rfl _ _ _) rfl ?_
            all_goals exact ⟨_, _, _, _, 0, rfl, ⟨rd_nil _, (unhide NB).2⟩, by rw [unhide FF], fun h => by cases h⟩

          · clear h1
            go_wp2_with fail
            all_goals (try simp only [Exit.inBlock, Exit.then])
            all_goals refine bodyPost_ret (results_tmp4 rfl _ _ _) rfl ?_
            all_goals exact ⟨_, _, _, _, 0, rfl, ⟨rd_nil _, (unhide NB).2⟩, by rw [unhide FF], fun h => by cases h⟩

        · have hbf : ((q : Int) == (0 : Int)) = false := by rw [beq_eq_false_iff_ne]; omega
          by_cases h2 : 48 ≤ (s[q].toNat : Int)
          · have h3 : ¬ (s[q].toNat : Int) ≤ 57 := fun h => h1 ⟨h2, h⟩
            clear h1
            have h46 : ¬ (s[q].toNat : Int) = 46 := by omega
            have PR := hide (pre_none (unhide SG) (unhide P1) (unhide E1) hq0 (byte_not (d := 46) hlt h46))
            clear P1 E1 SG
            by_cases h101 : (s[q].toNat : Int) = 101
            · have hl1 := hlt
              have A101 := hide (nbyte_at (d := 101) hl1 h101)
              by_cases g0 : q + 1 < s.size
              · have g0i : (q : Int) + 1 < (s.size : Int) := by omega
                by_cases g45 : (s[q + 1].toNat : Int) = 45
                · have UN : Hid (Un s.data.toList (q + 1) (q + 2) (-1)) := Or.inl ⟨nbyte_at (d := 45) g0 g45, rfl, rfl⟩
                  go_wp2_with fail
                  go_loop [6, 12] (fun iv ev => ∃ (r e : Nat), q + 2 ≤ r ∧ r ≤ q + 2 + 4 ∧ r ≤ s.size ∧ e ≤ 9999 ∧ iv = .int .i64 (r : Int) ∧ ev = .int .i64 (e : Int) ∧ Hid (Ph s.data.toList (q + 2) r 0 e)) (fun iv _ => s.size - (intOf iv).toNat)
                  case atStart => exact ⟨q + 2, 0, by omega, by omega, by omega, by omega, by go_num, rfl, Ph.start _ _ _⟩
                  case round =>
                    obtain ⟨r, e, t1, t2, t3, e9, rfl, rfl, P3⟩ := hrel
                    by_cases k0 : r < s.size
                    · by_cases k4 : r < q + 2 + 4
                      · by_cases k1 : 48 ≤ (s[r].toNat : Int) ∧ (s[r].toNat : Int) ≤ 57
                        · obtain ⟨k1, k2⟩ := k1
                          have PN := hide (Ph.step (unhide P3) (drop_byte s r k0) (by omega) (by omega))
                          have he2 : e * 10 + (s[r].toNat - 48) ≤ 9999 := four_digits (unhide PN) (by omega)
                          go_wp2_with fail
                          go_round
                          case rel => exact ⟨r + 1, _, by omega, by omega, by omega, he2, by go_num, by go_num, PN⟩
                          case measure => simp [intOf]; omega
                        · by_cases k2 : 48 ≤ (s[r].toNat : Int)
                          · have k3 : ¬ (s[r].toNat : Int) ≤ 57 := fun h => k1 ⟨k2, h⟩
                            have E3 : Hid (EndD s.data.toList r) := byte_end k0 k1
                            by_cases ht0 : r = q + 2
                            · have FF : Hid (isDec s.data.toList = false) := by
                                have h := unhide E3
                                rw [ht0] at h
                                exact res_noexp (unhide PR) (unhide A101) (unhide UN) h
                              subst ht0
                              go_wp2_with fail
                              all_goals (try simp only [Exit.inBlock, Exit.then])
                              all_goals refine bodyPost_ret (results_tmp4 rfl _ _ _) rfl ?_
                              all_goals exact ⟨_, _, _, _, 0, rfl, ⟨rd_nil _, (unhide NB).2⟩, by rw [unhide FF], fun h => by cases h⟩

                            · have hb0 : ((r : Int) == ((q + 2 : Nat) : Int)) = false := by rw [beq_eq_false_iff_ne]; omega
                              have RS : Hid (NumRes s.data.toList false N (0 + (-1) * (e : Int)) false) := by
                                have h := res_exp (unhide PR) (unhide A101) (unhide UN) (unhide P3) ht0 (by omega) (by rw [len_s]; omega) (Or.inr (unhide E3))
                                rw [decide_eq_false (by rw [len_s]; omega)] at h
                                exact h
                              have hbq : ((r : Int) == (s.size : Int)) = false := by rw [beq_eq_false_iff_ne]; omega
                              go_wp2_with fail
                              all_goals (try simp only [Exit.inBlock, Exit.then])
                              all_goals refine bodyPost_ret (results_tmp4 rfl _ _ _) rfl ?_
                              all_goals exact ⟨_, _, _, _, _, rfl, unhide NB, (unhide RS).cast (by first | rfl | omega)⟩

                          · skip
                            have E3 : Hid (EndD s.data.toList r) := byte_end k0 k1
                            by_cases ht0 : r = q + 2
                            · have FF : Hid (isDec s.data.toList = false) := by
                                have h := unhide E3
                                rw [ht0] at h
                                exact res_noexp (unhide PR) (unhide A101) (unhide UN) h
                              subst ht0
                              go_wp2_with fail
                              all_goals (try simp only [Exit.inBlock, Exit.then])
                              all_goals refine bodyPost_ret (results_tmp4 rfl _ _ _) rfl ?_
                              all_goals exact ⟨_, _, _, _, 0, rfl, ⟨rd_nil _, (unhide NB).2⟩, by rw [unhide FF], fun h => by cases h⟩

                            · have hb0 : ((r : Int) == ((q + 2 : Nat) : Int)) = false := by rw [beq_eq_false_iff_ne]; omega
                              have RS : Hid (NumRes s.data.toList false N (0 + (-1) * (e : Int)) false) := by
                                have h := res_exp (unhide PR) (unhide A101) (unhide UN) (unhide P3) ht0 (by omega) (by rw [len_s]; omega) (Or.inr (unhide E3))
                                rw [decide_eq_false (by rw [len_s]; omega)] at h
                                exact h
                              have hbq : ((r : Int) == (s.size : Int)) = false := by rw [beq_eq_false_iff_ne]; omega
                              go_wp2_with fail
                              all_goals (try simp only [Exit.inBlock, Exit.then])
                              all_goals refine bodyPost_ret (results_tmp4 rfl _ _ _) rfl ?_
                              all_goals exact ⟨_, _, _, _, _, rfl, unhide NB, (unhide RS).cast (by first | rfl | omega)⟩

                      · have ht0 : ¬ r = q + 2 := by omega
                        have hb0 : ((r : Int) == ((q + 2 : Nat) : Int)) = false := by rw [beq_eq_false_iff_ne]; omega
                        have RS : Hid (NumRes s.data.toList false N (0 + (-1) * (e : Int)) false) := by
                          have h := res_exp (unhide PR) (unhide A101) (unhide UN) (unhide P3) ht0 (by omega) (by rw [len_s]; omega) (Or.inl (by omega))
                          rw [decide_eq_false (by rw [len_s]; omega)] at h
                          exact h
                        have hbq : ((r : Int) == (s.size : Int)) = false := by rw [beq_eq_false_iff_ne]; omega
                        go_wp2_with fail
                        all_goals (try simp only [Exit.inBlock, Exit.then])
                        all_goals refine bodyPost_ret (results_tmp4 rfl _ _ _) rfl ?_
                        all_goals exact ⟨_, _, _, _, _, rfl, unhide NB, (unhide RS).cast (by first | rfl | omega)⟩

                    · skip
                      have E3 : Hid (EndD s.data.toList r) := size_end k0
                      by_cases ht0 : r = q + 2
                      · have FF : Hid (isDec s.data.toList = false) := by
                          have h := unhide E3
                          rw [ht0] at h
                          exact res_noexp (unhide PR) (unhide A101) (unhide UN) h
                        subst ht0
                        go_wp2_with fail
                        all_goals (try simp only [Exit.inBlock, Exit.then])
                        all_goals refine bodyPost_ret (results_tmp4 rfl _ _ _) rfl ?_
                        all_goals exact ⟨_, _, _, _, 0, rfl, ⟨rd_nil _, (unhide NB).2⟩, by rw [unhide FF], fun h => by cases h⟩

                      · have hb0 : ((r : Int) == ((q + 2 : Nat) : Int)) = false := by rw [beq_eq_false_iff_ne]; omega
                        have RS : Hid (NumRes s.data.toList false N (0 + (-1) * (e : Int)) true) := by
                          have h := res_exp (unhide PR) (unhide A101) (unhide UN) (unhide P3) ht0 (by omega) (by rw [len_s]; omega) (Or.inr (unhide E3))
                          rw [decide_eq_true (by rw [len_s]; omega)] at h
                          exact h
                        have hbq : ((r : Int) == (s.size : Int)) = true := by rw [beq_iff_eq]; omega
                        go_wp2_with fail
                        all_goals (try simp only [Exit.inBlock, Exit.then])
                        all_goals refine bodyPost_ret (results_tmp4 rfl _ _ _) rfl ?_
                        all_goals exact ⟨_, _, _, _, _, rfl, unhide NB, (unhide RS).cast (by first | rfl | omega)⟩

                · by_cases g43 : (s[q + 1].toNat : Int) = 43
                  · have UN : Hid (Un s.data.toList (q + 1) (q + 2) 1) := Or.inr (Or.inl ⟨nbyte_at (d := 43) g0 g43, rfl, rfl⟩)
                    have gb45 : ((s[q + 1].toNat : Int) == 45) = false := by rw [beq_eq_false_iff_ne]; exact g45
                    go_wp2_with fail
                    go_loop [6, 12] (fun iv ev => ∃ (r e : Nat), q + 2 ≤ r ∧ r ≤ q + 2 + 4 ∧ r ≤ s.size ∧ e ≤ 9999 ∧ iv = .int .i64 (r : Int) ∧ ev = .int .i64 (e : Int) ∧ Hid (Ph s.data.toList (q + 2) r 0 e)) (fun iv _ => s.size - (intOf iv).toNat)
                    case atStart => exact ⟨q + 2, 0, by omega, by omega, by omega, by omega, by go_num, rfl, Ph.start _ _ _⟩
                    case round =>
                      obtain ⟨r, e, t1, t2, t3, e9, rfl, rfl, P3⟩ := hrel
                      by_cases k0 : r < s.size
                      · by_cases k4 : r < q + 2 + 4
                        · by_cases k1 : 48 ≤ (s[r].toNat : Int) ∧ (s[r].toNat : Int) ≤ 57
                          · obtain ⟨k1, k2⟩ := k1
                            have PN := hide (Ph.step (unhide P3) (drop_byte s r k0) (by omega) (by omega))
                            have he2 : e * 10 + (s[r].toNat - 48) ≤ 9999 := four_digits (unhide PN) (by omega)
                            go_wp2_with fail
                            go_round
                            case rel => exact ⟨r + 1, _, by omega, by omega, by omega, he2, by go_num, by go_num, PN⟩
                            case measure => simp [intOf]; omega
                          · by_cases k2 : 48 ≤ (s[r].toNat : Int)
                            · have k3 : ¬ (s[r].toNat : Int) ≤ 57 := fun h => k1 ⟨k2, h⟩
                              have E3 : Hid (EndD s.data.toList r) := byte_end k0 k1
                              by_cases ht0 : r = q + 2
                              · have FF : Hid (isDec s.data.toList = false) := by
                                  have h := unhide E3
                                  rw [ht0] at h
                                  exact res_noexp (unhide PR) (unhide A101) (unhide UN) h
                                subst ht0
                                go_wp2_with fail
                                all_goals (try simp only [Exit.inBlock, Exit.then])
                                all_goals refine bodyPost_ret (results_tmp4 rfl _ _ _) rfl ?_
                                all_goals exact ⟨_, _, _, _, 0, rfl, ⟨rd_nil _, (unhide NB).2⟩, by rw [unhide FF], fun h => by cases h⟩

                              · have hb0 : ((r : Int) == ((q + 2 : Nat) : Int)) = false := by rw [beq_eq_false_iff_ne]; omega
                                have RS : Hid (NumRes s.data.toList false N (0 + 1 * (e : Int)) false) := by
                                  have h := res_exp (unhide PR) (unhide A101) (unhide UN) (unhide P3) ht0 (by omega) (by rw [len_s]; omega) (Or.inr (unhide E3))
                                  rw [decide_eq_false (by rw [len_s]; omega)] at h
                                  exact h
                                have hbq : ((r : Int) == (s.size : Int)) = false := by rw [beq_eq_false_iff_ne]; omega
                                go_wp2_with fail
                                all_goals (try simp only [Exit.inBlock, Exit.then])
                                all_goals refine bodyPost_ret (results_tmp4 rfl _ _ _) rfl ?_
                                all_goals exact ⟨_, _, _, _, _, rfl, unhide NB, (unhide RS).cast (by first | rfl | omega)⟩

                            · skip
                              have E3 : Hid (EndD s.data.toList r) := byte_end k0 k1
                              by_cases ht0 : r = q + 2
                              · have FF : Hid (isDec s.data.toList = false) := by
                                  have h := unhide E3
                                  rw [ht0] at h
                                  exact res_noexp (unhide PR) (unhide A101) (unhide UN) h
                                subst ht0
                                go_wp2_with fail
                                all_goals (try simp only [Exit.inBlock, Exit.then])
                                all_goals refine bodyPost_ret (results_tmp4 rfl _ _ _) rfl ?_
                                all_goals exact ⟨_, _, _, _, 0, rfl, ⟨rd_nil _, (unhide NB).2⟩, by rw [unhide FF], fun h => by cases h⟩

                              · have hb0 : ((r : Int) == ((q + 2 : Nat) : Int)) = false := by rw [beq_eq_false_iff_ne]; omega
                                have RS : Hid (NumRes s.data.toList false N (0 + 1 * (e : Int)) false) := by
                                  have h := res_exp (unhide PR) (unhide A101) (unhide UN) (unhide P3) ht0 (by omega) (by rw [len_s]; omega) (Or.inr (unhide E3))
                                  rw [decide_eq_false (by rw [len_s]; omega)] at h
                                  exact h
                                have hbq : ((r : Int) == (s.size : Int)) = false := by rw [beq_eq_false_iff_ne]; omega
                                go_wp2_with fail
                                all_goals (try simp only [Exit.inBlock, Exit.then])
                                all_goals refine bodyPost_ret (results_tmp4 rfl _ _ _) rfl ?_
                                all_goals exact ⟨_, _, _, _, _, rfl, unhide NB, (unhide RS).cast (by first | rfl | omega)⟩

                        · have ht0 : ¬ r = q + 2 := by omega
                          have hb0 : ((r : Int) == ((q + 2 : Nat) : Int)) = false := by rw [beq_eq_false_iff_ne]; omega
                          have RS : Hid (NumRes s.data.toList false N (0 + 1 * (e : Int)) false) := by
                            have h := res_exp (unhide PR) (unhide A101) (unhide UN) (unhide P3) ht0 (by omega) (by rw [len_s]; omega) (Or.inl (by omega))
                            rw [decide_eq_false (by rw [len_s]; omega)] at h
                            exact h
                          have hbq : ((r : Int) == (s.size : Int)) = false := by rw [beq_eq_false_iff_ne]; omega
                          go_wp2_with fail
                          all_goals (try simp only [Exit.inBlock, Exit.then])
                          all_goals refine bodyPost_ret (results_tmp4 rfl _ _ _) rfl ?_
                          all_goals exact ⟨_, _, _, _, _, rfl, unhide NB, (unhide RS).cast (by first | rfl | omega)⟩

                      · skip
                        have E3 : Hid (EndD s.data.toList r) := size_end k0
                        by_cases ht0 : r = q + 2
                        · have FF : Hid (isDec s.data.toList = false) := by
                            have h := unhide E3
                            rw [ht0] at h
                            exact res_noexp (unhide PR) (unhide A101) (unhide UN) h
                          subst ht0
                          go_wp2_with fail
                          all_goals (try simp only [Exit.inBlock, Exit.then])
                          all_goals refine bodyPost_ret (results_tmp4 rfl _ _ _) rfl ?_
                          all_goals exact ⟨_, _, _, _, 0, rfl, ⟨rd_nil _, (unhide NB).2⟩, by rw [unhide FF], fun h => by cases h⟩

                        · have hb0 : ((r : Int) == ((q + 2 : Nat) : Int)) = false := by rw [beq_eq_false_iff_ne]; omega
                          have RS : Hid (NumRes s.data.toList false N (0 + 1 * (e : Int)) true) := by
                            have h := res_exp (unhide PR) (unhide A101) (unhide UN) (unhide P3) ht0 (by omega) (by rw [len_s]; omega) (Or.inr (unhide E3))
                            rw [decide_eq_true (by rw [len_s]; omega)] at h
                            exact h
                          have hbq : ((r : Int) == (s.size : Int)) = true := by rw [beq_iff_eq]; omega
                          go_wp2_with fail
                          all_goals (try simp only [Exit.inBlock, Exit.then])
                          all_goals refine bodyPost_ret (results_tmp4 rfl _ _ _) rfl ?_
                          all_goals exact ⟨_, _, _, _, _, rfl, unhide NB, (unhide RS).cast (by first | rfl | omega)⟩

                  · have UN : Hid (Un s.data.toList (q + 1) (q + 1) 1) := Or.inr (Or.inr ⟨rfl, rfl, byte_not (d := 45) g0 g45, byte_not (d := 43) g0 g43⟩)
                    have gb45 : ((s[q + 1].toNat : Int) == 45) = false := by rw [beq_eq_false_iff_ne]; exact g45
                    have gb43 : ((s[q + 1].toNat : Int) == 43) = false := by rw [beq_eq_false_iff_ne]; exact g43
                    clear g45 g43
                    go_wp2_with fail
                    go_loop [6, 12] (fun iv ev => ∃ (r e : Nat), q + 1 ≤ r ∧ r ≤ q + 1 + 4 ∧ r ≤ s.size ∧ e ≤ 9999 ∧ iv = .int .i64 (r : Int) ∧ ev = .int .i64 (e : Int) ∧ Hid (Ph s.data.toList (q + 1) r 0 e)) (fun iv _ => s.size - (intOf iv).toNat)
                    case atStart => exact ⟨q + 1, 0, by omega, by omega, by omega, by omega, by go_num, rfl, Ph.start _ _ _⟩
                    case round =>
                      obtain ⟨r, e, t1, t2, t3, e9, rfl, rfl, P3⟩ := hrel
                      by_cases k0 : r < s.size
                      · by_cases k4 : r < q + 1 + 4
                        · by_cases k1 : 48 ≤ (s[r].toNat : Int) ∧ (s[r].toNat : Int) ≤ 57
                          · obtain ⟨k1, k2⟩ := k1
                            have PN := hide (Ph.step (unhide P3) (drop_byte s r k0) (by omega) (by omega))
                            have he2 : e * 10 + (s[r].toNat - 48) ≤ 9999 := four_digits (unhide PN) (by omega)
                            go_wp2_with fail
                            go_round
                            case rel => exact ⟨r + 1, _, by omega, by omega, by omega, he2, by go_num, by go_num, PN⟩
                            case measure => simp [intOf]; omega
                          · by_cases k2 : 48 ≤ (s[r].toNat : Int)
                            · have k3 : ¬ (s[r].toNat : Int) ≤ 57 := fun h => k1 ⟨k2, h⟩
                              have E3 : Hid (EndD s.data.toList r) := byte_end k0 k1
                              by_cases ht0 : r = q + 1
                              · have FF : Hid (isDec s.data.toList = false) := by
                                  have h := unhide E3
                                  rw [ht0] at h
                                  exact res_noexp (unhide PR) (unhide A101) (unhide UN) h
                                subst ht0
                                go_wp2_with fail
                                all_goals (try simp only [Exit.inBlock, Exit.then])
                                all_goals refine bodyPost_ret (results_tmp4 rfl _ _ _) rfl ?_
                                all_goals exact ⟨_, _, _, _, 0, rfl, ⟨rd_nil _, (unhide NB).2⟩, by rw [unhide FF], fun h => by cases h⟩

                              · have hb0 : ((r : Int) == ((q + 1 : Nat) : Int)) = false := by rw [beq_eq_false_iff_ne]; omega
                                have RS : Hid (NumRes s.data.toList false N (0 + 1 * (e : Int)) false) := by
                                  have h := res_exp (unhide PR) (unhide A101) (unhide UN) (unhide P3) ht0 (by omega) (by rw [len_s]; omega) (Or.inr (unhide E3))
                                  rw [decide_eq_false (by rw [len_s]; omega)] at h
                                  exact h
                                have hbq : ((r : Int) == (s.size : Int)) = false := by rw [beq_eq_false_iff_ne]; omega
                                go_wp2_with fail
                                all_goals (try simp only [Exit.inBlock, Exit.then])
                                all_goals refine bodyPost_ret (results_tmp4 rfl _ _ _) rfl ?_
                                all_goals exact ⟨_, _, _, _, _, rfl, unhide NB, (unhide RS).cast (by first | rfl | omega)⟩

                            · skip
                              have E3 : Hid (EndD s.data.toList r) := byte_end k0 k1
                              by_cases ht0 : r = q + 1
                              · have FF : Hid (isDec s.data.toList = false) := by
                                  have h := unhide E3
                                  rw [ht0] at h
                                  exact res_noexp (unhide PR) (unhide A101) (unhide UN) h
                                subst ht0
                                go_wp2_with fail
                                all_goals (try simp only [Exit.inBlock, Exit.then])
                                all_goals refine bodyPost_ret (results_tmp4 rfl _ _ _) rfl ?_
                                all_goals exact ⟨_, _, _, _, 0, rfl, ⟨rd_nil _, (unhide NB).2⟩, by rw [unhide FF], fun h => by cases h⟩

                              · have hb0 : ((r : Int) == ((q + 1 : Nat) : Int)) = false := by rw [beq_eq_false_iff_ne]; omega
                                have RS : Hid (NumRes s.data.toList false N (0 + 1 * (e : Int)) false) := by
                                  have h := res_exp (unhide PR) (unhide A101) (unhide UN) (unhide P3) ht0 (by omega) (by rw [len_s]; omega) (Or.inr (unhide E3))
                                  rw [decide_eq_false (by rw [len_s]; omega)] at h
                                  exact h
                                have hbq : ((r : Int) == (s.size : Int)) = false := by rw [beq_eq_false_iff_ne]; omega
                                go_wp2_with fail
                                all_goals (try simp only [Exit.inBlock, Exit.then])
                                all_goals refine bodyPost_ret (results_tmp4 rfl _ _ _) rfl ?_
                                all_goals exact ⟨_, _, _, _, _, rfl, unhide NB, (unhide RS).cast (by first | rfl | omega)⟩

                        · have ht0 : ¬ r = q + 1 := by omega
                          have hb0 : ((r : Int) == ((q + 1 : Nat) : Int)) = false := by rw [beq_eq_false_iff_ne]; omega
                          have RS : Hid (NumRes s.data.toList false N (0 + 1 * (e : Int)) false) := by
                            have h := res_exp (unhide PR) (unhide A101) (unhide UN) (unhide P3) ht0 (by omega) (by rw [len_s]; omega) (Or.inl (by omega))
                            rw [decide_eq_false (by rw [len_s]; omega)] at h
                            exact h
                          have hbq : ((r : Int) == (s.size : Int)) = false := by rw [beq_eq_false_iff_ne]; omega
                          go_wp2_with fail
                          all_goals (try simp only [Exit.inBlock, Exit.then])
                          all_goals refine bodyPost_ret (results_tmp4 rfl _ _ _) rfl ?_
                          all_goals exact ⟨_, _, _, _, _, rfl, unhide NB, (unhide RS).cast (by first | rfl | omega)⟩

                      · skip
                        have E3 : Hid (EndD s.data.toList r) := size_end k0
                        by_cases ht0 : r = q + 1
                        · have FF : Hid (isDec s.data.toList = false) := by
                            have h := unhide E3
                            rw [ht0] at h
                            exact res_noexp (unhide PR) (unhide A101) (unhide UN) h
                          subst ht0
                          go_wp2_with fail
                          all_goals (try simp only [Exit.inBlock, Exit.then])
                          all_goals refine bodyPost_ret (results_tmp4 rfl _ _ _) rfl ?_
                          all_goals exact ⟨_, _, _, _, 0, rfl, ⟨rd_nil _, (unhide NB).2⟩, by rw [unhide FF], fun h => by cases h⟩

                        · have hb0 : ((r : Int) == ((q + 1 : Nat) : Int)) = false := by rw [beq_eq_false_iff_ne]; omega
                          have RS : Hid (NumRes s.data.toList false N (0 + 1 * (e : Int)) true) := by
                            have h := res_exp (unhide PR) (unhide A101) (unhide UN) (unhide P3) ht0 (by omega) (by rw [len_s]; omega) (Or.inr (unhide E3))
                            rw [decide_eq_true (by rw [len_s]; omega)] at h
                            exact h
                          have hbq : ((r : Int) == (s.size : Int)) = true := by rw [beq_iff_eq]; omega
                          go_wp2_with fail
                          all_goals (try simp only [Exit.inBlock, Exit.then])
                          all_goals refine bodyPost_ret (results_tmp4 rfl _ _ _) rfl ?_
                          all_goals exact ⟨_, _, _, _, _, rfl, unhide NB, (unhide RS).cast (by first | rfl | omega)⟩

              · have g0i : ¬ (q : Int) + 1 < (s.size : Int) := by omega
                have UN : Hid (Un s.data.toList (q + 1) (q + 1) 1) := Or.inr (Or.inr ⟨rfl, rfl, size_not (d := 45) g0, size_not (d := 43) g0⟩)
                go_wp2_with fail
                go_loop [6, 12] (fun iv ev => iv = .int .i64 ((q + 1 : Nat) : Int) ∧ ev = .int .i64 0) (fun iv _ => s.size - (intOf iv).toNat)
                case atStart => exact ⟨by go_num, rfl⟩
                case round =>
                  obtain ⟨rfl, rfl⟩ := hrel
                  have FF : Hid (isDec s.data.toList = false) := res_noexp (unhide PR) (unhide A101) (unhide UN) (size_end g0)
                  have hqs : s.size = q + 1 := by omega
                  go_wp2_with fail
                  all_goals (try simp only [Exit.inBlock, Exit.then])
                  all_goals refine bodyPost_ret (results_tmp4 rfl _ _ _) rfl ?_
                  all_goals exact ⟨_, _, _, _, 0, rfl, ⟨rd_nil _, (unhide NB).2⟩, by rw [unhide FF], fun h => by cases h⟩

            · skip
              have RS : Hid (NumRes s.data.toList false N 0 false) := by
                have h := res_plain (unhide PR) (by rw [len_s]; omega) (byte_not (d := 101) hlt h101)
                rw [decide_eq_false (by rw [len_s]; omega)] at h
                exact h
              have hbq : ((q : Int) == (s.size : Int)) = false := by rw [beq_eq_false_iff_ne]; omega
              clear PR
              go_wp2_with fail
              all_goals (try simp only [Exit.inBlock, Exit.then])
              all_goals refine bodyPost_ret (results_tmp4 rfl _ _ _) rfl ?_
              all_goals exact ⟨_, _, _, _, _, rfl, unhide NB, (unhide RS).cast (by first | rfl | omega)⟩

          · clear h1
            by_cases h46 : (s[q].toNat : Int) = 46
            · skip
              have A46 := hide (nbyte_at (d := 46) hlt h46)
              go_wp2_with fail
              go_loopw [6, 8, 9] (fun iv nv pv wr => ∃ (t N2 : Nat), q + 1 ≤ t ∧ t ≤ s.size ∧ iv = .int .i64 (t : Int) ∧ pv = .int .i64 (((q : Int) + 1) - (t : Int)) ∧ Hid (Ph s.data.toList (q + 1) t N N2) ∧ Hid (NumB wr w nv N2)) (fun iv _ _ _ => s.size - (intOf iv).toNat)
              case atStart => exact ⟨q + 1, N, by omega, by omega, by go_num, by go_num, Ph.start _ _ _, NB⟩
              case round =>
                obtain ⟨t, N2, t1, t2, rfl, rfl, P2, NB2⟩ := hrel
                by_cases hl1 : t < s.size
                · by_cases k1 : 48 ≤ (s[t].toNat : Int) ∧ (s[t].toNat : Int) ≤ 57
                  · obtain ⟨k1, k2⟩ := k1
                    have PN := hide (Ph.step (unhide P2) (drop_byte s t hl1) (by omega) (by omega))
                    have LM : Hid (Lim N2) := lim_ph2 (unhide P1) (unhide P2) (by omega)
                    have ec : (s[t].toNat : Int) - 48 = ((s[t].toNat - 48 : Nat) : Int) := by omega
                    generalize s[t].toNat - 48 = c at *
                    go_wp2_with fail
                    refine (unhide TM _ _ 10 _ _ (unhide NB2).1 (unhide LM) (by omega) (by omega)).mono ?_
                    rintro e w1 ⟨v1, rfl, hr, hb⟩
                    have NB1 : Hid (NumB w1 w v1 (N2 * 10 + c)) := ⟨hr, (unhide NB2).2.trans (hb.mono (unhide NB2).2.size)⟩
                    clear hr hb
                    go_wp2_with fail
                    refine ⟨⟨t + 1, _, by omega, by omega, by go_num, by go_num, PN, NB1⟩, ?_⟩
                    simp [intOf]; omega
                  · have E2 : Hid (EndD s.data.toList t) := byte_end hl1 k1
                    by_cases ht0 : t = q + 1
                    · by_cases k2 : 48 ≤ (s[t].toNat : Int)
                      · have k3 : ¬ (s[t].toNat : Int) ≤ 57 := fun h => k1 ⟨k2, h⟩
                        clear k1
                        have FF : Hid (isDec s.data.toList = false) := by
                          have h := unhide E2
                          have h2 := unhide P2
                          rw [ht0] at h h2
                          exact pre_noB (unhide SG) (unhide P1) (unhide E1) (unhide A46) h2 h
                        subst ht0
                        go_wp2_with fail
                        all_goals (try simp only [Exit.inBlock, Exit.then])
                        all_goals refine bodyPost_ret (results_tmp4 rfl _ _ _) rfl ?_
                        all_goals exact ⟨_, _, _, _, 0, rfl, ⟨rd_nil _, (unhide NB2).2⟩, by rw [unhide FF], fun h => by cases h⟩

                      · clear k1
                        have FF : Hid (isDec s.data.toList = false) := by
                          have h := unhide E2
                          have h2 := unhide P2
                          rw [ht0] at h h2
                          exact pre_noB (unhide SG) (unhide P1) (unhide E1) (unhide A46) h2 h
                        subst ht0
                        go_wp2_with fail
                        all_goals (try simp only [Exit.inBlock, Exit.then])
                        all_goals refine bodyPost_ret (results_tmp4 rfl _ _ _) rfl ?_
                        all_goals exact ⟨_, _, _, _, 0, rfl, ⟨rd_nil _, (unhide NB2).2⟩, by rw [unhide FF], fun h => by cases h⟩

                    · have PR2 := hide (pre_frac (unhide SG) (unhide P1) (unhide E1) hq0 (unhide A46) (unhide P2) (unhide E2) ht0)
                      have ep : (-((t - (q + 1) : Nat) : Int)) = ((q : Int) + 1) - (t : Int) := by omega
                      rw [ep] at PR2
                      have hb0 : ((t : Int) == ((q + 1 : Nat) : Int)) = false := by rw [beq_eq_false_iff_ne]; omega
                      by_cases k2 : 48 ≤ (s[t].toNat : Int)
                      · have k3 : ¬ (s[t].toNat : Int) ≤ 57 := fun h => k1 ⟨k2, h⟩
                        clear k1 ep
                        by_cases h101 : (s[t].toNat : Int) = 101
                        · clear E1 SG P1 A46 P2 E2
                          have A101 := hide (nbyte_at (d := 101) hl1 h101)
                          by_cases g0 : t + 1 < s.size
                          · have g0i : (t : Int) + 1 < (s.size : Int) := by omega
                            by_cases g45 : (s[t + 1].toNat : Int) = 45
                            · have UN : Hid (Un s.data.toList (t + 1) (t + 2) (-1)) := Or.inl ⟨nbyte_at (d := 45) g0 g45, rfl, rfl⟩
                              go_wp2_with fail
                              go_loop [6, 12] (fun iv ev => ∃ (r e : Nat), t + 2 ≤ r ∧ r ≤ t + 2 + 4 ∧ r ≤ s.size ∧ e ≤ 9999 ∧ iv = .int .i64 (r : Int) ∧ ev = .int .i64 (e : Int) ∧ Hid (Ph s.data.toList (t + 2) r 0 e)) (fun iv _ => s.size - (intOf iv).toNat)
                              case atStart => exact ⟨t + 2, 0, by omega, by omega, by omega, by omega, by go_num, rfl, Ph.start _ _ _⟩
                              case round =>
                                obtain ⟨r, e, t1, t2, t3, e9, rfl, rfl, P3⟩ := hrel
                                by_cases k0 : r < s.size
                                · by_cases k4 : r < t + 2 + 4
                                  · by_cases k1 : 48 ≤ (s[r].toNat : Int) ∧ (s[r].toNat : Int) ≤ 57
                                    · obtain ⟨k1, k2⟩ := k1
                                      have PN := hide (Ph.step (unhide P3) (drop_byte s r k0) (by omega) (by omega))
                                      have he2 : e * 10 + (s[r].toNat - 48) ≤ 9999 := four_digits (unhide PN) (by omega)
                                      go_wp2_with fail
                                      go_round
                                      case rel => exact ⟨r + 1, _, by omega, by omega, by omega, he2, by go_num, by go_num, PN⟩
                                      case measure => simp [intOf]; omega
                                    · by_cases k2 : 48 ≤ (s[r].toNat : Int)
                                      · have k3 : ¬ (s[r].toNat : Int) ≤ 57 := fun h => k1 ⟨k2, h⟩
                                        have E3 : Hid (EndD s.data.toList r) := byte_end k0 k1
                                        by_cases ht0 : r = t + 2
                                        · have FF : Hid (isDec s.data.toList = false) := by
                                            have h := unhide E3
                                            rw [ht0] at h
                                            exact res_noexp (unhide PR2) (unhide A101) (unhide UN) h
                                          subst ht0
                                          go_wp2_with fail
                                          all_goals (try simp only [Exit.inBlock, Exit.then])
                                          all_goals refine bodyPost_ret (results_tmp4 rfl _ _ _) rfl ?_
                                          all_goals exact ⟨_, _, _, _, 0, rfl, ⟨rd_nil _, (unhide NB2).2⟩, by rw [unhide FF], fun h => by cases h⟩

                                        · have hb0 : ((r : Int) == ((t + 2 : Nat) : Int)) = false := by rw [beq_eq_false_iff_ne]; omega
                                          have RS : Hid (NumRes s.data.toList false N2 ((((q : Int) + 1) - (t : Int)) + (-1) * (e : Int)) false) := by
                                            have h := res_exp (unhide PR2) (unhide A101) (unhide UN) (unhide P3) ht0 (by omega) (by rw [len_s]; omega) (Or.inr (unhide E3))
                                            rw [decide_eq_false (by rw [len_s]; omega)] at h
                                            exact h
                                          have hbq : ((r : Int) == (s.size : Int)) = false := by rw [beq_eq_false_iff_ne]; omega
                                          go_wp2_with fail
                                          all_goals (try simp only [Exit.inBlock, Exit.then])
                                          all_goals refine bodyPost_ret (results_tmp4 rfl _ _ _) rfl ?_
                                          all_goals exact ⟨_, _, _, _, _, rfl, unhide NB2, (unhide RS).cast (by first | rfl | omega)⟩

                                      · skip
                                        have E3 : Hid (EndD s.data.toList r) := byte_end k0 k1
                                        by_cases ht0 : r = t + 2
                                        · have FF : Hid (isDec s.data.toList = false) := by
                                            have h := unhide E3
                                            rw [ht0] at h
                                            exact res_noexp (unhide PR2) (unhide A101) (unhide UN) h
                                          subst ht0
                                          go_wp2_with fail
                                          all_goals (try simp only [Exit.inBlock, Exit.then])
                                          all_goals refine bodyPost_ret (results_tmp4 rfl _ _ _) rfl ?_
                                          all_goals exact ⟨_, _, _, _, 0, rfl, ⟨rd_nil _, (unhide NB2).2⟩, by rw [unhide FF], fun h => by cases h⟩

                                        · have hb0 : ((r : Int) == ((t + 2 : Nat) : Int)) = false := by rw [beq_eq_false_iff_ne]; omega
                                          have RS : Hid (NumRes s.data.toList false N2 ((((q : Int) + 1) - (t : Int)) + (-1) * (e : Int)) false) := by
                                            have h := res_exp (unhide PR2) (unhide A101) (unhide UN) (unhide P3) ht0 (by omega) (by rw [len_s]; omega) (Or.inr (unhide E3))
                                            rw [decide_eq_false (by rw [len_s]; omega)] at h
                                            exact h
                                          have hbq : ((r : Int) == (s.size : Int)) = false := by rw [beq_eq_false_iff_ne]; omega
                                          go_wp2_with fail
                                          all_goals (try simp only [Exit.inBlock, Exit.then])
                                          all_goals refine bodyPost_ret (results_tmp4 rfl _ _ _) rfl ?_
                                          all_goals exact ⟨_, _, _, _, _, rfl, unhide NB2, (unhide RS).cast (by first | rfl | omega)⟩

                                  · have ht0 : ¬ r = t + 2 := by omega
                                    have hb0 : ((r : Int) == ((t + 2 : Nat) : Int)) = false := by rw [beq_eq_false_iff_ne]; omega
                                    have RS : Hid (NumRes s.data.toList false N2 ((((q : Int) + 1) - (t : Int)) + (-1) * (e : Int)) false) := by
                                      have h := res_exp (unhide PR2) (unhide A101) (unhide UN) (unhide P3) ht0 (by omega) (by rw [len_s]; omega) (Or.inl (by omega))
                                      rw [decide_eq_false (by rw [len_s]; omega)] at h
                                      exact h
                                    have hbq : ((r : Int) == (s.size : Int)) = false := by rw [beq_eq_false_iff_ne]; omega
                                    go_wp2_with fail
                                    all_goals (try simp only [Exit.inBlock, Exit.then])
                                    all_goals refine bodyPost_ret (results_tmp4 rfl _ _ _) rfl ?_
                                    all_goals exact ⟨_, _, _, _, _, rfl, unhide NB2, (unhide RS).cast (by first | rfl | omega)⟩

                                · skip
                                  have E3 : Hid (EndD s.data.toList r) := size_end k0
                                  by_cases ht0 : r = t + 2
                                  · have FF : Hid (isDec s.data.toList = false) := by
                                      have h := unhide E3
                                      rw [ht0] at h
                                      exact res_noexp (unhide PR2) (unhide A101) (unhide UN) h
                                    subst ht0
                                    go_wp2_with fail
                                    all_goals (try simp only [Exit.inBlock, Exit.then])
                                    all_goals refine bodyPost_ret (results_tmp4 rfl _ _ _) rfl ?_
                                    all_goals exact ⟨_, _, _, _, 0, rfl, ⟨rd_nil _, (unhide NB2).2⟩, by rw [unhide FF], fun h => by cases h⟩

                                  · have hb0 : ((r : Int) == ((t + 2 : Nat) : Int)) = false := by rw [beq_eq_false_iff_ne]; omega
                                    have RS : Hid (NumRes s.data.toList false N2 ((((q : Int) + 1) - (t : Int)) + (-1) * (e : Int)) true) := by
                                      have h := res_exp (unhide PR2) (unhide A101) (unhide UN) (unhide P3) ht0 (by omega) (by rw [len_s]; omega) (Or.inr (unhide E3))
                                      rw [decide_eq_true (by rw [len_s]; omega)] at h
                                      exact h
                                    have hbq : ((r : Int) == (s.size : Int)) = true := by rw [beq_iff_eq]; omega
                                    go_wp2_with fail
                                    all_goals (try simp only [Exit.inBlock, Exit.then])
                                    all_goals refine bodyPost_ret (results_tmp4 rfl _ _ _) rfl ?_
                                    all_goals exact ⟨_, _, _, _, _, rfl, unhide NB2, (unhide RS).cast (by first | rfl | omega)⟩

                            · by_cases g43 : (s[t + 1].toNat : Int) = 43
                              · have UN : Hid (Un s.data.toList (t + 1) (t + 2) 1) := Or.inr (Or.inl ⟨nbyte_at (d := 43) g0 g43, rfl, rfl⟩)
                                have gb45 : ((s[t + 1].toNat : Int) == 45) = false := by rw [beq_eq_false_iff_ne]; exact g45
                                go_wp2_with fail
                                go_loop [6, 12] (fun iv ev => ∃ (r e : Nat), t + 2 ≤ r ∧ r ≤ t + 2 + 4 ∧ r ≤ s.size ∧ e ≤ 9999 ∧ iv = .int .i64 (r : Int) ∧ ev = .int .i64 (e : Int) ∧ Hid (Ph s.data.toList (t + 2) r 0 e)) (fun iv _ => s.size - (intOf iv).toNat)
                                case atStart => exact ⟨t + 2, 0, by omega, by omega, by omega, by omega, by go_num, rfl, Ph.start _ _ _⟩
                                case round =>
                                  obtain ⟨r, e, t1, t2, t3, e9, rfl, rfl, P3⟩ := hrel
                                  by_cases k0 : r < s.size
                                  · by_cases k4 : r < t + 2 + 4
                                    · by_cases k1 : 48 ≤ (s[r].toNat : Int) ∧ (s[r].toNat : Int) ≤ 57
                                      · obtain ⟨k1, k2⟩ := k1
                                        have PN := hide (Ph.step (unhide P3) (drop_byte s r k0) (by omega) (by omega))
                                        have he2 : e * 10 + (s[r].toNat - 48) ≤ 9999 := four_digits (unhide PN) (by omega)
                                        go_wp2_with fail
                                        go_round
                                        case rel => exact ⟨r + 1, _, by omega, by omega, by omega, he2, by go_num, by go_num, PN⟩
                                        case measure => simp [intOf]; omega
                                      · by_cases k2 : 48 ≤ (s[r].toNat : Int)
                                        · have k3 : ¬ (s[r].toNat : Int) ≤ 57 := fun h => k1 ⟨k2, h⟩
                                          have E3 : Hid (EndD s.data.toList r) := byte_end k0 k1
                                          by_cases ht0 : r = t + 2
                                          · have FF : Hid (isDec s.data.toList = false) := by
                                              have h := unhide E3
                                              rw [ht0] at h
                                              exact res_noexp (unhide PR2) (unhide A101) (unhide UN) h
                                            subst ht0
                                            go_wp2_with fail
                                            all_goals (try simp only [Exit.inBlock, Exit.then])
                                            all_goals refine bodyPost_ret (results_tmp4 rfl _ _ _) rfl ?_
                                            all_goals exact ⟨_, _, _, _, 0, rfl, ⟨rd_nil _, (unhide NB2).2⟩, by rw [unhide FF], fun h => by cases h⟩

                                          · have hb0 : ((r : Int) == ((t + 2 : Nat) : Int)) = false := by rw [beq_eq_false_iff_ne]; omega
                                            have RS : Hid (NumRes s.data.toList false N2 ((((q : Int) + 1) - (t : Int)) + 1 * (e : Int)) false) := by
                                              have h := res_exp (unhide PR2) (unhide A101) (unhide UN) (unhide P3) ht0 (by omega) (by rw [len_s]; omega) (Or.inr (unhide E3))
                                              rw [decide_eq_false (by rw [len_s]; omega)] at h
                                              exact h
                                            have hbq : ((r : Int) == (s.size : Int)) = false := by rw [beq_eq_false_iff_ne]; omega
                                            go_wp2_with fail
                                            all_goals (try simp only [Exit.inBlock, Exit.then])
                                            all_goals refine bodyPost_ret (results_tmp4 rfl _ _ _) rfl ?_
                                            all_goals exact ⟨_, _, _, _, _, rfl, unhide NB2, (unhide RS).cast (by first | rfl | omega)⟩

                                        · skip
                                          have E3 : Hid (EndD s.data.toList r) := byte_end k0 k1
                                          by_cases ht0 : r = t + 2
                                          · have FF : Hid (isDec s.data.toList = false) := by
                                              have h := unhide E3
                                              rw [ht0] at h
                                              exact res_noexp (unhide PR2) (unhide A101) (unhide UN) h
                                            subst ht0
                                            go_wp2_with fail
                                            all_goals (try simp only [Exit.inBlock, Exit.then])
                                            all_goals refine bodyPost_ret (results_tmp4 rfl _ _ _) rfl ?_
                                            all_goals exact ⟨_, _, _, _, 0, rfl, ⟨rd_nil _, (unhide NB2).2⟩, by rw [unhide FF], fun h => by cases h⟩

                                          · have hb0 : ((r : Int) == ((t + 2 : Nat) : Int)) = false := by rw [beq_eq_false_iff_ne]; omega
                                            have RS : Hid (NumRes s.data.toList false N2 ((((q : Int) + 1) - (t : Int)) + 1 * (e : Int)) false) := by
                                              have h := res_exp (unhide PR2) (unhide A101) (unhide UN) (unhide P3) ht0 (by omega) (by rw [len_s]; omega) (Or.inr (unhide E3))
                                              rw [decide_eq_false (by rw [len_s]; omega)] at h
                                              exact h
                                            have hbq : ((r : Int) == (s.size : Int)) = false := by rw [beq_eq_false_iff_ne]; omega
                                            go_wp2_with fail
                                            all_goals (try simp only [Exit.inBlock, Exit.then])
                                            all_goals refine bodyPost_ret (results_tmp4 rfl _ _ _) rfl ?_
                                            all_goals exact ⟨_, _, _, _, _, rfl, unhide NB2, (unhide RS).cast (by first | rfl | omega)⟩

                                    · have ht0 : ¬ r = t + 2 := by omega
                                      have hb0 : ((r : Int) == ((t + 2 : Nat) : Int)) = false := by rw [beq_eq_false_iff_ne]; omega
                                      have RS : Hid (NumRes s.data.toList false N2 ((((q : Int) + 1) - (t : Int)) + 1 * (e : Int)) false) := by
                                        have h := res_exp (unhide PR2) (unhide A101) (unhide UN) (unhide P3) ht0 (by omega) (by rw [len_s]; omega) (Or.inl (by omega))
                                        rw [decide_eq_false (by rw [len_s]; omega)] at h
                                        exact h
                                      have hbq : ((r : Int) == (s.size : Int)) = false := by rw [beq_eq_false_iff_ne]; omega
                                      go_wp2_with fail
                                      all_goals (try simp only [Exit.inBlock, Exit.then])
                                      all_goals refine bodyPost_ret (results_tmp4 rfl _ _ _) rfl ?_
                                      all_goals exact ⟨_, _, _, _, _, rfl, unhide NB2, (unhide RS).cast (by first | rfl | omega)⟩

                                  · skip
                                    have E3 : Hid (EndD s.data.toList r) := size_end k0
                                    by_cases ht0 : r = t + 2
                                    · have FF : Hid (isDec s.data.toList = false) := by
                                        have h := unhide E3
                                        rw [ht0] at h
                                        exact res_noexp (unhide PR2) (unhide A101) (unhide UN) h
                                      subst ht0
                                      go_wp2_with fail
                                      all_goals (try simp only [Exit.inBlock, Exit.then])
                                      all_goals refine bodyPost_ret (results_tmp4 rfl _ _ _) rfl ?_
                                      all_goals exact ⟨_, _, _, _, 0, rfl, ⟨rd_nil _, (unhide NB2).2⟩, by rw [unhide FF], fun h => by cases h⟩

                                    · have hb0 : ((r : Int) == ((t + 2 : Nat) : Int)) = false := by rw [beq_eq_false_iff_ne]; omega
                                      have RS : Hid (NumRes s.data.toList false N2 ((((q : Int) + 1) - (t : Int)) + 1 * (e : Int)) true) := by
                                        have h := res_exp (unhide PR2) (unhide A101) (unhide UN) (unhide P3) ht0 (by omega) (by rw [len_s]; omega) (Or.inr (unhide E3))
                                        rw [decide_eq_true (by rw [len_s]; omega)] at h
                                        exact h
                                      have hbq : ((r : Int) == (s.size : Int)) = true := by rw [beq_iff_eq]; omega
                                      go_wp2_with fail
                                      all_goals (try simp only [Exit.inBlock, Exit.then])
                                      all_goals refine bodyPost_ret (results_tmp4 rfl _ _ _) rfl ?_
                                      all_goals exact ⟨_, _, _, _, _, rfl, unhide NB2, (unhide RS).cast (by first | rfl | omega)⟩

                              · have UN : Hid (Un s.data.toList (t + 1) (t + 1) 1) := Or.inr (Or.inr ⟨rfl, rfl, byte_not (d := 45) g0 g45, byte_not (d := 43) g0 g43⟩)
                                have gb45 : ((s[t + 1].toNat : Int) == 45) = false := by rw [beq_eq_false_iff_ne]; exact g45
                                have gb43 : ((s[t + 1].toNat : Int) == 43) = false := by rw [beq_eq_false_iff_ne]; exact g43
                                clear g45 g43
                                go_wp2_with fail
                                go_loop [6, 12] (fun iv ev => ∃ (r e : Nat), t + 1 ≤ r ∧ r ≤ t + 1 + 4 ∧ r ≤ s.size ∧ e ≤ 9999 ∧ iv = .int .i64 (r : Int) ∧ ev = .int .i64 (e : Int) ∧ Hid (Ph s.data.toList (t + 1) r 0 e)) (fun iv _ => s.size - (intOf iv).toNat)
                                case atStart => exact ⟨t + 1, 0, by omega, by omega, by omega, by omega, by go_num, rfl, Ph.start _ _ _⟩
                                case round =>
                                  obtain ⟨r, e, t1, t2, t3, e9, rfl, rfl, P3⟩ := hrel
                                  by_cases k0 : r < s.size
                                  · by_cases k4 : r < t + 1 + 4
                                    · by_cases k1 : 48 ≤ (s[r].toNat : Int) ∧ (s[r].toNat : Int) ≤ 57
                                      · obtain ⟨k1, k2⟩ := k1
                                        have PN := hide (Ph.step (unhide P3) (drop_byte s r k0) (by omega) (by omega))
                                        have he2 : e * 10 + (s[r].toNat - 48) ≤ 9999 := four_digits (unhide PN) (by omega)
                                        go_wp2_with fail
                                        go_round
                                        case rel => exact ⟨r + 1, _, by omega, by omega, by omega, he2, by go_num, by go_num, PN⟩
                                        case measure => simp [intOf]; omega
                                      · by_cases k2 : 48 ≤ (s[r].toNat : Int)
                                        · have k3 : ¬ (s[r].toNat : Int) ≤ 57 := fun h => k1 ⟨k2, h⟩
                                          have E3 : Hid (EndD s.data.toList r) := byte_end k0 k1
                                          by_cases ht0 : r = t + 1
                                          · have FF : Hid (isDec s.data.toList = false) := by
                                              have h := unhide E3
                                              rw [ht0] at h
                                              exact res_noexp (unhide PR2) (unhide A101) (unhide UN) h
                                            subst ht0
                                            go_wp2_with fail
                                            all_goals (try simp only [Exit.inBlock, Exit.then])
                                            all_goals refine bodyPost_ret (results_tmp4 rfl _ _ _) rfl ?_
                                            all_goals exact ⟨_, _, _, _, 0, rfl, ⟨rd_nil _, (unhide NB2).2⟩, by rw [unhide FF], fun h => by cases h⟩

                                          · have hb0 : ((r : Int) == ((t + 1 : Nat) : Int)) = false := by rw [beq_eq_false_iff_ne]; omega
                                            have RS : Hid (NumRes s.data.toList false N2 ((((q : Int) + 1) - (t : Int)) + 1 * (e : Int)) false) := by
                                              have h := res_exp (unhide PR2) (unhide A101) (unhide UN) (unhide P3) ht0 (by omega) (by rw [len_s]; omega) (Or.inr (unhide E3))
                                              rw [decide_eq_false (by rw [len_s]; omega)] at h
                                              exact h
                                            have hbq : ((r : Int) == (s.size : Int)) = false := by rw [beq_eq_false_iff_ne]; omega
                                            go_wp2_with fail
                                            all_goals (try simp only [Exit.inBlock, Exit.then])
                                            all_goals refine bodyPost_ret (results_tmp4 rfl _ _ _) rfl ?_
                                            all_goals exact ⟨_, _, _, _, _, rfl, unhide NB2, (unhide RS).cast (by first | rfl | omega)⟩

                                        · skip
                                          have E3 : Hid (EndD s.data.toList r) := byte_end k0 k1
                                          by_cases ht0 : r = t + 1
                                          · have FF : Hid (isDec s.data.toList = false) := by
                                              have h := unhide E3
                                              rw [ht0] at h
                                              exact res_noexp (unhide PR2) (unhide A101) (unhide UN) h
                                            subst ht0
                                            go_wp2_with fail
                                            all_goals (try simp only [Exit.inBlock, Exit.then])
                                            all_goals refine bodyPost_ret (results_tmp4 rfl _ _ _) rfl ?_
                                            all_goals exact ⟨_, _, _, _, 0, rfl, ⟨rd_nil _, (unhide NB2).2⟩, by rw [unhide FF], fun h => by cases h⟩

                                          · have hb0 : ((r : Int) == ((t + 1 : Nat) : Int)) = false := by rw [beq_eq_false_iff_ne]; omega
                                            have RS : Hid (NumRes s.data.toList false N2 ((((q : Int) + 1) - (t : Int)) + 1 * (e : Int)) false) := by
                                              have h := res_exp (unhide PR2) (unhide A101) (unhide UN) (unhide P3) ht0 (by omega) (by rw [len_s]; omega) (Or.inr (unhide E3))
                                              rw [decide_eq_false (by rw [len_s]; omega)] at h
                                              exact h
                                            have hbq : ((r : Int) == (s.size : Int)) = false := by rw [beq_eq_false_iff_ne]; omega
                                            go_wp2_with fail
                                            all_goals (try simp only [Exit.inBlock, Exit.then])
                                            all_goals refine bodyPost_ret (results_tmp4 rfl _ _ _) rfl ?_
                                            all_goals exact ⟨_, _, _, _, _, rfl, unhide NB2, (unhide RS).cast (by first | rfl | omega)⟩

                                    · have ht0 : ¬ r = t + 1 := by omega
                                      have hb0 : ((r : Int) == ((t + 1 : Nat) : Int)) = false := by rw [beq_eq_false_iff_ne]; omega
                                      have RS : Hid (NumRes s.data.toList false N2 ((((q : Int) + 1) - (t : Int)) + 1 * (e : Int)) false) := by
                                        have h := res_exp (unhide PR2) (unhide A101) (unhide UN) (unhide P3) ht0 (by omega) (by rw [len_s]; omega) (Or.inl (by omega))
                                        rw [decide_eq_false (by rw [len_s]; omega)] at h
                                        exact h
                                      have hbq : ((r : Int) == (s.size : Int)) = false := by rw [beq_eq_false_iff_ne]; omega
                                      go_wp2_with fail
                                      all_goals (try simp only [Exit.inBlock, Exit.then])
                                      all_goals refine bodyPost_ret (results_tmp4 rfl _ _ _) rfl ?_
                                      all_goals exact ⟨_, _, _, _, _, rfl, unhide NB2, (unhide RS).cast (by first | rfl | omega)⟩

                                  · skip
                                    have E3 : Hid (EndD s.data.toList r) := size_end k0
                                    by_cases ht0 : r = t + 1
                                    · have FF : Hid (isDec s.data.toList = false) := by
                                        have h := unhide E3
                                        rw [ht0] at h
                                        exact res_noexp (unhide PR2) (unhide A101) (unhide UN) h
                                      subst ht0
                                      go_wp2_with fail
                                      all_goals (try simp only [Exit.inBlock, Exit.then])
                                      all_goals refine bodyPost_ret (results_tmp4 rfl _ _ _) rfl ?_
                                      all_goals exact ⟨_, _, _, _, 0, rfl, ⟨rd_nil _, (unhide NB2).2⟩, by rw [unhide FF], fun h => by cases h⟩

                                    · have hb0 : ((r : Int) == ((t + 1 : Nat) : Int)) = false := by rw [beq_eq_false_iff_ne]; omega
                                      have RS : Hid (NumRes s.data.toList false N2 ((((q : Int) + 1) - (t : Int)) + 1 * (e : Int)) true) := by
                                        have h := res_exp (unhide PR2) (unhide A101) (unhide UN) (unhide P3) ht0 (by omega) (by rw [len_s]; omega) (Or.inr (unhide E3))
                                        rw [decide_eq_true (by rw [len_s]; omega)] at h
                                        exact h
                                      have hbq : ((r : Int) == (s.size : Int)) = true := by rw [beq_iff_eq]; omega
                                      go_wp2_with fail
                                      all_goals (try simp only [Exit.inBlock, Exit.then])
                                      all_goals refine bodyPost_ret (results_tmp4 rfl _ _ _) rfl ?_
                                      all_goals exact ⟨_, _, _, _, _, rfl, unhide NB2, (unhide RS).cast (by first | rfl | omega)⟩

                          · have g0i : ¬ (t : Int) + 1 < (s.size : Int) := by omega
                            have UN : Hid (Un s.data.toList (t + 1) (t + 1) 1) := Or.inr (Or.inr ⟨rfl, rfl, size_not (d := 45) g0, size_not (d := 43) g0⟩)
                            go_wp2_with fail
                            go_loop [6, 12] (fun iv ev => iv = .int .i64 ((t + 1 : Nat) : Int) ∧ ev = .int .i64 0) (fun iv _ => s.size - (intOf iv).toNat)
                            case atStart => exact ⟨by go_num, rfl⟩
                            case round =>
                              obtain ⟨rfl, rfl⟩ := hrel
                              have FF : Hid (isDec s.data.toList = false) := res_noexp (unhide PR2) (unhide A101) (unhide UN) (size_end g0)
                              have hqs : s.size = t + 1 := by omega
                              go_wp2_with fail
                              all_goals (try simp only [Exit.inBlock, Exit.then])
                              all_goals refine bodyPost_ret (results_tmp4 rfl _ _ _) rfl ?_
                              all_goals exact ⟨_, _, _, _, 0, rfl, ⟨rd_nil _, (unhide NB2).2⟩, by rw [unhide FF], fun h => by cases h⟩

                        · skip
                          have RS : Hid (NumRes s.data.toList false N2 (((q : Int) + 1) - (t : Int)) false) := by
                            have h := res_plain (unhide PR2) (by rw [len_s]; omega) (byte_not (d := 101) hl1 h101)
                            rw [decide_eq_false (by rw [len_s]; omega)] at h
                            exact h
                          have hbq : ((t : Int) == (s.size : Int)) = false := by rw [beq_eq_false_iff_ne]; omega
                          clear PR2
                          go_wp2_with fail
                          all_goals (try simp only [Exit.inBlock, Exit.then])
                          all_goals refine bodyPost_ret (results_tmp4 rfl _ _ _) rfl ?_
                          all_goals exact ⟨_, _, _, _, _, rfl, unhide NB2, (unhide RS).cast (by first | rfl | omega)⟩

                      · clear k1 ep
                        have h101 : ¬ (s[t].toNat : Int) = 101 := by omega
                        have RS : Hid (NumRes s.data.toList false N2 (((q : Int) + 1) - (t : Int)) false) := by
                          have h := res_plain (unhide PR2) (by rw [len_s]; omega) (byte_not (d := 101) hl1 h101)
                          rw [decide_eq_false (by rw [len_s]; omega)] at h
                          exact h
                        have hbq : ((t : Int) == (s.size : Int)) = false := by rw [beq_eq_false_iff_ne]; omega
                        clear PR2
                        go_wp2_with fail
                        all_goals (try simp only [Exit.inBlock, Exit.then])
                        all_goals refine bodyPost_ret (results_tmp4 rfl _ _ _) rfl ?_
                        all_goals exact ⟨_, _, _, _, _, rfl, unhide NB2, (unhide RS).cast (by first | rfl | omega)⟩

                · have E2 : Hid (EndD s.data.toList t) := size_end hl1
                  have hts : t = s.size := by omega
                  by_cases ht0 : t = q + 1
                  · skip
                    have FF : Hid (isDec s.data.toList = false) := by
                      have h := unhide E2
                      have h2 := unhide P2
                      rw [ht0] at h h2
                      exact pre_noB (unhide SG) (unhide P1) (unhide E1) (unhide A46) h2 h
                    subst ht0
                    go_wp2_with fail
                    all_goals (try simp only [Exit.inBlock, Exit.then])
                    all_goals refine bodyPost_ret (results_tmp4 rfl _ _ _) rfl ?_
                    all_goals exact ⟨_, _, _, _, 0, rfl, ⟨rd_nil _, (unhide NB2).2⟩, by rw [unhide FF], fun h => by cases h⟩

                  · have PR2 := hide (pre_frac (unhide SG) (unhide P1) (unhide E1) hq0 (unhide A46) (unhide P2) (unhide E2) ht0)
                    have ep : (-((t - (q + 1) : Nat) : Int)) = ((q : Int) + 1) - (t : Int) := by omega
                    rw [ep] at PR2
                    clear ep
                    have hb0 : ((t : Int) == ((q + 1 : Nat) : Int)) = false := by rw [beq_eq_false_iff_ne]; omega
                    have RS : Hid (NumRes s.data.toList false N2 (((q : Int) + 1) - (t : Int)) true) := by
                      have h := res_plain (unhide PR2) (by rw [len_s]; omega) (size_not (d := 101) hl1)
                      rw [decide_eq_true (by rw [len_s]; omega)] at h
                      exact h
                    have hbq : ((t : Int) == (s.size : Int)) = true := by rw [beq_iff_eq]; omega
                    clear PR2
                    go_wp2_with fail
                    all_goals (try simp only [Exit.inBlock, Exit.then])
                    all_goals refine bodyPost_ret (results_tmp4 rfl _ _ _) rfl ?_
                    all_goals exact ⟨_, _, _, _, _, rfl, unhide NB2, (unhide RS).cast (by first | rfl | omega)⟩

            · have PR := hide (pre_none (unhide SG) (unhide P1) (unhide E1) hq0 (byte_not (d := 46) hlt h46))
              have h101 : ¬ (s[q].toNat : Int) = 101 := by omega
              have RS : Hid (NumRes s.data.toList false N 0 false) := by
                have h := res_plain (unhide PR) (by rw [len_s]; omega) (byte_not (d := 101) hlt h101)
                rw [decide_eq_false (by rw [len_s]; omega)] at h
                exact h
              have hbq : ((q : Int) == (s.size : Int)) = false := by rw [beq_eq_false_iff_ne]; omega
              clear PR
              go_wp2_with fail
              all_goals (try simp only [Exit.inBlock, Exit.then])
              all_goals refine bodyPost_ret (results_tmp4 rfl _ _ _) rfl ?_
              all_goals exact ⟨_, _, _, _, _, rfl, unhide NB, (unhide RS).cast (by first | rfl | omega)⟩

    · have E1 : Hid (EndD s.data.toList q) := size_end hlt
      by_cases hq0 : q = 0
      · subst hq0
        have FF := hide (pre_noA (unhide SG) (unhide P1) (unhide E1))
        go_wp2_with fail
        all_goals (try simp only [Exit.inBlock, Exit.then])
        all_goals refine bodyPost_ret (results_tmp4 rfl _ _ _) rfl ?_
        all_goals exact ⟨_, _, _, _, 0, rfl, ⟨rd_nil _, (unhide NB).2⟩, by rw [unhide FF], fun h => by cases h⟩

      · have hbf : ((q : Int) == (0 : Int)) = false := by rw [beq_eq_false_iff_ne]; omega
        have PR := hide (pre_none (unhide SG) (unhide P1) (unhide E1) hq0 (size_not (d := 46) hlt))
        have RS : Hid (NumRes s.data.toList false N 0 true) := by
          have h := res_plain (unhide PR) (by rw [len_s]; omega) (size_not (d := 101) hlt)
          rw [decide_eq_true (by rw [len_s]; omega)] at h
          exact h
        have hbq : ((q : Int) == (s.size : Int)) = true := by rw [beq_iff_eq]; omega
        clear PR
        go_wp2_with fail
        all_goals (try simp only [Exit.inBlock, Exit.then])
        all_goals refine bodyPost_ret (results_tmp4 rfl _ _ _) rfl ?_
        all_goals exact ⟨_, _, _, _, _, rfl, unhide NB, (unhide RS).cast (by first | rfl | omega)⟩
end Go.Proofs.YtgekdmjneogdoaaGreatDoor
