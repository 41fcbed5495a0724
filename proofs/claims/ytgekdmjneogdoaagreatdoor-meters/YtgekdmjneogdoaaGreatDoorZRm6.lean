import Derived.Test.YtgekdmjneogdoaaGreatDoorZRm5
import Derived.Test.YtgekdmjneogdoaaGreatDoorZRs1
namespace Go.Proofs.YtgekdmjneogdoaaGreatDoor
open Go.RowKit Go.Shelf Go.Maps

theorem rdi_own {w : World} {base : Nat} {v : Value} {l : List Int} (h : w.ownsRow base 3 1 v l.length (l.map encI)) : ∃ ao cap, v = .slice ao l.length cap ∧ l.length ≤ cap ∧ (0 < l.length → ∃ g o, ao = some ⟨g, o, none⟩ ∧ ∀ j, j < l.length → w.cell? ⟨g, o + j, none⟩ = some (.int .i64 (l.getD j 0))) := by
  rcases h.2 with ⟨rfl, h0⟩ | ⟨g, cap, cur, rfl, hb, hg, hn, hm, hsz, ht⟩
  · exact ⟨none, 0, by rw [h0], by omega, fun h1 => by omega⟩
  · refine ⟨_, cap, rfl, hn, fun _ => ⟨g, 0, rfl, fun j hj => ?_⟩⟩
    have hc : ∀ (i : Nat) (u : Value), (l.map encI)[i]? = some u → w.cell? ⟨g, i, none⟩ = some u := by
      intro i u hu
      rw [cell_of_row w g i cur _ _ hg]
      rw [← ht, List.getElem?_take] at hu
      split at hu
      · simpa using hu
      · cases hu
    rw [Nat.zero_add]
    refine hc j _ ?_
    rw [List.getElem?_map, List.getD_eq_getElem?_getD, List.getElem?_eq_getElem hj]
    rfl

theorem rank_found {b Q i : Nat} (hb : 1 ≤ b) (h1 : 1 ≤ i) (h2 : i = 1 ∨ (i - 1) * b < Q) (h3 : Q ≤ i * b) : i = max 1 ((Q + b - 1) / b) := by
  rcases h2 with rfl | h2
  · have : (Q + b - 1) / b ≤ 1 := by
      apply Nat.le_of_lt_succ
      rw [Nat.div_lt_iff_lt_mul hb]
      omega
    omega
  · have e : i = (i - 1) + 1 := by omega
    have k : i * b = (i - 1) * b + b := by rw [e, Nat.add_mul, Nat.one_mul]; simp
    have : (Q + b - 1) / b = i := by
      apply Nat.div_eq_of_lt_le
      · omega
      · have : (i + 1) * b = i * b + b := by rw [Nat.add_mul, Nat.one_mul]
        omega
    omega

set_option maxRecDepth 40000 in
set_option maxHeartbeats 8000000 in
theorem refrank_ok {K : Nat → Prop} {w : World} {yb n W C : Nat} {r : Value} {s : RuleS} {l : List Cnt} (h : RMt K w yb n W C r s l) (k a b : Nat) (hk1 : 1 ≤ k) (hk2 : k ≤ n) (hb1 : 1 ≤ b) (hb2 : b ≤ 1000) (hab : a ≤ b) (hl : l.length < 8000000000000)
    (D : List Nat) (hD : lastC l ((C / W : Nat) - (k : Int)) = D.map ordI) (hDb : ∀ x ∈ D, isNum x) (hne : D ≠ []) :
    Calls Tryz.prog 177 #[.pointer (some ⟨yb, 0, none⟩), .int .i64 k, .int .i64 a, .int .i64 b] w fun e w' => (∃ i, i < D.length ∧ hasRank D (rankN a b D.length) i ∧ e = .returned (.tuple #[.int .i64 (ordI (D.getD i 0)), .int .i64 0])) ∧ Below w.heap.size w w' := by
  have hn8 := h.hn.2
  have c0 := h.c0
  have HLa := hide (reflast_ok h k hk1 (by omega) hl)
  rw [hD] at HLa
  have hDl : D.length < 8000000000000 := by
    have h1 := lastC_length l ((C / W : Nat) - (k : Int))
    rw [hD, List.length_map] at h1
    omega
  have hn1 : 1 ≤ D.length := by
    cases D with
    | nil => exact absurd rfl hne
    | cons x r => simp
  have HZ : Hid (∀ t, t < D.length → -9223372036854775808 ≤ ordI (D.getD t 0) ∧ ordI (D.getD t 0) ≤ 9223372036854775807) := fun t ht => by
    have hx := hDb (D.getD t 0) (getD_mem D t ht)
    have h2 : D.getD t 0 % 9223372036854775808 < 9223372036854775808 := Nat.mod_lt _ (by omega)
    unfold ordI
    split <;> omega
  have HsL := hide (cL_step D)
  have HsE := hide (cE_step D)
  have HlL := hide (cL_le D)
  have HlE := hide (cE_le D)
  have HhR : Hid (∀ R t, hasRank D R t ↔ (cL D (D.getD t 0) D.length < R ∧ R ≤ cL D (D.getD t 0) D.length + cE D (D.getD t 0) D.length)) := fun _ _ => Iff.rfl
  have HSo := hide (some_rank D)
  have HRl := hide (rankN_le (a := a) (b := b) (n := D.length) hab hb1 hn1)
  clear h hD hne hDb
  rw [List.length_map] at HLa
  generalize hN : D.length = m at *
  obtain ⟨Q, hQ⟩ : ∃ Q, Q = a * m := ⟨_, rfl⟩
  have hQi : (a : Int) * (m : Int) = (Q : Int) := by rw [hQ]; push_cast; rfl
  have hQle : Q ≤ 8000000000000000 := by
    have h1 : a * m ≤ 1000 * 8000000000000 := Nat.mul_le_mul (by omega) (by omega)
    omega
  have HrN : Hid (rankN a b m = max 1 ((Q + b - 1) / b)) := by rw [hQ]; rfl
  clear hQ
  go_enter Tryz.func177, Tryz.ntmps177
  have hda : decide (n < k) = false := by simp; omega
  have hdb : decide (b < a) = false := by simp; omega
  go_wp2_with fail
  refine (unhide HLa).mono ?_
  rintro e w2 ⟨u, rfl, hO, hB⟩
  have HB := hide hB
  have hr : ∃ ao cap, u = .slice ao m cap ∧ m ≤ cap ∧ (0 < m → ∃ g o, ao = some ⟨g, o, none⟩ ∧ ∀ j, j < m → w2.cell? ⟨g, o + j, none⟩ = some (.int .i64 (ordI (D.getD j 0)))) := by
    have h1 := rdi_own (l := D.map ordI) (by rw [List.length_map, hN]; exact hO)
    rw [List.length_map, hN] at h1
    obtain ⟨ao, cap, h2, h3, h4⟩ := h1
    refine ⟨ao, cap, h2, h3, fun h0 => ?_⟩
    obtain ⟨g, o, h5, h6⟩ := h4 h0
    refine ⟨g, o, h5, fun j hj => ?_⟩
    rw [h6 j hj]
    congr 2
    have hj2 : j < D.length := by rw [hN]; exact hj
    simp [List.getD_eq_getElem?_getD, List.getElem?_eq_getElem hj2]
  obtain ⟨ao, cap, rfl, hcap, hcells⟩ := hr
  obtain ⟨g, o, rfl, hce⟩ := hcells (by omega)
  have HCe := hide hce
  clear hce hcells hO hB HLa c0
  have HDm := hide hda
  clear hda hdb
  go_wp2_with fail
  go_loopw [12] (fun rv wr => ∃ i : Nat, 1 ≤ i ∧ rv = .int .i64 i ∧ Hid (i = 1 ∨ (i - 1) * b < Q) ∧ i ≤ Q + 1 ∧ w2 = wr) (fun rv _ => Q + 1 - (RowKit.intOf rv).toNat)
  case atStart => exact ⟨1, by omega, rfl, Or.inl rfl, by omega, rfl⟩
  case round =>
    obtain ⟨i, hi1, rfl, hid, hiQ, rfl⟩ := hrel
    obtain ⟨P, hP⟩ : ∃ P, P = i * b := ⟨_, rfl⟩
    have hPi : (i : Int) * (b : Int) = (P : Int) := by rw [hP]; push_cast; rfl
    have hiP : i ≤ P := by rw [hP]; exact Nat.le_mul_of_pos_right i (by omega)
    have hPle : P ≤ Q + 1000 := by
      rw [hP]
      rcases unhide hid with h1 | h1
      · subst h1; omega
      · have e : i = (i - 1) + 1 := by omega
        have k1 : i * b = (i - 1) * b + b := by rw [e, Nat.add_mul, Nat.one_mul]; simp
        omega
    by_cases hlt : P < Q
    · have HLt : Hid ((i + 1 - 1) * b < Q) := by
        show (i + 1 - 1) * b < Q
        rw [Nat.add_sub_cancel, ← hP]; exact hlt
      have hdl : decide (P < Q) = true := by simp; omega
      clear hP
      go_wp2_with fail
      go_roundw
      case rel => exact ⟨i + 1, by omega, rfl, Or.inr (unhide HLt), by omega, by first | rfl | trivial⟩
      case measure => simp [RowKit.intOf]; omega
    · have hiR : i = rankN a b m := by
        rw [unhide HrN]
        exact rank_found hb1 hi1 (unhide hid) (by rw [← hP]; omega)
      have hdl : decide (P < Q) = false := by simp; omega
      clear hP hid
      have HiR := hide hiR
      clear hiR
      go_wp2_with fail
      have HSo2 : Hid (∃ t, t < m ∧ hasRank D i t) := by
        rw [unhide HiR]
        exact unhide HSo _ (by rw [← unhide HiR]; exact hi1) (unhide HRl)
      have hRl : i ≤ m := by rw [unhide HiR]; exact unhide HRl
      clear hPi hiP hPle hlt hdl hQi hQle hiQ HSo HRl HrN
      go_loopw [13, 14, 15, 16] (fun iv _ _ _ wr => ∃ (j q : Nat), j ≤ m ∧ iv = .int .i64 j ∧ wr = w2.drewN q ∧ Hid (∀ t, t < j → ¬ hasRank D i t)) (fun iv _ _ _ _ => m - (RowKit.intOf iv).toNat)
      case atStart => exact ⟨0, 0, by omega, rfl, rfl, fun t ht => by omega⟩
      case round =>
        obtain ⟨j, q, hj, rfl, rfl, hno⟩ := hrel
        by_cases hjn : j < m
        · have hcz0 := unhide HCe j hjn
          have hzr := unhide HZ j hjn
          have HhRj := hide (unhide HhR i j)
          have HsLz := hide (unhide HsL (D.getD j 0))
          have HsEz := hide (unhide HsE (D.getD j 0))
          have HlLz := hide (unhide HlL (D.getD j 0))
          have HlEz := hide (unhide HlE (D.getD j 0))
          have hL0 : cL D (D.getD j 0) 0 = 0 := by simp [cL, cntP]
          have hE0 : cE D (D.getD j 0) 0 = 0 := by simp [cE, cntP]
          obtain ⟨z, hz⟩ : ∃ z, D.getD j 0 = z := ⟨_, rfl⟩
          have HZe := hide hz
          rw [hz] at hcz0 hzr HhRj HsLz HsEz HlLz HlEz hL0 hE0
          clear hz
          obtain ⟨oz, hoz⟩ : ∃ oz, ordI z = oz := ⟨_, rfl⟩
          rw [hoz] at hcz0 hzr HsLz HsEz
          have HOz := hide hoz
          clear hoz
          go_wp2_with fail
          go_loopw [14, 15, 16] (fun un sa kk wx => ∃ (t s2 : Nat), t ≤ m ∧ kk = .int .i64 t ∧ un = .int .i64 (cL D z t : Nat) ∧ sa = .int .i64 (cE D z t : Nat) ∧ wx = w2.drewN s2) (fun _ _ kk _ => m - (RowKit.intOf kk).toNat)
          case atStart => exact ⟨0, q, by omega, rfl, by rw [hL0]; rfl, by rw [hE0]; rfl, rfl⟩
          case round =>
            obtain ⟨t, s2, ht, rfl, rfl, rfl, rfl⟩ := hrel
            by_cases htn : t < m
            · have hcy0 := unhide HCe t htn
              have hyr := unhide HZ t htn
              have hsl := unhide HsLz t htn
              have hse := unhide HsEz t htn
              have hll := unhide HlLz t
              have hle := unhide HlEz t
              generalize ordI (D.getD t 0) = oy at *
              have hcy : (w2.drewN s2).cell? ⟨g, o + t, none⟩ = some (.int .i64 oy) := hcy0
              have hcz : (w2.drewN s2).cell? ⟨g, o + j, none⟩ = some (.int .i64 oz) := hcz0
              have HC0 := hide hcz0
              clear hcy0 hcz0
              generalize hwq : w2.drewN s2 = wq at *
              have HWq := hide hwq
              clear hwq
              have HSl := hide hsl
              have HSe := hide hse
              clear hsl hse
              generalize hcl : cL D z t = c1 at *
              generalize hcE : cE D z t = c2 at *
              rcases Int.lt_trichotomy oy oz with h | h | h
              · have hd1 : decide (oy < oz) = true := by simp; omega
                have hd2 : (oy == oz) = false := by simp; omega
                have HH := hide h
                clear h
                go_wp2_with fail
                go_quiet (fail)
                have hcy2 : (wq.drewN nq).cell? ⟨g, o + t, none⟩ = some (.int .i64 oy) := hcy
                have hcz2 : (wq.drewN nq).cell? ⟨g, o + j, none⟩ = some (.int .i64 oz) := hcz
                have HW2 : Hid (∃ s', wq.drewN nq = w2.drewN s') := ⟨s2 + nq, by rw [← unhide HWq]; unfold World.drewN; rw [Nat.add_assoc]⟩
                clear hcy hcz HWq
                generalize wq.drewN nq = wq2 at *
                clear wq
                go_wp2_with fail
                go_quiet (fail)
                go_wp2_with fail
                obtain ⟨s', hs'⟩ := unhide HW2
                go_roundw
                case rel => exact ⟨t + 1, s' + nq, by omega, rfl, by rw [unhide HSl, if_pos (by have := unhide HH; omega)]; rfl, by rw [unhide HSe, if_neg (by have := unhide HH; omega)]; rfl, by rw [hs']; unfold World.drewN; rw [Nat.add_assoc]⟩
                case measure => simp [RowKit.intOf]; omega
              · have hd1 : decide (oy < oz) = false := by simp; omega
                have hd2 : (oy == oz) = true := by simp; omega
                have HH := hide h
                clear h
                go_wp2_with fail
                go_quiet (fail)
                have hcy2 : (wq.drewN nq).cell? ⟨g, o + t, none⟩ = some (.int .i64 oy) := hcy
                have hcz2 : (wq.drewN nq).cell? ⟨g, o + j, none⟩ = some (.int .i64 oz) := hcz
                have HW2 : Hid (∃ s', wq.drewN nq = w2.drewN s') := ⟨s2 + nq, by rw [← unhide HWq]; unfold World.drewN; rw [Nat.add_assoc]⟩
                clear hcy hcz HWq
                generalize wq.drewN nq = wq2 at *
                clear wq
                go_wp2_with fail
                go_quiet (fail)
                go_wp2_with fail
                obtain ⟨s', hs'⟩ := unhide HW2
                go_roundw
                case rel => exact ⟨t + 1, s' + nq, by omega, rfl, by rw [unhide HSl, if_neg (by have := unhide HH; omega)]; rfl, by rw [unhide HSe, if_pos (by have := unhide HH; omega)]; rfl, by rw [hs']; unfold World.drewN; rw [Nat.add_assoc]⟩
                case measure => simp [RowKit.intOf]; omega
              · have hd1 : decide (oy < oz) = false := by simp; omega
                have hd2 : (oy == oz) = false := by simp; omega
                have HH := hide h
                clear h
                go_wp2_with fail
                go_quiet (fail)
                have hcy2 : (wq.drewN nq).cell? ⟨g, o + t, none⟩ = some (.int .i64 oy) := hcy
                have hcz2 : (wq.drewN nq).cell? ⟨g, o + j, none⟩ = some (.int .i64 oz) := hcz
                have HW2 : Hid (∃ s', wq.drewN nq = w2.drewN s') := ⟨s2 + nq, by rw [← unhide HWq]; unfold World.drewN; rw [Nat.add_assoc]⟩
                clear hcy hcz HWq
                generalize wq.drewN nq = wq2 at *
                clear wq
                go_wp2_with fail
                go_quiet (fail)
                go_wp2_with fail
                obtain ⟨s', hs'⟩ := unhide HW2
                go_roundw
                case rel => exact ⟨t + 1, s' + nq, by omega, rfl, by rw [unhide HSl, if_neg (by have := unhide HH; omega)]; rfl, by rw [unhide HSe, if_neg (by have := unhide HH; omega)]; rfl, by rw [hs']; unfold World.drewN; rw [Nat.add_assoc]⟩
                case measure => simp [RowKit.intOf]; omega
            · obtain rfl : t = m := by omega
              have hll := unhide HlLz t
              have hle := unhide HlEz t
              generalize cL D z t = c1 at *
              generalize cE D z t = c2 at *
              by_cases h1 : c1 < i
              · by_cases h2 : i ≤ c1 + c2
                · have hcz : (w2.drewN s2).cell? ⟨g, o + j, none⟩ = some (.int .i64 oz) := hcz0
                  have HBs : Hid (Below w.heap.size w (w2.drewN s2)) := below_drewN (unhide HB) s2
                  have HFi : Hid (hasRank D (rankN a b t) j) := by
                    rw [← unhide HiR]
                    exact (unhide HhRj).2 ⟨h1, h2⟩
                  clear hcz0
                  generalize w2.drewN s2 = wq at *
                  have hd1 : decide ((c1 : Int) < (i : Int)) = true := by simp; omega
                  have hd2 : decide ((i : Int) ≤ (c1 : Int) + (c2 : Int)) = true := by simp; omega
                  go_wp2_with fail
                  go_ret2
                  exact ⟨⟨j, hjn, unhide HFi, by rw [unhide HZe, unhide HOz]; rfl⟩, unhide HBs⟩
                · have hd1 : decide ((c1 : Int) < (i : Int)) = true := by simp; omega
                  have hd2 : decide ((i : Int) ≤ (c1 : Int) + (c2 : Int)) = false := by simp; omega
                  have HNo : Hid (∀ q, q < j + 1 → ¬ hasRank D i q) := fun q hq hr => by
                    rcases Nat.lt_or_ge q j with k | k
                    · exact unhide hno q k hr
                    · obtain rfl : q = j := by omega
                      have := (unhide HhRj).1 hr
                      omega
                  go_wp2_with fail
                  go_roundw
                  case rel => exact ⟨j + 1, s2, by omega, rfl, by first | rfl | trivial, HNo⟩
                  case measure => simp [RowKit.intOf]; omega
              · have hd1 : decide ((c1 : Int) < (i : Int)) = false := by simp; omega
                have HNo : Hid (∀ q, q < j + 1 → ¬ hasRank D i q) := fun q hq hr => by
                  rcases Nat.lt_or_ge q j with k | k
                  · exact unhide hno q k hr
                  · obtain rfl : q = j := by omega
                    have := (unhide HhRj).1 hr
                    omega
                go_wp2_with fail
                go_roundw
                case rel => exact ⟨j + 1, s2, by omega, rfl, by first | rfl | trivial, HNo⟩
                case measure => simp [RowKit.intOf]; omega
        · obtain ⟨t, ht, h⟩ := unhide HSo2
          exact absurd h (unhide hno t (by omega))
end Go.Proofs.YtgekdmjneogdoaaGreatDoor
