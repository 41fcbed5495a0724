import Derived.Test.YtgekdmjneogdoaaGreatDoorZRm4
namespace Go.Proofs.YtgekdmjneogdoaaGreatDoor
open Go.RowKit Go.Shelf Go.Maps

theorem infoI : (Tryz.prog.info? 3).map (fun i => (i.zero, i.size, i.bytes)) = some (some (.int .i64 0), 1, 8) := by kernel_rfl

theorem flatC_get (l : List Cnt) (j : Nat) (h : j < l.length) : (flatC l)[j * 2]? = some (.int .i64 ((l.getD j (0, 0)).1 : Nat)) ∧ (flatC l)[j * 2 + 1]? = some (.int .i64 (l.getD j (0, 0)).2) := by
  induction l generalizing j with
  | nil => simp at h
  | cons a r ih =>
    have e : flatC (a :: r) = .int .i64 (a.1 : Nat) :: .int .i64 a.2 :: flatC r := by simp [flatC]
    rw [e]
    cases j with
    | zero => simp
    | succ j =>
      have := ih j (by simpa using h)
      have e1 : (j + 1) * 2 = j * 2 + 1 + 1 := by omega
      rw [e1]
      simpa using this

theorem rdc_own {w : World} {v : Value} {l : List Cnt} (h : w.ownsRow 0 241 2 v l.length (flatC l)) : ∃ ao cap, v = .slice ao l.length cap ∧ l.length ≤ cap ∧ (0 < l.length → ∃ g o, g < w.heap.size ∧ ao = some ⟨g, o, none⟩ ∧ ∀ j, j < l.length → w.cell? ⟨g, o + j * 2, none⟩ = some (.int .i64 ((l.getD j (0, 0)).1 : Nat)) ∧ w.cell? ⟨g, o + j * 2 + 1, none⟩ = some (.int .i64 (l.getD j (0, 0)).2)) := by
  have hlt := h.lt
  rcases h.2 with ⟨rfl, h0⟩ | ⟨g, cap, cur, rfl, hb, hg, hn, hm, hsz, ht⟩
  · exact ⟨none, 0, by rw [h0], by omega, fun h1 => by omega⟩
  · refine ⟨_, cap, rfl, hn, fun _ => ⟨g, 0, (hlt g rfl).2, rfl, fun j hj => ?_⟩⟩
    have hc : ∀ (i : Nat) (u : Value), (flatC l)[i]? = some u → w.cell? ⟨g, i, none⟩ = some u := by
      intro i u hu
      rw [cell_of_row w g i cur _ _ hg]
      rw [← ht, List.getElem?_take] at hu
      split at hu
      · simpa using hu
      · cases hu
    have hf := flatC_get l j hj
    rw [Nat.zero_add]
    exact ⟨hc _ _ hf.1, hc _ _ hf.2⟩

/-- the orders of the samples whose slice is above a bound -/
def lastC (l : List Cnt) (b : Int) : List Int := (l.filter fun x => decide (b < (x.1 : Int))).map (·.2)

abbrev encI : Int → Value := fun x => .int .i64 x

theorem lastC_step (l : List Cnt) (b : Int) (j : Nat) (h : j < l.length) : lastC (l.take (j + 1)) b = lastC (l.take j) b ++ (if b < ((l.getD j (0, 0)).1 : Int) then [(l.getD j (0, 0)).2] else []) := by
  unfold lastC
  rw [List.take_succ_eq_append_getElem h, List.filter_append, List.map_append]
  have e : l.getD j (0, 0) = l[j] := by rw [List.getD_eq_getElem?_getD, List.getElem?_eq_getElem h]; rfl
  rw [e]
  congr 1
  by_cases c : b < (l[j].1 : Int)
  · simp [c]
  · simp [c]

theorem lastC_length (l : List Cnt) (b : Int) : (lastC l b).length ≤ l.length := by
  unfold lastC
  rw [List.length_map]
  exact List.length_filter_le _ _

set_option maxRecDepth 20000 in
set_option maxHeartbeats 1600000 in
theorem reflast_ok {K : Nat → Prop} {w : World} {yb n W C : Nat} {r : Value} {s : RuleS} {l : List Cnt} (h : RMt K w yb n W C r s l) (k : Nat) (hk1 : 1 ≤ k) (hk2 : k ≤ 8) (hl : l.length < 8000000000000) :
    Calls Tryz.prog 176 #[.pointer (some ⟨yb, 0, none⟩), .int .i64 k] w fun e w' => ∃ u, e = .returned u ∧ w'.ownsRow w.heap.size 3 1 u (lastC l ((C / W : Nat) - (k : Int))).length ((lastC l ((C / W : Nat) - (k : Int))).map encI) ∧ Below w.heap.size w w' := by
  obtain ⟨i0, hi, hz0, hz1, hz2⟩ := info_parts infoI
  have H := hide h
  have hW := h.hW.1
  have hCb := h.hC
  have q2 : (C : Int) / (W : Int) = ((C / W : Nat) : Int) := (Int.natCast_ediv C W).symm
  have q4 : C / W ≤ C := Nat.div_le_self _ _
  obtain ⟨ao, cap, rfl, hcap, hcells⟩ := rdc_own h.own
  have HCe := hide hcells
  have HSt := hide (lastC_step l)
  have HLe := hide (lastC_length)
  clear h hcells
  generalize C / W = cw at *
  generalize hL : l.length = L at *
  go_enter Tryz.func176, Tryz.ntmps176
  go_wp2_with fail
  go_loopw [5, 6] (fun v i wr => ∃ j : Nat, j ≤ L ∧ i = .int .i64 j ∧ Hid (wr.ownsRow w.heap.size 3 1 v (lastC (l.take j) ((cw : Int) - (k : Int))).length ((lastC (l.take j) ((cw : Int) - (k : Int))).map encI)) ∧ Hid (Below w.heap.size w wr)) (fun _ i _ => L - (RowKit.intOf i).toNat)
  case atStart => exact ⟨0, by omega, rfl, World.ownsRow_nil _ _ _ _, Below.refl _ _⟩
  case round =>
    obtain ⟨j, hj, rfl, hO, hB⟩ := hrel
    have hM := (unhide H).below (unhide hB)
    have c1 := hM.c1
    have c2 := hM.c2
    have c3 := hM.c3
    by_cases hjn : j < L
    · obtain ⟨g, o, hg, rfl, hce⟩ := unhide HCe (by omega)
      have hst := unhide HSt ((cw : Int) - (k : Int)) j hjn
      have hln := unhide HLe (l.take j) ((cw : Int) - (k : Int))
      rw [List.length_take] at hln
      have e1 := (hce j hjn).1
      have e2 := (hce j hjn).2
      generalize (l.getD j (0, 0)).1 = S at *
      generalize (l.getD j (0, 0)).2 = O at *
      have d1 : wr.cell? ⟨g, o + j * 2, none⟩ = some (.int .i64 S) := ((unhide hB).cell (p := ⟨g, o + j * 2, none⟩) hg).trans e1
      have d2 : wr.cell? ⟨g, o + j * 2 + 1, none⟩ = some (.int .i64 O) := ((unhide hB).cell (p := ⟨g, o + j * 2 + 1, none⟩) hg).trans e2
      have hdj : decide (j < L) = true := by simp; omega
      have HS := hide hst
      clear hce e1 e2 hM hst
      by_cases hb : (cw : Int) - (k : Int) < (S : Int)
      · have hd : decide ((cw : Int) - (k : Int) < (S : Int)) = true := by simpa using hb
        have HH := hide hb
        clear hb
        go_wp2_with fail
        go_quiet (fail)
        have g3 : (wr.drewN nq).cell? ⟨yb, 3, none⟩ = some (.slice (some ⟨g, o, none⟩) L cap) := c3
        have g2 : (wr.drewN nq).cell? ⟨g, o + j * 2 + 1, none⟩ = some (.int .i64 O) := d2
        have HO2 : Hid ((wr.drewN nq).ownsRow w.heap.size 3 1 u5 (lastC (l.take j) ((cw : Int) - (k : Int))).length ((lastC (l.take j) ((cw : Int) - (k : Int))).map encI)) := unhide hO
        have HB2 : Hid (Below w.heap.size w (wr.drewN nq)) := below_drewN (unhide hB) nq
        clear c1 c2 c3 d1 d2 hO hB
        generalize wr.drewN nq = wq at *
        have ho := unhide HO2
        have hs2 := (unhide HB2).size
        go_wp2_with (first
          | (at_builtin; refine wpList_append_own_at _ rfl _ _ 32 rfl w.heap.size 3 i0 (.int .i64 0) 1 8 Tryz.underlying32 hi hz0 hz1 hz2 rfl (by decide) _ _ _ rfl (ho.alloc _) ⟨wq.heap.size, 0, none⟩ 1 1 [.int .i64 O] rfl rfl (cell_one_new _ _ _) (by simp [Value.oneCell']) (by unfold maxLen; omega) (by omega) (by simp; omega) ?_; intro v' W8 hown' hgrow _ hat)
          | go_in)
        have hw8 : W8.ownsRow w.heap.size 3 1 v' (lastC (l.take (j + 1)) ((cw : Int) - (k : Int))).length ((lastC (l.take (j + 1)) ((cw : Int) - (k : Int))).map encI) := by
          rw [unhide HS, if_pos (unhide HH), List.length_append, List.map_append]; exact hown'
        have hb8 : Below w.heap.size w W8 := ((unhide HB2).alloc (unhide HB2).size _).grown hgrow (by simp; omega) (fun k e => (ho.lt k e).1)
        go_roundw
        case rel => exact ⟨j + 1, by omega, rfl, hw8, hb8⟩
        case measure => simp [RowKit.intOf]; omega
      · have hd : decide ((cw : Int) - (k : Int) < (S : Int)) = false := by simpa using hb
        have HH := hide hb
        clear hb
        go_wp2_with fail
        go_quiet (fail)
        have HO2 : Hid ((wr.drewN nq).ownsRow w.heap.size 3 1 u5 (lastC (l.take (j + 1)) ((cw : Int) - (k : Int))).length ((lastC (l.take (j + 1)) ((cw : Int) - (k : Int))).map encI)) := by
          rw [unhide HS, if_neg (by have := unhide HH; omega), List.append_nil]; exact unhide hO
        have HB2 : Hid (Below w.heap.size w (wr.drewN nq)) := below_drewN (unhide hB) nq
        go_wp2_with fail
        go_roundw
        case rel => exact ⟨j + 1, by omega, rfl, HO2, HB2⟩
        case measure => simp [RowKit.intOf]; omega
    · obtain rfl : j = L := by omega
      have hdj : decide (j < j) = false := by simp
      rw [List.take_of_length_le (by omega)] at hO
      clear hM
      go_wp2_with fail
      go_ret
      exact ⟨_, rfl, unhide hO, unhide hB⟩
end Go.Proofs.YtgekdmjneogdoaaGreatDoor
