import Derived.Test.YtgekdmjneogdoabGreatDoorHMg1
namespace Go.Proofs.YtgekdmjneogdoabGreatDoor
open Go.RowKit Go.Shelf Go.Maps

set_option maxRecDepth 40000 in
set_option maxHeartbeats 16000000 in
theorem merged_lo (v : Value) (vs0 : List (Value × List Smp)) (r : Bool) (w : World) (hv : RdL (Under w) w v vs0) (hvl : vs0.length ≤ 9223372036854775807) (hls : ∀ x ∈ vs0, x.2.length ≤ 9223372036854775807 ∧ ∀ s ∈ x.2, -9223372036854775808 ≤ s.1 ∧ s.1 ≤ 9223372036854775807)
    (h6 : vs0.length ≤ 6) (hT : Tabs w) (hC : CTabs w) (hG : GK (Under w)) (hS : SortsTo [halfN, halfN] [halfN]) :
    Calls Tryz.prog 3 #[v, .bool r] w fun e w' => e = .returned (.bool true) ∧ Below w.heap.size w w' := by
  have HA := hide (awake_ok w hT hC hG hS)
  obtain ⟨i0, hi, hz0, hz1, hz2⟩ := info_parts infoL
  obtain ⟨ao, cap, rfl, hcap, hrd, hce⟩ := hv
  have HC := hide hce
  have HR := hide (And.intro hrd hls)
  clear hce hrd hls hT hC hG hS
  generalize hNL : vs0.length = NL at *
  go_enter Tryz.func3, Tryz.ntmps3
  go_wp2_with fail
  refine (unhide HA).mono ?_
  rintro e w1 ⟨rfl, hb1⟩
  have HB1 := hide hb1
  clear hb1 HA
  go_wp2_with fail
  go_loopw [6, 7, 8, 9, 10] (fun inV nV iV _ _ wr => ∃ (vs : List (Value × List Smp)), vs.length ≤ 6 ∧ vs.length ≤ NL ∧ sumL vs ≤ 40 * vs.length ∧ iV = .int .i64 vs.length ∧ nV = .int .i64 (sumL vs) ∧ Hid (OutS r w wr inV vs0 vs)) (fun _ _ iV _ _ _ => 6 - (RowKit.intOf iV).toNat)
  case atStart => exact ⟨[], by simp, by simp, by simp [sumL], rfl, rfl, ⟨World.ownsRow_nil _ _ _ _, fun x hx => (by cases hx), fun p hp => absurd hp (by simp), unhide HB1⟩⟩
  case round =>
    obtain ⟨vs, hv6, hvN, hsum, rfl, rfl, HO⟩ := hrel
    generalize wr = wo at *
    generalize hni : vs.length = i at *
    generalize hns : sumL vs = tot at *
    by_cases hgo : i < NL ∧ i < 6
    · obtain ⟨hgN, hg6⟩ := hgo
      have hdj1 : decide ((i : Int) < (NL : Int)) = true := by simp; omega
      have hdj2 : decide ((i : Int) < 6) = true := by simp; omega
      obtain ⟨g0, o0, hgK, rfl, hce⟩ := unhide HC (by omega)
      have hc0 : wo.cell? ⟨g0, o0 + i, none⟩ = some (vs0.getD i nilP).1 := ((unhide HO).bel.cell (p := ⟨g0, o0 + i, none⟩) hgK).trans (hce i hgN)
      have hm := getD_memL (vs := vs0) (j := i) (by omega)
      have hrl := (unhide HR).1 _ hm
      have hll := (unhide HR).2 _ hm
      have hsz := (unhide HO).bel.size
      have hrw : RdS (Under wo) wo (vs0.getD i nilP).1 (vs0.getD i nilP).2 := rds_more (hrl.kept (Kept.of_below (unhide HO).bel)) (fun k hk => Nat.lt_of_lt_of_le hk hsz)
      obtain ⟨ga, ca, hva, _, _⟩ := hrl
      have HCp := hide (copied_ok _ _ wo hrw hll.1)
      rw [hva] at HCp hc0
      have HLL := hide hll
      obtain ⟨l, hl⟩ : ∃ l, l = ((vs0.getD i nilP).2).take 40 := ⟨_, rfl⟩
      rw [← hl] at HCp
      have hl40 : l.length ≤ 40 := by rw [hl, List.length_take]; omega
      have HT : Hid (∀ k, k < l.length → -9223372036854775808 ≤ (l.getD k (0, 0)).1 ∧ (l.getD k (0, 0)).1 ≤ 9223372036854775807) := fun k hk => by
        refine hll.2 _ (List.mem_of_mem_take (i := 40) ?_)
        rw [← hl, List.getD_eq_getElem?_getD, List.getElem?_eq_getElem hk]
        exact List.getElem_mem _
      have HL := hide hl
      generalize (vs0.getD i nilP).2.length = la at *
      clear hm hce hva hrw hll hgK hl
      go_wp2_with fail
      refine (unhide HCp).mono ?_
      rintro e w2 ⟨u, rfl, hown, hb2⟩
      obtain ⟨ua, uc, rfl, hua⟩ := own_slice hown
      have HU := hide (And.intro hown hb2)
      have HUA := hide hua
      clear hown hb2 hua HCp
      generalize hm : l.length = m at *
      go_wp2_with fail
      go_loopw [10] (fun kV wx => ∃ k : Nat, k ≤ m ∧ kV = .int .i64 k ∧ Hid (wx.ownsRow wo.heap.size 28 2 (.slice ua m uc) m (flat (halfL r i l k)) ∧ w2.grownBy wx (Value.slice ua m uc).ownBlock)) (fun kV _ => m - (RowKit.intOf kV).toNat)
      case atStart =>
        refine ⟨0, by omega, rfl, ?_, ⟨rfl, rfl, rfl, Nat.le_refl _, fun _ _ _ => rfl⟩⟩
        have : halfL r i l 0 = l := by simp [halfL]
        rw [this]
        exact (unhide HU).1
      case round =>
        obtain ⟨k, hkm, rfl, HX⟩ := hrel
        by_cases hk : k < m
        · have hdk : decide ((k : Int) < (m : Int)) = true := by simp; omega
          obtain ⟨g, rfl⟩ := unhide HUA (by omega)
          have hhl := halfL_length r i l k (by omega)
          have c0 := ((unhide HX).1.cellAt (k * 2) (by omega)).trans (flat_get0 _ k (by omega))
          have c1 := ((unhide HX).1.cellAt (k * 2 + 1) (by omega)).trans (flat_get1 _ k (by omega))
          have f0 := (unhide HX).1.frozenAt (k * 2)
          have f1 := (unhide HX).1.frozenAt (k * 2 + 1)
          rw [halfL_at r i l k (by omega)] at c0 c1
          have hTb := unhide HT k (by omega)
          have hTT := turnL_T r i 0 0 l k (by omega)
          have hTV := turnL_V r i 0 0 l k (by omega)
          have hset := halfL_set r i l k (by omega)
          generalize (l.getD k (0, 0)).1 = T0 at *
          generalize (l.getD k (0, 0)).2 = V0 at *
          obtain ⟨V, hV⟩ : ∃ V, V = i * 100 + k := ⟨_, rfl⟩
          have hVI : (i : Int) * 100 + (k : Int) = (V : Int) := by omega
          have hVl : V < 1000 := by omega
          have HP := hide (fun w => pick_any T0 50 w hTb.1 hTb.2 (by omega) (by omega))
          have hpl := pickN_lt T0 50 (by omega)
          obtain ⟨p, hp⟩ : ∃ p, p = pickN T0 50 := ⟨_, rfl⟩
          rw [← hp] at HP hpl
          have HH := hide (And.intro hTT (And.intro hTV (And.intro hset (And.intro hV hp))))
          have hVw : IntKind.u64.wrap (V : Int) = (V : Int) := by rw [IntKind.wrap_u64]; omega
          clear hTT hTV hset hV hp hTb
          go_wp2_with fail
          refine (unhide HP _).mono ?_
          rintro e w3 ⟨rfl, e3⟩
          rw [e3]
          clear e3 w3 HP
          have hrow := rowVT (unhide HX).1 k (p : Int) V
          have HRow := hide hrow
          have cb0 : ((wr.setCell ⟨g, k * 2 + 1, none⟩ (.int .u64 V)).setCell ⟨g, k * 2, none⟩ (.int .i64 p)).cell? ⟨g, k * 2, none⟩ = some (.int .i64 p) := (hrow.1.cellAt (k * 2) (by omega)).trans (by rw [flat_get0 _ k (by rw [List.length_set, hhl, hm]; exact hk)]; simp [hhl, hm, hk])
          have fb0 := hrow.1.frozenAt (k * 2)
          clear hrow
          cases r with
          | false =>
            go_wp2_with fail
            go_roundw
            case rel =>
              obtain ⟨hTT, hTV, hset, hV, hp⟩ := unhide HH
              refine ⟨k + 1, by omega, rfl, ?_, grow_two (unhide HX).2 (unhide HRow).2⟩
              rw [← hset, show (turnL false i 0 0 l).getD k (0, 0) = ((p : Int), V) from Prod.ext (by rw [hTT, hp]; rfl) (by rw [hTV, hV, Nat.zero_add])]
              exact (unhide HRow).1
            case measure => simp [RowKit.intOf]; omega
          | true =>
            cases k with
            | zero =>
              go_wp2_with fail
              go_roundw
              case rel =>
                obtain ⟨hTT, hTV, hset, hV, hp⟩ := unhide HH
                refine ⟨1, by omega, rfl, ?_, grow_two (unhide HX).2 (unhide HRow).2⟩
                rw [← hset, show (turnL true i 0 0 l).getD 0 (0, 0) = ((p : Int), V) from Prod.ext (by rw [hTT, hp]; rfl) (by rw [hTV, hV])]
                exact (unhide HRow).1
              case measure => simp [RowKit.intOf]; omega
            | succ k =>
              have hpv := ((unhide HRow).1.cellAt (k * 2) (by omega)).trans (flat_get0 _ k (by rw [List.length_set, hhl, hm]; omega))
              have hq0 : (((halfL true i l (k + 1)).set (k + 1) ((p : Int), V)).getD k (0, 0)).1 = ((turnL true i 0 0 l).getD k (0, 0)).1 := by
                rw [List.getD_eq_getElem?_getD, List.getElem?_set_ne (by omega), ← List.getD_eq_getElem?_getD, halfL_before true i l (k + 1) k (by omega) (by omega)]
              have hqb := turnL_bound true i 0 0 l (by omega) (by omega) k (by omega)
              rw [hq0] at hpv
              obtain ⟨q, hq⟩ : ∃ q, q = ((turnL true i 0 0 l).getD k (0, 0)).1 := ⟨_, rfl⟩
              rw [← hq] at hpv hqb
              have HQ := hide hq
              clear hq hq0
              obtain ⟨W, hW⟩ : ∃ W, (wr.setCell ⟨g, (k + 1) * 2 + 1, none⟩ (.int .u64 V)).setCell ⟨g, (k + 1) * 2, none⟩ (.int .i64 p) = W := ⟨_, rfl⟩
              rw [hW] at hpv cb0 fb0 HRow
              have hpv' : W.drew.cell? ⟨g, k * 2, none⟩ = some (.int .i64 q) := hpv
              have cb0' : W.drew.cell? ⟨g, (k + 1) * 2, none⟩ = some (.int .i64 p) := cb0
              have fb0' : W.drew.frozen? ⟨g, (k + 1) * 2, none⟩ = false := fb0
              have hql : 0 ≤ q ∧ q ≤ 300 := ⟨hqb.1, by have := hqb.2; push_cast at this; omega⟩
              have hk0 : decide ((0 : Int) < ((k + 1 : Nat) : Int)) = true := decide_eq_true (by omega)
              have HWW := hide hW
              clear hqb
              go_wp2_with fail
              (try rw [unhide HWW])
              go_region
              all_goals
                go_wp2_with fail
                go_roundw
                case rel =>
                  obtain ⟨hTT, hTV, hset, hV, hp⟩ := unhide HH
                  have hrT := rowT (unhide HRow).1 (by rw [hhl, hm]; exact hk) (q + (p : Int) / 10)
                  have hgr := grow_two (unhide HX).2 (grow_two (unhide HRow).2 hrT.2)
                  refine ⟨k + 1 + 1, by omega, by push_cast; rfl, ?_, ⟨hgr.os, hgr.tape, hgr.output, hgr.size, hgr.block⟩⟩
                  rw [← hset, show (turnL true i 0 0 l).getD (k + 1) (0, 0) = (q + (p : Int) / 10, V) from Prod.ext (by
                    rw [hTT, if_neg (by omega), Nat.add_sub_cancel, ← unhide HQ]
                    unfold turnT
                    rw [if_pos (by simp), ← hp]
                    push_cast
                    rfl) (by rw [hTV, hV, Nat.zero_add])]
                  exact hrT.1
                case measure => simp [RowKit.intOf]; omega
        · obtain rfl : k = m := by omega
          have hdk : decide ((k : Int) < (k : Int)) = false := by simp
          have hown := (unhide HX).1
          rw [show halfL r i l k = turnL r i 0 0 l from by rw [← hm]; exact halfL_full r i l] at hown
          have hgr := (unhide HX).2
          have hb3 : Below wo.heap.size wo wr := ⟨hgr.os.trans (unhide HU).2.os, hgr.tape.trans (unhide HU).2.tape, hgr.output.trans (unhide HU).2.output, Nat.le_trans (unhide HU).2.size hgr.size, fun k' hk' => (hgr.block k' (Nat.lt_of_lt_of_le hk' (unhide HU).2.size) (fun e => by have := ((unhide HU).1.lt k' e.symm).1; omega)).trans ((unhide HU).2.block k' hk')⟩
          have hir0 := (unhide HO).row
          rw [hni] at hir0
          have hir : wr.ownsRow w.heap.size 24 1 u6 i (vs.map Prod.fst) := own_keptM hir0 (fun k' hk' => hb3.block k' (hir0.lt k' hk').2)
          have hsz3 := hb3.size
          have HIn := hide (And.intro hown (And.intro hb3 hir))
          clear hown hgr hb3
          go_wp2_with (first
            | (at_builtin; refine wpList_append_own_at _ rfl _ _ 22 rfl w.heap.size 24 i0 (.slice none 0 0) 1 24 Tryz.underlying22 hi hz0 hz1 hz2 rfl (by decide) u6 i (vs.map Prod.fst) rfl (hir.alloc _) ⟨wr.heap.size, 0, none⟩ 1 1 [.slice ua k uc] rfl rfl (cell_one_at _ _ _ _ rfl) (by intro u hu; simp at hu; subst hu; rfl) (by unfold maxLen; omega) (by omega) (by simp; omega) ?_; intro v' W8 hown' hgrow _ hat)
            | go_in)
          have HO8 : Hid (OutS r w W8 v' vs0 (vs ++ [(.slice ua k uc, turnL r i 0 0 l)])) := by
            obtain ⟨q1, q2, _⟩ := unhide HIn
            have h1 := unhide HO
            subst hni
            exact h1.snoc (unhide HL) hm q1 q2 hown' hgrow hat
          have hlk : (turnL r i 0 0 l).length = k := by rw [turnL_length, hm]
          clear hown' hgrow hat HIn HX HU HO
          go_wp2_with fail
          go_roundw
          case rel => exact ⟨vs ++ [(.slice ua k uc, turnL r i 0 0 l)], by simp; omega, by simp; omega, by rw [sumL_snoc, hns, hlk]; simp; omega, by rw [List.length_append, hni]; push_cast; rfl, by rw [sumL_snoc, hns, hlk]; push_cast; rfl, HO8⟩
          case measure => simp [RowKit.intOf]; omega
    · have hni6 : i ≤ 6 := by omega
      have hiN : ¬ i < NL := fun h => hgo ⟨h, by omega⟩
      have hdj1 : decide ((i : Int) < (NL : Int)) = false := by simp; omega
      have HSlice := hide (own_slice (unhide HO).row)
      have HMg := hide (merge_ok (unhide HO).rdl (by rw [hni]; exact hni6) (fun x hx => by
        obtain ⟨p, hp, rfl⟩ := List.getElem_of_mem hx
        have h1 := (unhide HO).eqs p hp
        rw [List.getD_eq_getElem?_getD, List.getElem?_eq_getElem hp] at h1
        have h2 : (vs[p]).2 = turnL r p 0 0 (((vs0.getD p nilP).2).take 40) := h1
        rw [h2, turnL_length, List.length_take]
        omega))
      go_wp2_with fail
      refine (unhide HMg).mono ?_
      rintro e w3 ⟨outV, out, rfl, hmr, hown3, hb3⟩
      have hlen : out.length = tot := by rw [merge_length hmr, totL_ins]; exact hns
      obtain ⟨oa, oc, rfl, hoa⟩ := own_slice hown3
      obtain ⟨ia, ic, hu6, hia⟩ := unhide HSlice
      rw [hni] at hu6
      subst hu6
      obtain ⟨i1, hi1, hy0, hy1, hy2⟩ := info_parts infoI
      obtain ⟨w4, hmk, hrow4, hg4⟩ := run_make_full (P := Tryz.prog) w3 w3.heap.size 33 3 i1 (.int .i64 0) 1 Tryz.underlying33 hi1 hy0 hy1 .i64 .i64 i (by rw [hy2]; omega) (by unfold maxLen; omega) (Nat.le_refl _)
      have HF := hide (And.intro hmr (And.intro hown3 (And.intro hb3 (And.intro hrow4 hg4))))
      have HOA := hide hoa
      have HIA := hide hia
      clear hmr hown3 hb3 hrow4 hg4 hoa hia HMg HSlice
      generalize hno : out.length = no at *
      subst hlen
      go_wp2_with fail
      go_loopw [14, 15, 16] (fun jV _ _ wz => ∃ j : Nat, j ≤ no ∧ jV = .int .i64 j ∧ Hid (wz.ownsRow w3.heap.size 3 1 (.slice (some ⟨w3.heap.size, 0, none⟩) i i) i (atRow out i j) ∧ w4.grownBy wz (some w3.heap.size))) (fun jV _ _ _ => no - (RowKit.intOf jV).toNat)
      case atStart =>
        refine ⟨0, by omega, rfl, ?_, ⟨rfl, rfl, rfl, Nat.le_refl _, fun _ _ _ => rfl⟩⟩
        have h4 := (unhide HF).2.2.2.1
        rw [Nat.mul_one, show (Value.int .i64 0).cells = #[.int .i64 0] from rfl, toList_madeCells_one] at h4
        rw [atRow_zero]
        exact h4
      case round =>
        obtain ⟨j, hjn, rfl, HZ⟩ := hrel
        by_cases hj : j < no
        · have hdj : decide ((j : Int) < (no : Int)) = true := by simp; omega
          obtain ⟨hmr, hown3, hb3, hrow4, hg4⟩ := unhide HF
          obtain ⟨hzr, hzg⟩ := unhide HZ
          -- blocks that were there before 'at'
          have hold : ∀ k', k' < w3.heap.size → wr.heap[k']? = w3.heap[k']? := fun k' hk' => (hzg.block k' (Nat.lt_of_lt_of_le hk' hg4.size) (by simp; omega)).trans (hg4.block k' hk' (by simp))
          have hkn := out_known (unhide HO) (by rw [hni]; exact hni6)
          obtain ⟨m1, m2, m3⟩ := merge_each hkn hmr (fun _ => 0) (ins_PsOk vs) j (by rw [hno]; exact hj)
          have hset := atRow_set out i j (by rw [hno]; exact hj)
          rw [Nat.zero_add] at m2 m3
          have hlsl : (lsOf vs).length = i := by unfold lsOf; rw [List.length_map, hni]
          rw [hlsl] at m1
          rw [lsOf_getD] at m2 m3
          have hrise : r = true → ∀ j', j' + 1 < no → (out.getD j' (0, 0)).1 < (out.getD (j' + 1) (0, 0)).1 ∨ ((out.getD j' (0, 0)).1 = (out.getD (j' + 1) (0, 0)).1 ∧ (out.getD j' (0, 0)).2 / 100 ≤ (out.getD (j' + 1) (0, 0)).2 / 100) := fun hr j' hj' => by
            subst hr
            exact merge_rises hkn hmr (fun _ => 0) (ins_PsOk vs) (out_rise (unhide HO)) j' (by rw [hno]; exact hj')
          obtain ⟨go, rfl⟩ := unhide HOA (by omega)
          obtain ⟨gi, rfl⟩ := unhide HIA (by omega)
          have hgo := (hown3.lt go rfl).2
          have hcell3 : ∀ (g' o' : Nat), g' < w3.heap.size → wr.cell? ⟨g', o', none⟩ = w3.cell? ⟨g', o', none⟩ := fun g' o' hg' => World.cell?_of_block (w := w3) (hold g' hg')
          have co0 := (hcell3 go (j * 2) hgo).trans ((hown3.cellAt (j * 2) (by omega)).trans (flat_get0 out j (by omega)))
          have co1 := (hcell3 go (j * 2 + 1) hgo).trans ((hown3.cellAt (j * 2 + 1) (by omega)).trans (flat_get1 out j (by omega)))
          have hir := (unhide HO).row
          rw [hni] at hir
          have hgi := (hir.lt gi rfl).2
          have hgi3 : gi < w3.heap.size := Nat.lt_of_lt_of_le hgi hb3.size
          obtain ⟨x, hx⟩ : ∃ x, x = (out.getD j (0, 0)).2 / 100 := ⟨_, rfl⟩
          rw [← hx] at m1 m2 m3 hset
          have ci0 : wr.cell? ⟨gi, x, none⟩ = some (vs.getD x nilP).1 := (hcell3 gi x hgi3).trans ((hb3.cell (p := ⟨gi, x, none⟩) hgi).trans ((hir.cellAt x (by omega)).trans (by
            rw [List.getElem?_map, List.getD_eq_getElem?_getD, List.getElem?_eq_getElem (by omega)]; rfl)))
          have hxm := getD_memL (vs := vs) (j := x) (by omega)
          obtain ⟨xa, xc, hxv, hxl, hxc⟩ := (unhide HO).rd _ hxm
          obtain ⟨gx, ox, hgx, rfl, hxcell⟩ := hxc (by show 0 < (vs.getD x nilP).2.length; omega)
          have hgx3 : gx < w3.heap.size := Nat.lt_of_lt_of_le hgx.1 hb3.size
          rw [hxv] at ci0
          obtain ⟨c, hc⟩ : ∃ c, c = cntV out j x := ⟨_, rfl⟩
          rw [← hc] at m2 m3 hset
          have cx0 : wr.cell? ⟨gx, ox + c * 2, none⟩ = some (.int .i64 (out.getD j (0, 0)).1) := by
            rw [hcell3 gx _ hgx3, hb3.cell (p := ⟨gx, ox + c * 2, none⟩) hgx.1, Nat.mul_comm c 2, (hxcell c m2).1, m3]
          have cx1 : wr.cell? ⟨gx, ox + c * 2 + 1, none⟩ = some (.int .u64 (out.getD j (0, 0)).2) := by
            rw [hcell3 gx _ hgx3, hb3.cell (p := ⟨gx, ox + c * 2 + 1, none⟩) hgx.1, Nat.mul_comm c 2, (hxcell c m2).2, m3]
          have ca0 : wr.cell? ⟨w3.heap.size, x, none⟩ = some (.int .i64 c) := (hzr.cellAt x (by omega)).trans (by rw [atRow_get out i j x m1, hc])
          have fa0 := hzr.frozenAt x
          have hstore := hzr.stored x (.int .i64 ((c + 1 : Nat) : Int))
          rw [hset] at hstore
          have HSt : Hid ((wr.setCell ⟨w3.heap.size, x, none⟩ (.int .i64 ((c + 1 : Nat) : Int))).ownsRow w3.heap.size 3 1 (.slice (some ⟨w3.heap.size, 0, none⟩) i i) i (atRow out i (j + 1)) ∧ w4.grownBy (wr.setCell ⟨w3.heap.size, x, none⟩ (.int .i64 ((c + 1 : Nat) : Int))) (some w3.heap.size)) := ⟨hstore.1, grow_two hzg hstore.2⟩
          have hcl : c < 40 := Nat.lt_of_lt_of_le m2 (by
            have := (hkn.2 x (by rw [hlsl]; exact m1)).1
            rw [lsOf_getD] at this
            exact this)
          have hVl : (out.getD j (0, 0)).2 < 1000 := by
            have h1 := (hkn.2 x (by rw [hlsl]; exact m1)).2 c (by rw [lsOf_getD]; exact m2)
            rw [lsOf_getD, m3] at h1
            omega
          have hxI : (((out.getD j (0, 0)).2 : Nat) : Int) / 100 = (x : Int) := by rw [hx]; exact (Int.natCast_ediv _ 100).symm
          have HRi := hide hrise
          have HPv : Hid (∀ j', j' < no → wr.cell? ⟨go, j' * 2, none⟩ = some (.int .i64 (out.getD j' (0, 0)).1) ∧ wr.cell? ⟨go, j' * 2 + 1, none⟩ = some (.int .u64 (out.getD j' (0, 0)).2) ∧ (out.getD j' (0, 0)).2 < 1000) := fun j' hj' => by
            refine ⟨(hcell3 go (j' * 2) hgo).trans ((hown3.cellAt (j' * 2) (by omega)).trans (flat_get0 out j' (by omega))), (hcell3 go (j' * 2 + 1) hgo).trans ((hown3.cellAt (j' * 2 + 1) (by omega)).trans (flat_get1 out j' (by omega))), ?_⟩
            obtain ⟨n1, n2, n3⟩ := merge_each hkn hmr (fun _ => 0) (ins_PsOk vs) j' (by rw [hno]; exact hj')
            have h1 := (hkn.2 _ n1).2 _ n2
            have h2 := (hkn.2 _ n1).1
            rw [n3] at h1
            have h3 := hkn.1
            omega
          have hgo3 := hgo
          have HXd := hide hx
          generalize hlx : (vs.getD x nilP).2.length = nx at *
          clear hrise hx hmr hown3 hrow4 hg4 hzr hzg hold hkn hset m3 hxv hxm hxl hxcell hstore hcell3 hc HZ hir
          generalize hTj : (out.getD j (0, 0)).1 = T at *
          generalize hVj : (out.getD j (0, 0)).2 = V at *
          have hd1 : decide ((i : Int) ≤ (x : Int)) = false := by simp; omega
          have hd2 : decide ((nx : Int) ≤ (c : Int)) = false := by simp; omega
          cases r with
          | false =>
            go_wp2_with fail
            go_quiet (fail)
            have ca1 : (wr.drewN nq).cell? ⟨w3.heap.size, x, none⟩ = some (.int .i64 c) := ca0
            have fa1 : (wr.drewN nq).frozen? ⟨w3.heap.size, x, none⟩ = false := fa0
            have HSt2 : Hid (((wr.drewN nq).setCell ⟨w3.heap.size, x, none⟩ (.int .i64 ((c + 1 : Nat) : Int))).ownsRow w3.heap.size 3 1 (.slice (some ⟨w3.heap.size, 0, none⟩) i i) i (atRow out i (j + 1)) ∧ w4.grownBy ((wr.drewN nq).setCell ⟨w3.heap.size, x, none⟩ (.int .i64 ((c + 1 : Nat) : Int))) (some w3.heap.size)) := by
              obtain ⟨h1, h2⟩ := unhide HSt
              exact ⟨h1, ⟨h2.os, h2.tape, h2.output, h2.size, h2.block⟩⟩
            go_wp2_with fail
            go_roundw
            case rel => exact ⟨j + 1, by omega, by push_cast; rfl, HSt2⟩
            case measure => simp [RowKit.intOf]; omega
          | true =>
            by_cases hj0 : j = 0
            · subst hj0
              go_wp2_with fail
              go_quiet (fail)
              have ca1 : (wr.drewN nq).cell? ⟨w3.heap.size, x, none⟩ = some (.int .i64 c) := ca0
              have fa1 : (wr.drewN nq).frozen? ⟨w3.heap.size, x, none⟩ = false := fa0
              have HSt2 : Hid (((wr.drewN nq).setCell ⟨w3.heap.size, x, none⟩ (.int .i64 ((c + 1 : Nat) : Int))).ownsRow w3.heap.size 3 1 (.slice (some ⟨w3.heap.size, 0, none⟩) i i) i (atRow out i (0 + 1)) ∧ w4.grownBy ((wr.drewN nq).setCell ⟨w3.heap.size, x, none⟩ (.int .i64 ((c + 1 : Nat) : Int))) (some w3.heap.size)) := by
                obtain ⟨h1, h2⟩ := unhide HSt
                exact ⟨h1, ⟨h2.os, h2.tape, h2.output, h2.size, h2.block⟩⟩
              go_wp2_with fail
              go_roundw
              case rel => exact ⟨0 + 1, by omega, by push_cast; rfl, HSt2⟩
              case measure => simp [RowKit.intOf]; omega
            · skip
              have hjp : 0 < j := by omega
              have hj1 : j - 1 + 1 = j := by omega
              have hri := unhide HRi rfl (j - 1) (by omega)
              rw [hj1, hTj, hVj] at hri
              obtain ⟨cp0, cp1, hVp⟩ := unhide HPv (j - 1) (by omega)
              obtain ⟨y, hy⟩ : ∃ y, y = (out.getD (j - 1) (0, 0)).2 / 100 := ⟨_, rfl⟩
              rw [← hy, ← unhide HXd] at hri
              have hyI : (((out.getD (j - 1) (0, 0)).2 : Nat) : Int) / 100 = (y : Int) := by rw [hy]; exact (Int.natCast_ediv _ 100).symm
              clear hy
              generalize (out.getD (j - 1) (0, 0)).1 = Tp at *
              generalize (out.getD (j - 1) (0, 0)).2 = Vp at *
              have HS5 := hide (And.intro hri (And.intro cp0 (And.intro cp1 (And.intro hVp hyI))))
              clear hri cp0 cp1 hVp hyI hj1
              have hd0 : decide ((0 : Int) < (j : Int)) = true := decide_eq_true (by omega)
              go_wp2_with fail
              go_quiet (fail)
              have ca1 : (wr.drewN nq).cell? ⟨w3.heap.size, x, none⟩ = some (.int .i64 c) := ca0
              have fa1 : (wr.drewN nq).frozen? ⟨w3.heap.size, x, none⟩ = false := fa0
              have HSt2 : Hid (((wr.drewN nq).setCell ⟨w3.heap.size, x, none⟩ (.int .i64 ((c + 1 : Nat) : Int))).ownsRow w3.heap.size 3 1 (.slice (some ⟨w3.heap.size, 0, none⟩) i i) i (atRow out i (j + 1)) ∧ w4.grownBy ((wr.drewN nq).setCell ⟨w3.heap.size, x, none⟩ (.int .i64 ((c + 1 : Nat) : Int))) (some w3.heap.size)) := by
                obtain ⟨h1, h2⟩ := unhide HSt
                exact ⟨h1, ⟨h2.os, h2.tape, h2.output, h2.size, h2.block⟩⟩
              obtain ⟨hri, cp0, cp1, hVp, hyI⟩ := unhide HS5
              have HRI := hide hri
              clear hri
              go_wp2_with fail
              obtain ⟨W5, hW5⟩ : ∃ W5, (wr.drewN nq).setCell ⟨w3.heap.size, x, none⟩ (.int .i64 ((c : Int) + 1)) = W5 := ⟨_, rfl⟩
              have dp0 : W5.cell? ⟨go, (j - 1) * 2, none⟩ = some (.int .i64 Tp) := by
                rw [← hW5]; exact (World.cell?_of_block (w := wr.drewN nq) (heap_setCell_other _ ⟨w3.heap.size, x, none⟩ go _ (by show go ≠ w3.heap.size; omega))).trans cp0
              have do0 : W5.cell? ⟨go, j * 2, none⟩ = some (.int .i64 T) := by
                rw [← hW5]; exact (World.cell?_of_block (w := wr.drewN nq) (heap_setCell_other _ ⟨w3.heap.size, x, none⟩ go _ (by show go ≠ w3.heap.size; omega))).trans co0
              have HSt5 : Hid (W5.ownsRow w3.heap.size 3 1 (.slice (some ⟨w3.heap.size, 0, none⟩) i i) i (atRow out i (j + 1)) ∧ w4.grownBy W5 (some w3.heap.size)) := by
                rw [← hW5]; exact unhide HSt2
              rw [hW5]
              clear hW5 HSt2 cp0 cp1 co0 co1 ca0 ca1 fa0 fa1 ci0 cx0 cx1
              rcases unhide HRI with hlt | ⟨heq, hyx⟩
              · have hg1 : decide (T < Tp) = false := by simp; omega
                have hg2 : (Tp == T) = false := by simp; omega
                go_quiet (fail)
                go_wp2_with fail
                go_roundw
                case rel => exact ⟨j + 1, by omega, by push_cast; rfl, (unhide HSt5).1, ⟨(unhide HSt5).2.os, (unhide HSt5).2.tape, (unhide HSt5).2.output, (unhide HSt5).2.size, (unhide HSt5).2.block⟩⟩
                case measure => simp [RowKit.intOf]; omega
              · subst heq
                have hg3 : decide ((x : Int) < (y : Int)) = false := by simp; omega
                go_quiet (fail)
                go_wp2_with fail
                go_roundw
                case rel => exact ⟨j + 1, by omega, by push_cast; rfl, (unhide HSt5).1, ⟨(unhide HSt5).2.os, (unhide HSt5).2.tape, (unhide HSt5).2.output, (unhide HSt5).2.size, (unhide HSt5).2.block⟩⟩
                case measure => simp [RowKit.intOf]; omega
        · obtain rfl : j = no := by omega
          have hdj : decide ((j : Int) < (j : Int)) = false := by simp
          go_wp2_with fail
          go_ret
          obtain ⟨_, _, hb3, _, hg4⟩ := unhide HF
          obtain ⟨_, hzg⟩ := unhide HZ
          have h1 := (unhide HO).bel
          have h2 := h1.size
          have h3 := hb3.size
          refine ⟨rfl, h1.trans ⟨hzg.os.trans (hg4.os.trans hb3.os), hzg.tape.trans (hg4.tape.trans hb3.tape), hzg.output.trans (hg4.output.trans hb3.output), Nat.le_trans h3 (Nat.le_trans hg4.size hzg.size), fun k' hk' => ?_⟩⟩
          exact (hzg.block k' (Nat.lt_of_lt_of_le (by omega : k' < w3.heap.size) hg4.size) (by simp; omega)).trans ((hg4.block k' (by omega) (by simp)).trans (hb3.block k' (by omega)))
end Go.Proofs.YtgekdmjneogdoabGreatDoor
