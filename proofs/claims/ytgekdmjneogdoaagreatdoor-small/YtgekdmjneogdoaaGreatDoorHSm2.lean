import Derived.Test.YtgekdmjneogdoaaGreatDoorHAk1
import Derived.Test.YtgekdmjneogdoaaGreatDoorHPk
namespace Go.Proofs.YtgekdmjneogdoaaGreatDoor
open Go.RowKit Go.Shelf Go.Maps

theorem wI_wrap (x : Int) : wrap64 x = wI x := by unfold wrap64 wI; omega

theorem ev_time (t d : Int) (j : Nat) : wrap64 (t + wrap64 ((j : Int) * d)) = wI (t + (j : Int) * d) := by
  generalize (j : Int) * d = y
  unfold wrap64 wI; omega

theorem rds_take {K : Nat → Prop} {w : World} {ao : Option Addr} {n cap m : Nat} {l : List Smp} (h : RdS K w (.slice ao n cap) l) (hm : m ≤ l.length) (h0 : 0 < m) : RdS K w (.slice ao m cap) (l.take m) := by
  obtain ⟨a, c, h1, h2, h3⟩ := h
  cases h1
  refine ⟨ao, cap, by rw [List.length_take, Nat.min_eq_left hm], by rw [List.length_take]; omega, fun _ => ?_⟩
  obtain ⟨g, o, k1, k2, k3⟩ := h3 (by omega)
  refine ⟨g, o, k1, k2, fun j hj => ?_⟩
  have hj2 : j < m := by rw [List.length_take] at hj; omega
  have := k3 j (by omega)
  have e : (l.take m).getD j (0, 0) = l.getD j (0, 0) := by
    rw [List.getD_eq_getElem?_getD, List.getD_eq_getElem?_getD, List.getElem?_take_of_lt hj2]
  rw [e]
  exact this

theorem RdS.more {K J : Nat → Prop} {w : World} {v : Value} {l : List Smp} (h : RdS K w v l) (hj : ∀ k, K k → J k) : RdS J w v l := by
  obtain ⟨ao, cap, h1, h2, h3⟩ := h
  refine ⟨ao, cap, h1, h2, fun h0 => ?_⟩
  obtain ⟨g, o, h4, h5, h6⟩ := h3 h0
  exact ⟨g, o, hj g h4, h5, h6⟩

theorem bytesOf_size (c : List Nat) : (bytesOf c).size = c.length := by
  simp [bytesOf, ByteArray.size]

theorem ev_two_len (t d : Int) (v : Nat) (hv : v < 18446744073709551616) : (chunkN (evL t d v 2)).length ≤ 100 := by
  have h := evL_snoc t d v 1
  have h1 := evL_snoc t d v 0
  have h0 : evL t d v 0 = [] := rfl
  rw [h0, List.nil_append] at h1
  have hk := chunkN_snoc (evL t d v 1) (wI (t + ((1 : Nat) : Int) * d), v) (by rw [h1]; simp) (evL_ok t d v 1 hv)
  rw [← h] at hk
  have hk2 : (chunkN (evL t d v 2)).length ≤ (chunkN (evL t d v 1)).length + 19 := hk.2
  have h2 : (chunkN (evL t d v 1)).length = 18 := by
    rw [h1, chunkN_length, packN, restN]
    simp [bitsN_length]
  omega

theorem evL_take (t d : Int) (v k m : Nat) (h : m ≤ k) : (evL t d v k).take m = evL t d v m := by
  unfold evL
  rw [← List.map_take, List.take_range, Nat.min_eq_left h]

set_option maxRecDepth 20000 in
set_option maxHeartbeats 1600000 in
theorem small_ok (t d : Int) (v : Nat) (c : Int) (w : World) (_ht1 : -9223372036854775808 ≤ t) (_ht2 : t ≤ 9223372036854775807) (hd1 : -9223372036854775808 ≤ d) (hd2 : d ≤ 9223372036854775807) (hv : v < 18446744073709551616) (hc1 : -9223372036854775808 ≤ c) (hc2 : c ≤ 9223372036854775807)
    (hT : Tabs w) (hC : CTabs w) (hG : GK (Under w)) (hS : SortsTo [halfN, halfN] [halfN]) :
    Calls Tryz.prog 8 #[.int .i64 t, .int .i64 d, .int .u64 v, .int .i64 c] w fun e w' => e = .returned (.bool true) ∧ Below w.heap.size w w' := by
  have HA := hide (awake_ok w hT hC hG hS)
  have HC := hide hC
  have HG := hide hG
  have HP := hide (fun w => pick_any c 39 w hc1 hc2 (by omega) (by omega))
  have hlt := pickN_lt c 39 (by omega)
  have HD : Hid (I64 d) := ⟨hd1, by omega⟩
  obtain ⟨i0, hi, hz0, hz1, hz2⟩ := info_parts infoS
  clear hT hC hG hS
  generalize pickN c 39 = n at *
  go_enter Tryz.func8, Tryz.ntmps8
  go_wp2_with fail
  refine (unhide HA).mono ?_
  rintro e w1 ⟨rfl, hb1⟩
  have HB1 := hide hb1
  clear hb1 HA
  go_wp2_with fail
  refine (unhide HP _).mono ?_
  rintro e w2 ⟨rfl, e2⟩
  rw [e2]
  clear e2 w2 HP
  go_wp2_with fail
  go_loopw [11, 12] (fun s i wr => ∃ j : Nat, j ≤ n + 2 ∧ i = .int .i64 j ∧ Hid (wr.ownsRow w1.heap.size 39 2 s j (flat (evL t d v j))) ∧ Below w1.heap.size w1 wr) (fun _ i _ => n + 2 - (RowKit.intOf i).toNat)
  case atStart => exact ⟨0, by omega, rfl, World.ownsRow_nil _ _ _ _, Below.refl _ _⟩
  case round =>
    obtain ⟨j, hj, rfl, hown, hb⟩ := hrel
    by_cases hjk : j < n + 2
    · have hlen := hb.size
      have ho := unhide hown
      have hlt2 : decide ((j : Int) < 2 + (n : Int)) = true := by simp; omega
      go_wp2_with (first
        | (at_builtin; refine wpList_append_own_at _ rfl _ _ 37 rfl w1.heap.size 39 i0 (.agg #[.int .i64 0, .int .u64 0]) 2 16 Tryz.underlying37 hi hz0 hz1 hz2 rfl (by decide) _ _ _ rfl (ho.alloc _) ⟨wr.heap.size, 0, none⟩ 1 1 [.int .i64 (wI (t + (j : Int) * d)), .int .u64 v] rfl rfl (by rw [← ev_time]; exact cell_two_at _ _ _ _ _ rfl) (by intro u hu; simp at hu; rcases hu with rfl | rfl <;> rfl) (by unfold maxLen; omega) (by omega) (by simp; omega) ?_; intro v' W8 hown' hgrow _ hat)
        | go_in)
      have hw8 : W8.ownsRow w1.heap.size 39 2 v' (j + 1) (flat (evL t d v (j + 1))) := by
        rw [evL_snoc, flat_snoc]; exact hown'
      have hb8 : Below w1.heap.size w1 W8 := (hb.alloc hb.size _).grown hgrow (by simp; omega) (fun k e => (ho.lt k e).1)
      go_roundw
      case rel => exact ⟨j + 1, by omega, rfl, hw8, hb8⟩
      case measure => simp [RowKit.intOf]; omega
    · obtain rfl : j = n + 2 := by omega
      have ho := unhide hown
      obtain ⟨g, cp, rfl⟩ := own_form (n := n + 1) ho
      have hlt2 : decide (((n + 2 : Nat) : Int) < 2 + (n : Int)) = false := by simp; omega
      have hll := evL_length t d v (n + 2)
      have hbw : Below w.heap.size w wr := (unhide HB1).trans (hb.mono (unhide HB1).size)
      have hrd : RdS (Under wr) wr (.slice (some ⟨g, 0, none⟩) (n + 2) cp) (evL t d v (n + 2)) := by
        have h := ho
        rw [← hll] at h
        have h2 := rds_own (l := evL t d v (n + 2)) (by simpa [hll] using ho)
        simpa [hll] using h2
      have hoks := evL_ok t d v (n + 2) hv
      have HPk := hide (pack_ok _ _ wr hrd (by rw [hll]; omega) hoks ((unhide HC).below (unhide HG) hbw) ((unhide HG).below hbw))
      have HR := hide hrd
      have HBw := hide hbw
      have HOk := hide hoks
      clear hrd hbw hoks ho hown hb
      have HLL := hide hll
      clear hll
      go_wp2_with fail
      refine (unhide HPk).mono ?_
      rintro e w3 ⟨rfl, hb3⟩
      have HB3 : Hid (Below w.heap.size w w3) := (unhide HBw).trans (hb3.mono (unhide HBw).size)
      have HR3 : Hid (RdS (Under wr) w3 (.slice (some ⟨g, 0, none⟩) (n + 2) cp) (evL t d v (n + 2))) := (unhide HR).kept (Kept.of_below hb3)
      have hcp : n + 2 ≤ cp := by
        obtain ⟨a, c, h1, h2, _⟩ := unhide HR
        injection h1 with _ _ h6
        rw [unhide HLL, ← h6] at h2
        exact h2
      have hs3 := hb3.size
      clear hb3 HPk HR
      have HU3 : Hid (∀ k, Under wr k → Under w3 k) := fun k hk => Nat.lt_of_lt_of_le hk hs3
      have HPk2 : Hid (Calls Tryz.prog 24 #[.slice (some ⟨g, 0, none⟩) 2 cp] w3 fun e w' => e = .returned (.tuple #[.string (bytesOf (chunkN (evL t d v 2))), .int .i64 0]) ∧ Below w3.heap.size w3 w') := by
        have h1 := rds_take (m := 2) (unhide HR3) (by rw [unhide HLL]; omega) (by omega)
        rw [evL_take t d v (n + 2) 2 (by omega)] at h1
        exact pack_ok _ _ w3 (h1.more (unhide HU3)) (by rw [evL_length]; omega) (evL_ok t d v 2 hv) ((unhide HC).below (unhide HG) (unhide HB3)) ((unhide HG).below (unhide HB3))
      go_wp2_with fail
      refine (unhide HPk2).mono ?_
      rintro e w4 ⟨rfl, hb4⟩
      have HB4 : Hid (Below w.heap.size w w4) := (unhide HB3).trans (hb4.mono (unhide HB3).size)
      have HR4 : Hid (RdS (Under w3) w4 (.slice (some ⟨g, 0, none⟩) (n + 2) cp) (evL t d v (n + 2))) := ((unhide HR3).more (unhide HU3)).kept (Kept.of_below hb4)
      have hs4 := hb4.size
      clear hb4 HPk2 HR3
      have HUn : Hid (Calls Tryz.prog 25 #[.string (bytesOf (chunkN (evL t d v (n + 2))))] w4 fun e w' => ∃ u, e = .returned (.tuple #[u, .int .i64 0]) ∧ w'.ownsRow w4.heap.size 39 2 u (evL t d v (n + 2)).length (flat (evL t d v (n + 2))) ∧ Below w4.heap.size w4 w') := by
        have h := unpack_any (bytesOf (chunkN (evL t d v (n + 2)))) w4 ((unhide HC).below (unhide HG) (unhide HB4)) ((unhide HG).below (unhide HB4))
        rw [natsOf_bytesOf _ (chunkN_lt _), unpackN_chunk _ (by rw [unhide HLL]; omega) (unhide HOk)] at h
        refine Calls.mono h ?_
        rintro e w' ⟨hb, ⟨l, u, h1, h2, h3⟩ | ⟨h1, _⟩⟩
        · cases h1
          exact ⟨u, h2, h3, hb⟩
        · cases h1
      go_wp2_with fail
      refine (unhide HUn).mono ?_
      rintro e w5 ⟨u, rfl, hown5, hb5⟩
      have HB5 : Hid (Below w.heap.size w w5) := (unhide HB4).trans (hb5.mono (unhide HB4).size)
      have hU : ∀ k, Under w3 k → Under w5 k := fun k hk => Nat.lt_of_lt_of_le hk (Nat.le_trans hs4 hb5.size)
      have HSame : Hid (Calls Tryz.prog 26 #[.slice (some ⟨g, 0, none⟩) (n + 2) cp, u] w5 fun e w' => e = .returned (.bool true) ∧ ∃ n, w' = w5.drewN n) := by
        have h1 : RdS (Under w3) w5 (.slice (some ⟨g, 0, none⟩) (n + 2) cp) (evL t d v (n + 2)) := by
          have h2 := unhide HR4
          exact h2.kept ((Kept.of_below hb5).sub (fun k hk => Nat.lt_of_lt_of_le hk hs4))
        exact same_yes (Under w5) _ _ _ w5 (h1.more hU) (rds_own hown5) (by rw [unhide HLL]; omega)
      clear hown5 hb5 HUn HR4 hU
      go_wp2_with fail
      refine (unhide HSame).mono ?_
      rintro e w6 ⟨rfl, q, hw6⟩
      have HB6 : Hid (Below w.heap.size w w6) := by rw [hw6]; exact below_drewN (unhide HB5) q
      clear hw6 HSame
      have hev := even_small t d v n (unhide HD)
      rw [← bytesOf_size, ← bytesOf_size] at hev
      have hq7 : (2 * (n : Int) + 7) / 8 = (((2 * n + 7) / 8 : Nat) : Int) := by omega
      go_wp2_with fail
      go_ret
      refine ⟨?_, unhide HB6⟩
      have h2 := ev_two_len t d v hv
      rw [← bytesOf_size] at h2
      generalize (bytesOf (chunkN (evL t d v (n + 2)))).size = x at hev
      generalize (bytesOf (chunkN (evL t d v 2))).size = y at hev h2
      have hfin : decide ((x : Int) ≤ wrap64 ((y : Int) + (2 * (2 + (n : Int) - 2) + 7) / 8)) = true := by
        rw [decide_eq_true_eq]
        have e0 : 2 * (2 + (n : Int) - 2) + 7 = 2 * (n : Int) + 7 := by omega
        rw [e0, hq7]
        unfold wrap64
        omega
      show Ending.returned (.bool (decide ((_ : Int) ≤ wrap64 ((_ : Int) + (2 * (2 + (n : Int) - 2) + 7) / 8)))) = _
      rw [hfin]
end Go.Proofs.YtgekdmjneogdoaaGreatDoor
