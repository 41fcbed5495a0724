import Derived.Test.YtgekdmjneogdoaaGreatDoorZJm1
import Derived.Deep.RegionHeld3
namespace Go.Proofs.YtgekdmjneogdoaaGreatDoor
open Go.RowKit Go.Shelf Go.Maps

set_option maxRecDepth 20000 in
set_option maxHeartbeats 400000 in
theorem lawpick_any (c : Int) (n : Nat) (w : World) (hc1 : -9223372036854775808 ≤ c) (hc2 : c ≤ 9223372036854775807) (hn : 1 ≤ n) (hn2 : n ≤ 9000000000000) :
    Calls Tryz.prog 70 #[.int .i64 c, .int .i64 n] w fun e w' => e = .returned (.int .i64 (pickN c n)) ∧ w' = w := by
  have hp : pickN c n = (if c < 0 then -(c + 1) else c).toNat % n := rfl
  rcases Int.lt_or_le c 0 with h | h
  · obtain ⟨m, hm⟩ : ∃ m : Nat, -(c + 1) = (m : Int) := ⟨(-(c + 1)).toNat, by omega⟩
    rw [if_pos h, hm, Int.toNat_natCast] at hp
    have hlt : m % n < n := Nat.mod_lt _ (by omega)
    have hq : (m : Int) % (n : Int) = ((m % n : Nat) : Int) := (Int.natCast_emod m n).symm
    have HQ := hide (And.intro hp hq)
    have hm2 : m ≤ 9223372036854775807 := by omega
    obtain rfl : c = -(m : Int) - 1 := by omega
    clear hp hq hm
    go_enter Tryz.func70, Tryz.ntmps70
    go_wp2_with fail
    go_ret
    refine ⟨?_, rfl⟩
    apply retI
    rw [(unhide HQ).1]
    have h2 := (unhide HQ).2
    have h3 : wrap64 (-(wrap64 (-(m : Int) - 1 + 1))) = (m : Int) := by unfold wrap64; omega
    have h4 : -(-(m : Int) - 1 + 1) = (m : Int) := by omega
    first
      | (rw [h3, h2]; done)
      | (rw [h4, h2]; done)
      | (rw [← h2]; done)
      | (rw [← h2]; congr 1; omega)
  · obtain ⟨m, rfl⟩ : ∃ m : Nat, c = (m : Int) := ⟨c.toNat, by omega⟩
    rw [if_neg (by omega), Int.toNat_natCast] at hp
    have hlt : m % n < n := Nat.mod_lt _ (by omega)
    have hq : (m : Int) % (n : Int) = ((m % n : Nat) : Int) := (Int.natCast_emod m n).symm
    have HQ := hide (And.intro hp hq)
    clear hp hq
    go_enter Tryz.func70, Tryz.ntmps70
    go_wp2_with fail
    go_ret
    refine ⟨?_, rfl⟩
    apply retI
    rw [(unhide HQ).1]
    have h2 := (unhide HQ).2
    rw [h2]


theorem pair_read {w0 w : World} {zb : Nat} {av : Value} {ps : List Pr} {tot : Nat} (h : WS w0 w zb av ps tot) : ∃ ao cap, av = .slice ao ps.length cap ∧ ps.length ≤ cap ∧ (0 < ps.length → ∃ g o, g < w.heap.size ∧ ao = some ⟨g, o, none⟩ ∧ ∀ (j : Nat) (p : Pr), ps[j]? = some p → w.cell? ⟨g, o + j * 2, none⟩ = some (.pointer (some ⟨p.mb, 0, none⟩)) ∧ w.cell? ⟨g, o + j * 2 + 1, none⟩ = some (.pointer (some ⟨p.yb, 0, none⟩))) := by
  have hlt := h.row.lt
  rcases h.row.2 with ⟨rfl, h0⟩ | ⟨g, cap, cur, rfl, hb, hg, hn, hm, hsz, ht⟩
  · exact ⟨none, 0, by rw [h0], by omega, fun h1 => by omega⟩
  · refine ⟨_, cap, rfl, hn, fun _ => ⟨g, 0, (hlt g rfl).2, rfl, fun j p hj => ?_⟩⟩
    have hc : ∀ (i : Nat) (u : Value), (flatP ps)[i]? = some u → w.cell? ⟨g, i, none⟩ = some u := by
      intro i u hu
      rw [cell_of_row w g i cur _ _ hg]
      rw [← ht, List.getElem?_take] at hu
      split at hu
      · simpa using hu
      · cases hu
    have hf := flatP_get ps j p hj
    rw [Nat.zero_add]
    exact ⟨hc _ _ hf.1, hc _ _ hf.2⟩

set_option maxRecDepth 40000 in
set_option maxHeartbeats 1600000 in
theorem step_new {w0 w : World} {zb : Nat} {av : Value} {ps : List Pr} {tot : Nat} (h : WS w0 w zb av ps tot) (wn A B Cc : Int) (S : ByteArray) (V U : Nat) (Lv : Value) (ht : tot < 1900000000000) :
    Calls Tryz.prog 37 #[.pointer (some ⟨zb, 0, none⟩), opV 7 wn A B Cc S V U Lv] w fun e w' => e = .returned (.bool true) ∧ ∃ av' ps', WS w0 w' zb av' ps' (tot + 1) ∧ ps.length ≤ ps'.length := by
  have hba : Below w.heap.size w (w.alloc (opB 7 wn A B Cc S V U Lv)) := (Below.refl _ w).alloc (Nat.le_refl _) _
  have hM : Calls Tryz.prog 36 #[.pointer (some ⟨zb, 0, none⟩), .int .i64 A, .int .i64 B] (w.alloc (opB 7 wn A B Cc S V U Lv)) fun e w' => e = .returned (.bool true) ∧ ∃ av' ps', WS w0 w' zb av' ps' (tot + 1) ∧ ps.length ≤ ps'.length := by
    by_cases hp : newOk A B
    · refine (made_ok (h.below hba) A B hp (by omega)).mono ?_
      rintro e w' ⟨h1, av', ps', h2, h3⟩
      exact ⟨h1, av', ps', h2, by omega⟩
    · refine (made_bad (h.below hba) A B hp).mono ?_
      rintro e w' ⟨h1, h2⟩
      exact ⟨h1, av, ps, h2.more (by omega), Nat.le_refl _⟩
  have HM := hide hM
  clear h hba hM
  go_enter Tryz.func37, Tryz.ntmps37
  go_wp2_with fail
  refine (unhide HM).mono ?_
  rintro e w1 ⟨rfl, hh⟩
  have HH := hide hh
  clear hh HM
  go_wp2_with fail
  go_ret
  exact ⟨rfl, unhide HH⟩

set_option maxRecDepth 40000 in
set_option maxHeartbeats 3200000 in
theorem step_met {w0 w : World} {zb : Nat} {av : Value} {ps : List Pr} {tot : Nat} (h : WS w0 w zb av ps tot) (kd : Int) (hkd : 8 ≤ kd ∧ kd ≤ 11) (wn A B Cc : Int) (S : ByteArray) (V U : Nat) (Lv : Value) (hw1 : -9223372036854775808 ≤ wn) (hw2 : wn ≤ 9223372036854775807) (hV : V < 18446744073709551616) (ht : tot < 1900000000000) (h1 : 1 ≤ ps.length) :
    Calls Tryz.prog 37 #[.pointer (some ⟨zb, 0, none⟩), opV kd wn A B Cc S V U Lv] w fun e w' => e = .returned (.bool true) ∧ ∃ ps', WS w0 w' zb av ps' (tot + 1) ∧ ps'.length = ps.length := by
  have hba : Below w.heap.size w (w.alloc (opB kd wn A B Cc S V U Lv)) := (Below.refl _ w).alloc (Nat.le_refl _) _
  have h2 := h.below hba
  have hob : (w.alloc (opB kd wn A B Cc S V U Lv)).heap[w.heap.size]? = some (opB kd wn A B Cc S V U Lv) := heap_alloc_new w _
  have hlen := h2.len
  obtain ⟨p, hp⟩ : ∃ p, ps[pickN wn ps.length]? = some p := ⟨_, List.getElem?_eq_getElem (pickN_lt wn ps.length (by omega))⟩
  have HPk := hide (fun w => lawpick_any wn ps.length w hw1 hw2 h1 (by omega))
  have hpl := pickN_lt wn ps.length (by omega)
  obtain ⟨ao, cap, rfl, hcap, hcells⟩ := pair_read h2
  obtain ⟨g, o, hg, rfl, hce⟩ := hcells (by omega)
  have e1 := (hce _ p hp).1
  have e2 := (hce _ p hp).2
  have c0 := h2.c0
  have H2 := hide h2
  have HI := hide hp
  have HOb := hide hob
  have HKd := hide hkd
  have HV := hide hV
  clear h h2 hcells hce hp hob hkd hV hba
  generalize pickN wn ps.length = i at *
  generalize hN : ps.length = n at *
  have k1 : (kd == 1) = false := by simp; have := unhide HKd; omega
  have k2 : (kd == 2) = false := by simp; have := unhide HKd; omega
  have k3 : (kd == 3) = false := by simp; have := unhide HKd; omega
  have k4 : (kd == 4) = false := by simp; have := unhide HKd; omega
  have k5 : (kd == 5) = false := by simp; have := unhide HKd; omega
  have k6 : (kd == 6) = false := by simp; have := unhide HKd; omega
  have k7 : (kd == 7) = false := by simp; have := unhide HKd; omega
  have k8 : decide (kd < 8) = false := by simp; have := unhide HKd; omega
  have k9 : decide (13 < kd) = false := by simp; have := unhide HKd; omega
  go_enter Tryz.func37, Tryz.ntmps37
  go_wp2_with fail
  generalize hwa : w.alloc (opB kd wn A B Cc S V U Lv) = wa at *
  generalize w.heap.size = ob at *
  have hob := unhide HOb
  have o0 : wa.cell? ⟨ob, 0, none⟩ = some (.int .i64 kd) := by simp [World.cell?, hob]
  have o1 : wa.cell? ⟨ob, 1, none⟩ = some (.int .i64 wn) := by simp [World.cell?, hob]
  have o2 : wa.cell? ⟨ob, 2, none⟩ = some (.int .i64 A) := by simp [World.cell?, hob]
  have o3 : wa.cell? ⟨ob, 3, none⟩ = some (.int .i64 B) := by simp [World.cell?, hob]
  have o4 : wa.cell? ⟨ob, 4, none⟩ = some (.int .i64 Cc) := by simp [World.cell?, hob]
  have o5 : wa.cell? ⟨ob, 5, none⟩ = some (.string S) := by simp [World.cell?, hob]
  have o6 : wa.cell? ⟨ob, 6, none⟩ = some (.int .u64 V) := by simp [World.cell?, hob]
  have o7 : wa.cell? ⟨ob, 7, none⟩ = some (.int .u64 U) := by simp [World.cell?, hob]
  have o8 : wa.cell? ⟨ob, 8, none⟩ = some Lv := by simp [World.cell?, hob]
  have h3 := (unhide H2).below (below_drewn wa 1)
  have HMe : Hid (Calls Tryz.prog 69 #[pairV p.mb p.yb, opV kd wn A B Cc S V U Lv] wa.drew fun e w' => e = .returned (.bool true) ∧ Nxt wa.drew p.mb p.yb p.n p.W p.l p.kb p.ms p.v w' ∧ w'.heap[zb]? = wa.heap[zb]? ∧ w'.heap[ob]? = wa.heap[ob]? ∧ w'.heap[g]? = wa.heap[g]?) := by
    have hpo := h3.ok p (List.mem_of_getElem? (unhide HI))
    refine (meters_any hpo (by have := h3.few p (List.mem_of_getElem? (unhide HI)); omega) kd (unhide HKd) wn A B Cc S V U Lv (unhide HV)).mono ?_
    rintro e w' ⟨q1, q2⟩
    obtain ⟨C', l', kb', ms', v', r1, r2, r3⟩ := q2
    refine ⟨q1, ⟨C', l', kb', ms', v', r1, r2, r3⟩, ?_, ?_, ?_⟩
    · exact r2.keep zb (Array.getElem?_eq_some_iff.1 h3.hz).1 (hpo.no h3.hz (Or.inl rfl))
    · exact r2.keep ob (Array.getElem?_eq_some_iff.1 hob).1 (hpo.no (w := wa.drewN 1) hob (Or.inr (Or.inr rfl)))
    · exact r2.keep g hg ((h3.rowNo g rfl).2 p hpo)
  have H3 : Hid (WS w0 wa.drew zb (.slice (some ⟨g, o, none⟩) n cap) ps tot) := h3
  clear hwa h3 hob HOb H2 k1 k2 k3 k4 k5 k6 k7 k8 k9
  generalize hpm : p.mb = mb at *
  generalize hpy : p.yb = yb at *
  have HMb := hide (And.intro hpm hpy)
  clear hpm hpy
  go_region_held (fun w' => w'.cell? ⟨zb, 0, none⟩ = some (.slice (some ⟨g, o, none⟩) n cap) ∧ w'.cell? ⟨g, o + i * 2, none⟩ = some (.pointer (some ⟨mb, 0, none⟩)) ∧ w'.cell? ⟨g, o + i * 2 + 1, none⟩ = some (.pointer (some ⟨yb, 0, none⟩)) ∧ w'.cell? ⟨ob, 0, none⟩ = some (.int .i64 kd) ∧ w'.cell? ⟨ob, 1, none⟩ = some (.int .i64 wn) ∧ w'.cell? ⟨ob, 2, none⟩ = some (.int .i64 A) ∧ w'.cell? ⟨ob, 3, none⟩ = some (.int .i64 B) ∧ w'.cell? ⟨ob, 4, none⟩ = some (.int .i64 Cc) ∧ w'.cell? ⟨ob, 5, none⟩ = some (.string S) ∧ w'.cell? ⟨ob, 6, none⟩ = some (.int .u64 V) ∧ w'.cell? ⟨ob, 7, none⟩ = some (.int .u64 U) ∧ w'.cell? ⟨ob, 8, none⟩ = some Lv) (go_keep)
    (first
      | (go_at_call 70; refine (unhide HPk _).mono ?_; rintro e w' ⟨rfl, rfl⟩)
      | (go_at_call 69; refine (unhide HMe).mono ?_; rintro e w' ⟨rfl, hNx, x1, x2, x3⟩; have y0 : w'.cell? ⟨zb, 0, none⟩ = some (.slice (some ⟨g, o, none⟩) n cap) := (World.cell?_of_block (w := wa) (a := ⟨zb, 0, none⟩) x1).trans c0; have y1 : w'.cell? ⟨g, o + i * 2, none⟩ = some (.pointer (some ⟨mb, 0, none⟩)) := (World.cell?_of_block (w := wa) (a := ⟨g, o + i * 2, none⟩) x3).trans e1; have y2 : w'.cell? ⟨g, o + i * 2 + 1, none⟩ = some (.pointer (some ⟨yb, 0, none⟩)) := (World.cell?_of_block (w := wa) (a := ⟨g, o + i * 2 + 1, none⟩) x3).trans e2; have z0 := (World.cell?_of_block (w := wa) (a := ⟨ob, 0, none⟩) x2).trans o0; have z1 := (World.cell?_of_block (w := wa) (a := ⟨ob, 1, none⟩) x2).trans o1; have z2 := (World.cell?_of_block (w := wa) (a := ⟨ob, 2, none⟩) x2).trans o2; have z3 := (World.cell?_of_block (w := wa) (a := ⟨ob, 3, none⟩) x2).trans o3; have z4 := (World.cell?_of_block (w := wa) (a := ⟨ob, 4, none⟩) x2).trans o4; have z5 := (World.cell?_of_block (w := wa) (a := ⟨ob, 5, none⟩) x2).trans o5; have z6 := (World.cell?_of_block (w := wa) (a := ⟨ob, 6, none⟩) x2).trans o6; have z7 := (World.cell?_of_block (w := wa) (a := ⟨ob, 7, none⟩) x2).trans o7; have z8 := (World.cell?_of_block (w := wa) (a := ⟨ob, 8, none⟩) x2).trans o8))
  all_goals
    go_wp2_with fail
    go_ret
    obtain ⟨q1, q2⟩ := unhide HMb
    obtain ⟨ps', r1, r2⟩ := (unhide H3).stepped i p (unhide HI) (by rw [q1, q2]; exact hNx)
    exact ⟨rfl, ps', r1, by rw [r2, hN]⟩
end Go.Proofs.YtgekdmjneogdoaaGreatDoor
