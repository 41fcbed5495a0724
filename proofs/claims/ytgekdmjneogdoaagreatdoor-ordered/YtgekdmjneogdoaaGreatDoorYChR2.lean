import Derived.Test.YtgekdmjneogdoaaGreatDoorYChR1
import Derived.RegionDies
import Derived.Deep.RegionHeld3
namespace Go.Proofs.YtgekdmjneogdoaaGreatDoor
open Go.RowKit

theorem RdrAt.kept {K : Nat → Prop} {w w' : World} {z pos : Nat} {s : ByteArray} (h : RdrAt w z s pos) (hz : K z) (hk : Kept K w w') : RdrAt w' z s pos := by
  obtain ⟨ty, h⟩ := h
  exact ⟨ty, (hk.block z hz).trans h⟩

theorem RdrAt.size {w : World} {z pos : Nat} {s : ByteArray} (h : RdrAt w z s pos) : z < w.heap.size := by
  obtain ⟨ty, h⟩ := h
  exact (Array.getElem?_eq_some_iff.1 h).1

/-- what stays as it is while samples are read -/
structure FixR (K : Nat → Prop) (w : World) (z q : Nat) : Prop where
  zq : z ≠ q
  nz : ¬ K z
  nq : ¬ K q
  inK : ∀ k, K k → k < w.heap.size
  G : GK K

/-- how the reading stands: the reader, the trail -/
structure RS (K : Nat → Prop) (w w1 : World) (z q : Nat) (s : ByteArray) (pos : Nat) (t : Tr) : Prop where
  rdr : RdrAt w1 z s pos
  tr : TrAt w1 q t
  kept : Kept K w w1
  tabs : CTabs w1
  pos : pos ≤ 8 * s.size

abbrev bitsOf (s : ByteArray) (pos : Nat) : List Nat := (cbits (natsOf s)).drop pos

theorem bitsOf_length (s : ByteArray) (pos : Nat) : (bitsOf s pos).length = 8 * s.size - pos := by
  rw [bitsOf, List.length_drop, cbits_length, natsOf_length]

theorem rdL_some (s : ByteArray) (pos n : Nat) (h : pos + n ≤ 8 * s.size) : rdL n (bitsOf s pos) = some (bval ((bitsOf s pos).take n), bitsOf s (pos + n)) := by
  rw [rdL, if_pos (by rw [bitsOf_length]; omega), List.drop_drop]

theorem rdL_none (s : ByteArray) (pos n : Nat) (h : 8 * s.size < pos + n) (hp : pos ≤ 8 * s.size) : rdL n (bitsOf s pos) = none := by
  rw [rdL, if_neg (by rw [bitsOf_length]; omega)]

theorem RS.readOk {K : Nat → Prop} {w w1 : World} {z q pos : Nat} {s : ByteArray} {t : Tr} (h : RS K w w1 z q s pos t) (F : FixR K w z q) (n : Nat) (hn : n ≤ 64) (hb : pos ≤ 900000) (hl : pos + n ≤ 8 * s.size) :
    Calls Tryz.prog 83 #[.pointer (some ⟨z, 0, none⟩), .int .i64 n] w1 fun e w' => e = .returned (.int .u64 (bval ((bitsOf s pos).take n))) ∧ RS K w w' z q s (pos + n) t := by
  refine (read_ok (And1 K q) z pos n s w1 ?_ h.rdr hl (by omega) hn).mono ?_
  · rintro (hh | hh)
    · exact F.nz hh
    · exact F.zq hh
  · rintro e w' ⟨rfl, h1, h2⟩
    have h3 : Kept K w1 w' := h2.sub (fun k hk => Or.inl hk)
    exact ⟨rfl, h1, h.tr.kept h2, h.kept.trans h3, h.tabs.kept F.G h3, hl⟩

theorem RS.readBad {K : Nat → Prop} {w w1 : World} {z q pos : Nat} {s : ByteArray} {t : Tr} (h : RS K w w1 z q s pos t) (F : FixR K w z q) (n : Nat) (hn : n ≤ 64) (hb : pos ≤ 900000) (hl : 8 * s.size < pos + n) :
    Calls Tryz.prog 83 #[.pointer (some ⟨z, 0, none⟩), .int .i64 n] w1 fun e w' => e = .panicked [few] ∧ Kept K w w' := by
  refine (read_bad K z pos n s w1 F.nz h.rdr hl h.pos (by omega) hn).mono ?_
  rintro e w' ⟨rfl, h1⟩
  exact ⟨rfl, h.kept.trans h1⟩

theorem bval_one (s : ByteArray) (pos : Nat) : bval ((bitsOf s pos).take 1) < 2 := by
  have := take_lt (natsOf s) pos 1
  simpa using this

theorem RS.drew {K : Nat → Prop} {w w1 : World} {z q pos : Nat} {s : ByteArray} {t : Tr} (h : RS K w w1 z q s pos t) : RS K w w1.drew z q s pos t := by
  obtain ⟨⟨ty, h1⟩, ⟨ty2, h2⟩, h3, ⟨h4, h5⟩, h6⟩ := h
  exact ⟨⟨ty, h1⟩, ⟨ty2, h2⟩, h3.drew, ⟨h4, h5⟩, h6⟩

theorem RS.drewN {K : Nat → Prop} {w w1 : World} {z q pos : Nat} {s : ByteArray} {t : Tr} (h : RS K w w1 z q s pos t) (n : Nat) (F : FixR K w z q) : RS K w (w1.drewN n) z q s pos t := by
  obtain ⟨⟨ty, h1⟩, ⟨ty2, h2⟩, h3, h4, h6⟩ := h
  have h7 : Kept K w1 (w1.drewN n) := (Kept.refl K w1).drewN n
  exact ⟨⟨ty, by simpa using h1⟩, ⟨ty2, by simpa using h2⟩, h3.trans h7, h4.kept F.G h7, h6⟩

theorem RS.setTime {K : Nat → Prop} {w w1 : World} {z q pos : Nat} {s : ByteArray} {t : Tr} (h : RS K w w1 z q s pos t) (F : FixR K w z q) (T d : Int) :
    RS K w ((w1.setCell ⟨q, 2, none⟩ (.int .i64 d)).setCell ⟨q, 0, none⟩ (.int .i64 T)) z q s pos { t with T := T, step := d } := by
  have h3 : Kept K w1 ((w1.setCell ⟨q, 2, none⟩ (.int .i64 d)).setCell ⟨q, 0, none⟩ (.int .i64 T)) := ((Kept.refl K w1).setCell F.nq _).setCell F.nq _
  obtain ⟨ty, h1⟩ := h.rdr
  obtain ⟨ty2, h2⟩ := h.tr
  refine ⟨⟨ty, ?_⟩, ⟨ty2, ?_⟩, h.kept.trans h3, h.tabs.kept F.G h3, h.pos⟩
  · rw [Below.heap_setCell _ _ _ _ F.zq, Below.heap_setCell _ _ _ _ F.zq]; exact h1
  · have e1 := heap_setCell_same w1 q 2 _ ty2 (.int .i64 d) h2
    have e2 := heap_setCell_same _ q 0 _ ty2 (.int .i64 T) e1
    simpa using e2

theorem take64 (s : ByteArray) (pos n : Nat) (hn : n ≤ 64) : bval ((bitsOf s pos).take n) < 18446744073709551616 := by
  have h1 := take_lt (natsOf s) pos n
  have h2 : 2 ^ n ≤ 2 ^ 64 := Nat.pow_le_pow_right (by decide) hn
  exact Nat.lt_of_lt_of_le h1 h2

theorem cw_le (k : Nat) : cw k ≤ 64 := by unfold cw; split <;> omega

set_option maxRecDepth 20000 in
set_option maxHeartbeats 1600000 in
theorem RS.time {K : Nat → Prop} {w w1 : World} {z q pos : Nat} {s : ByteArray} {t : Tr} (h : RS K w w1 z q s pos t) (F : FixR K w z q) (hb : pos ≤ 800000) :
    Calls Tryz.prog 84 #[.pointer (some ⟨q, 0, none⟩), .pointer (some ⟨z, 0, none⟩)] w1 fun e w' =>
      (∃ t' pos', rdTime t (bitsOf s pos) = some (t', bitsOf s pos') ∧ pos' ≤ pos + 68 ∧ e = .returned (.tuple #[]) ∧ RS K w w' z q s pos' t') ∨ (rdTime t (bitsOf s pos) = none ∧ e = .panicked [few] ∧ Kept K w w') := by
  have HF := hide F
  have H0 := hide h
  clear F h
  go_enter Tryz.func84, Tryz.ntmps84
  go_wp2_with fail
  go_loopw [4] (fun x wr => ∃ k : Nat, k ≤ 4 ∧ x = .int .i64 k ∧ Hid (rdKind 4 0 (bitsOf s pos) = rdKind (4 - k) k (bitsOf s (pos + k))) ∧ Hid (RS K w wr z q s (pos + k) t)) (fun x _ => 5 - (RowKit.intOf x).toNat)
  case atStart => exact ⟨0, by omega, rfl, rfl, unhide H0⟩
  case round =>
    clear H0
    obtain ⟨k, hk4, rfl, hI, hS⟩ := hrel
    by_cases hk : k = 4
    · subst hk
      have HKd : Hid (rdKind 4 0 (bitsOf s pos) = some (4, bitsOf s (pos + 4))) := hI
      have HSt := hS
      have hck := (unhide HSt).tabs.cwid 4 (by decide)
      have hcw := cw_le 4
      obtain ⟨⟨c0, _, c2, _, _⟩, hfz, _⟩ := (unhide HSt).tr.cells
      have f0 := hfz 0
      have f2 := hfz 2
      clear hfz
      by_cases hl2 : pos + 4 + cw 4 ≤ 8 * s.size
      · have hrd := rdL_some s (pos + 4) (cw 4) hl2
        have HR2 := hide ((unhide HSt).drew.readOk (unhide HF) (cw 4) hcw (by omega) hl2)
        have hx64 := take64 s (pos + 4) (cw 4) hcw
        have hres : Hid (rdTime t (bitsOf s pos) = some ({ t with T := wI (t.T + wI (t.step + sgnN (bval ((bitsOf s (pos + 4)).take (cw 4))) (cw 4))), step := wI (t.step + sgnN (bval ((bitsOf s (pos + 4)).take (cw 4))) (cw 4)) }, bitsOf s (pos + 4 + cw 4))) := by
          show rdTime t (bitsOf s pos) = _
          rw [rdTime, unhide HKd, Option.bind_some, hrd, Option.bind_some]
        clear hrd
        generalize bval ((bitsOf s (pos + 4)).take (cw 4)) = x at *
        have HSG := hide (fun w => sgn_calls x 4 w hx64 (by decide))
        generalize hg : sgnN x (cw 4) = g at *
        generalize hcc : cw 4 = c at *
        clear hg
        generalize hd : wI (t.step + g) = d at *
        generalize hT : wI (t.T + d) = T at *
        have e1' : IntKind.i64.wrap (t.step + g) = d := by rw [← hd, IntKind.wrap_i64, wI]
        have E2 : Hid (IntKind.i64.wrap (t.T + d) = T) := by show IntKind.i64.wrap (t.T + d) = T; rw [← hT, IntKind.wrap_i64, wI]
        clear hd hT
        go_wp2_with fail
        go_region_with (first | (go_at_call 83; refine (unhide HR2).mono ?_; rintro e w3 ⟨rfl, hS3⟩; obtain ⟨⟨k0, _, k2, _, _⟩, kf, _⟩ := hS3.tr.cells; have kf0 := kf 0; have kf2 := kf 2; clear kf; have HS3 := hide hS3; clear hS3) | (go_at_call 140; refine (unhide HSG _).mono ?_; rintro e w' ⟨rfl, hww⟩; rw [hww]; clear hww w'))
        all_goals
          go_wp2_with fail
          clear e1' c0 c2 f0 f2 hck
          have hR3 := (unhide HS3).setTime (unhide HF) T d
          have H9 := hide hR3
          clear hR3
          generalize hWW : w3.setCell ⟨q, 2, none⟩ (.int .i64 d) = wz at *
          have m0 : wz.cell? ⟨q, 0, none⟩ = some (.int .i64 t.T) := by rw [← hWW]; exact (World.cell?_setCell_other w3 _ _ _ (by simp)).trans k0
          have m2 : wz.cell? ⟨q, 2, none⟩ = some (.int .i64 d) := by rw [← hWW]; exact World.cell?_setCell_same w3 _ _ k2
          have n0 : wz.frozen? ⟨q, 0, none⟩ = false := by rw [← hWW]; simpa using kf0
          clear hWW k0 k2 kf0 kf2 HS3
          go_region_with (fail)
          all_goals
            rw [unhide E2]
            go_wp2_with fail
            go_end0
            exact Or.inl ⟨_, _, unhide hres, by omega, rfl, (unhide H9).drew⟩
      · have HR2 := hide ((unhide HSt).drew.readBad (unhide HF) (cw 4) hcw (by omega) (by omega))
        have hn := rdL_none s (pos + 4) (cw 4) (by omega) (unhide HSt).pos
        have hres : Hid (rdTime t (bitsOf s pos) = none) := by
          show rdTime t (bitsOf s pos) = none
          rw [rdTime, unhide HKd, Option.bind_some, hn]; rfl
        clear hn
        generalize hcc : cw 4 = c at *
        go_wp2_with fail
        go_region_dies
        all_goals
          refine (unhide HR2).mono ?_
          rintro e w3 ⟨rfl, hkp3⟩
          exact ⟨rfl, Or.inr ⟨unhide hres, rfl, hkp3⟩⟩
    · have hk3 : k < 4 := by omega
      by_cases hl : pos + k + 1 ≤ 8 * s.size
      · have HRd := hide ((unhide hS).readOk (unhide HF) 1 (by omega) (by omega) hl)
        have hb2 := bval_one s (pos + k)
        have hrd := rdL_some s (pos + k) 1 hl
        have hst : rdKind (4 - k) k (bitsOf s (pos + k)) = if bval ((bitsOf s (pos + k)).take 1) = 1 then rdKind (3 - k) (k + 1) (bitsOf s (pos + k + 1)) else some (k, bitsOf s (pos + k + 1)) := by
          rw [show 4 - k = (3 - k) + 1 by omega, rdKind, hrd, Option.bind_some]
        have HST := hide hst
        clear hrd hst
        generalize bval ((bitsOf s (pos + k)).take 1) = b at *
        go_wp2_with fail
        refine (unhide HRd).mono ?_
        rintro e w2 ⟨rfl, hS2⟩
        have HSt := hide hS2
        clear hS2 HRd
        by_cases hb1 : b = 1
        · subst hb1
          go_wp2_with fail
          go_roundw
          case rel =>
            refine ⟨k + 1, by omega, by go_num, ?_, unhide HSt⟩
            have h1 := unhide HST
            rw [if_pos (by trivial)] at h1
            exact ((unhide hI).trans h1).trans (by rw [show 4 - (k + 1) = 3 - k by omega]; rfl)
          case measure => simp [RowKit.intOf]; omega
        · have hb0 : b = 0 := by omega
          subst hb0
          have HKd : Hid (rdKind 4 0 (bitsOf s pos) = some (k, bitsOf s (pos + k + 1))) := by
            have h1 := unhide HST
            rw [if_neg (by omega)] at h1
            exact (unhide hI).trans h1
          clear HST
          have hck := (unhide HSt).tabs.cwid k (by omega)
          have hcw := cw_le k
          obtain ⟨⟨c0, _, c2, _, _⟩, hfz, _⟩ := (unhide HSt).tr.cells
          have f0 := hfz 0
          have f2 := hfz 2
          clear hfz
          by_cases hl2 : pos + k + 1 + cw k ≤ 8 * s.size
          · have hrd := rdL_some s (pos + k + 1) (cw k) hl2
            have HR2 := hide ((unhide HSt).drew.readOk (unhide HF) (cw k) hcw (by omega) hl2)
            have hx64 := take64 s (pos + k + 1) (cw k) hcw
            have hres : Hid (rdTime t (bitsOf s pos) = some ({ t with T := wI (t.T + wI (t.step + sgnN (bval ((bitsOf s (pos + k + 1)).take (cw k))) (cw k))), step := wI (t.step + sgnN (bval ((bitsOf s (pos + k + 1)).take (cw k))) (cw k)) }, bitsOf s (pos + k + 1 + cw k))) := by
              show rdTime t (bitsOf s pos) = _
              rw [rdTime, unhide HKd, Option.bind_some, hrd, Option.bind_some]
            clear hrd
            generalize bval ((bitsOf s (pos + k + 1)).take (cw k)) = x at *
            have HSG := hide (fun w => sgn_calls x k w hx64 (by omega))
            generalize hg : sgnN x (cw k) = g at *
            generalize hcc : cw k = c at *
            clear hg
            generalize hd : wI (t.step + g) = d at *
            generalize hT : wI (t.T + d) = T at *
            have e1' : IntKind.i64.wrap (t.step + g) = d := by rw [← hd, IntKind.wrap_i64, wI]
            have E2 : Hid (IntKind.i64.wrap (t.T + d) = T) := by show IntKind.i64.wrap (t.T + d) = T; rw [← hT, IntKind.wrap_i64, wI]
            clear hd hT
            go_wp2_with fail
            go_region_with (first | (go_at_call 83; refine (unhide HR2).mono ?_; rintro e w3 ⟨rfl, hS3⟩; obtain ⟨⟨k0, _, k2, _, _⟩, kf, _⟩ := hS3.tr.cells; have kf0 := kf 0; have kf2 := kf 2; clear kf; have HS3 := hide hS3; clear hS3) | (go_at_call 140; refine (unhide HSG _).mono ?_; rintro e w' ⟨rfl, hww⟩; rw [hww]; clear hww w'))
            all_goals
              go_wp2_with fail
              clear e1' c0 c2 f0 f2 hck
              have hR3 := (unhide HS3).setTime (unhide HF) T d
              have H9 := hide hR3
              clear hR3
              generalize hWW : w3.setCell ⟨q, 2, none⟩ (.int .i64 d) = wz at *
              have m0 : wz.cell? ⟨q, 0, none⟩ = some (.int .i64 t.T) := by rw [← hWW]; exact (World.cell?_setCell_other w3 _ _ _ (by simp)).trans k0
              have m2 : wz.cell? ⟨q, 2, none⟩ = some (.int .i64 d) := by rw [← hWW]; exact World.cell?_setCell_same w3 _ _ k2
              have n0 : wz.frozen? ⟨q, 0, none⟩ = false := by rw [← hWW]; simpa using kf0
              clear hWW k0 k2 kf0 kf2 HS3
              go_region_with (fail)
              all_goals
                rw [unhide E2]
                go_wp2_with fail
                go_end0
                exact Or.inl ⟨_, _, unhide hres, by omega, rfl, (unhide H9).drew⟩
          · have HR2 := hide ((unhide HSt).drew.readBad (unhide HF) (cw k) hcw (by omega) (by omega))
            have hn := rdL_none s (pos + k + 1) (cw k) (by omega) (unhide HSt).pos
            have hres : Hid (rdTime t (bitsOf s pos) = none) := by
              show rdTime t (bitsOf s pos) = none
              rw [rdTime, unhide HKd, Option.bind_some, hn]; rfl
            clear hn
            generalize hcc : cw k = c at *
            go_wp2_with fail
            go_region_dies
            all_goals
              refine (unhide HR2).mono ?_
              rintro e w3 ⟨rfl, hkp3⟩
              exact ⟨rfl, Or.inr ⟨unhide hres, rfl, hkp3⟩⟩
      · have HRd := hide ((unhide hS).readBad (unhide HF) 1 (by omega) (by omega) (by omega))
        have hn := rdL_none s (pos + k) 1 (by omega) (unhide hS).pos
        have hres : Hid (rdTime t (bitsOf s pos) = none) := by
          show rdTime t (bitsOf s pos) = none
          rw [rdTime, unhide hI, show 4 - k = (3 - k) + 1 by omega, rdKind, hn]; rfl
        clear hn
        go_wp2_with fail
        refine (unhide HRd).mono ?_
        rintro e w2 ⟨rfl, hkp⟩
        go_wp2_with fail
        simp only [bodyPost]
        exact ⟨trivial, Or.inr ⟨unhide hres, trivial, hkp⟩⟩
end Go.Proofs.YtgekdmjneogdoaaGreatDoor
