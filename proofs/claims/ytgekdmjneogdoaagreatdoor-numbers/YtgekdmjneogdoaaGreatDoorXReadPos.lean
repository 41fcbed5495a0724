import Derived.Test.YtgekdmjneogdoaaGreatDoorXRfExp
import Derived.Test.YtgekdmjneogdoaaGreatDoorXRfExpM
import Derived.Test.YtgekdmjneogdoaaGreatDoorXRfExpN
import Derived.Test.YtgekdmjneogdoaaGreatDoorXRfExpP
namespace Go.Proofs.YtgekdmjneogdoaaGreatDoor
open Go.RowKit

set_option maxRecDepth 100000 in
set_option maxHeartbeats 4000000 in
theorem readFloat_pos (s : ByteArray) (w : World) (R : RF × List UInt8) (x : Int) (h0 : 0 < s.size) (hm : s.size ≤ 40) (c1 : 48 ≤ (s[0].toNat : Int)) (c2 : (s[0].toNat : Int) ≤ 57)
   (hx : ∀ (i : Nat) (h : i < s.size), (bits BinOp.or IntKind.u8 (s[i].toNat : Int) 32 == 120) = false) (hu : ∀ (i : Nat) (h : i < s.size), (s[i].toNat : Int) ≠ 95)
   (hR : RF.run RF.start (s.data.toList.drop 0) = R) (hR2 : R.2 = [] ∨ ∃ r, R.2 = 101 :: r) (hsg : R.1.sg = true) (hx0 : R.2 = [] → x = 0) (hE : ∀ r, R.2 = 101 :: r → ∃ es ds, ExpOk r es ds ∧ x = es * (expVal 0 ds : Int)) :
    Calls Tryz.prog 274 #[.string s] w fun e w' => e = .returned (.tuple #[.int .u64 R.1.m, .int .i64 (R.1.exp x), .bool false, .bool R.1.tr, .bool false, .int .i64 s.size, .bool true]) ∧ w' = w := by
  have he : decide (s = ByteArray.empty) = false := by
    rw [decide_eq_false_iff_not]; intro h; rw [h] at h0; simp at h0
  have h43 : ((s[0].toNat : Int) == 43) = false := beq_eq_false_iff_ne.2 (by omega)
  have h45 : ((s[0].toNat : Int) == 45) = false := beq_eq_false_iff_ne.2 (by omega)
  have hxa : ∀ (h : 0 + 1 < s.size), (bits BinOp.or IntKind.u8 (s[0 + 1].toNat : Int) 32 == 120) = false := fun h => hx (0 + 1) h
  have HR := hide hR
  have HR2 := hide hR2
  have Hx := hide hx
  have Hu := hide hu
  have Hsg := hide hsg
  have Hx0 := hide hx0
  have HE := hide hE
  clear hR hR2 hx hu hsg hx0 hE
  go_enter Tryz.func274, Tryz.ntmps274
  go_wp2_with fail
  go_step3
  go_upto_region 12 with fail
  go_cut [27, 54] (fun _ b wx => b = .bool false ∧ wx = w)
  case first =>
    go_wp2_with (go_at_call 250; refine (Tryz.internal_strconv_lower _ _).mono ?_; rintro e w' ⟨rfl, rfl⟩)
    all_goals go_meet
    all_goals exact ⟨rfl, rfl⟩
  case rest =>
    obtain ⟨rfl, rfl⟩ := hcut
    go_wp2_with fail
    go_step3
    go_wp2_with fail
    refine rf_loop s 0 _ R (by omega) hm (unhide Hu) (unhide HR) (unhide HR2) _ _ _ _ _ _ _ _ _ _ _ _ _ _ _ _ _ _ _ _ _ _ _ _ _ _ _ _ _ _ _ _ _ _ _ _ _ _ _ _ _ _ _ _ _ _ _ _ _ _ _ _ _ _ _ _ _ _ _ _ _ _ _ _ _ _ _ _ _ _ _ _ _ _ _ _ _ _ _ _ _ _ _ _ _ _ _ _ _ _ _ _ _ _ _ _ _ _ _ _ _ _ _ _ _ _ _ _ _ _ _ _ _ _ _ _ _ _ _ _ _ _ _ _ _ _ _ _ _ _ _ _ _ _ _ _ _ _ _ _ _ _ _ _ _ _ _ _ _ _ _ _ _ _ _ _ _ _ _ _ _ _ _ _ _ _ _ _ _ _ _ _ _ _ _ _ _ _ _ _ _ _ _ _ _ _ _ _ _ _ _ _ _ _ _ _ _ _ _ _ _ _ _ _ _ _ _ _ _ _ _ _ _ _ _ _ _ _ _ _ _ _ _ _ _ _ _ _ _ _ _ _ _ _ _ _ _ _ _ _ _ _ ?_
    intro st k v18 v57 v58 v59 v60 v61 v62 v63 v64 v65 v66 v67 v68 v69 v70 v71 v72 v73 v74 v75 v76 v77 v78 v79 v80 v81 v82 v83 v84 v85 v86 v87 v88 v89 v90 v91 v92 v93 v94 v95 v96 v97 v98 v99 v100 v101 v102 v103 v104 v105 v106 v107 v108 v109 v110 v111 v112 v113 v114 v115 v116 v117 v118 v119 v120 v121 v122 v123 v124 v125 v126 v127 v128 v129 v130 v131 v132 v133 v134 v135 v136 v137 v138 hk0 hk1 hok hRk
    have hRk' := hide hRk
    clear hRk
    simp only [Exit.inBlock, if_true]
    have hsg2 : st.sg = true := by have := unhide Hsg; rw [unhide hRk'] at this; exact this
    have b7 : -40 ≤ (if st.sd then st.dp else (st.nd : Int)) ∧ (if st.sd then st.dp else (st.nd : Int)) ≤ 40 := by
      have a1 := hok.nd
      have a2 := hok.lo
      have a3 := hok.hi
      split <;> omega
    obtain ⟨dF, hdF⟩ : ∃ d : Int, (if st.sd then st.dp else (st.nd : Int)) = d := ⟨_, rfl⟩
    have HdF := hide hdF
    rw [hdF] at b7
    obtain ⟨b7, b8⟩ := b7
    have b1 := hok.nm
    have Hok := hide hok
    clear hdF hok
    go_upto_if 142 with fail
    go_cut [13, 14, 17] (fun _ _ d wx => d = .int .i64 dF ∧ wx = wc)
    case first =>
      cases hsd : st.sd
      all_goals
        have hd := unhide HdF
        rw [hsd] at hd
        simp only [if_true, if_false, Bool.false_eq_true] at hd
        have Hd := hide hd
        clear hd
        go_wp2_with fail
        go_meet
        first | exact ⟨by rw [unhide Hd], rfl⟩ | (rw [unhide Hd]; exact ⟨rfl, rfl⟩)
    case rest =>
      obtain ⟨rfl, rfl⟩ := hcut
      have hfin : Hid (R.1.exp x = if st.m = 0 then 0 else dF + x - st.nm) := by
        unfold Hid; rw [unhide hRk']; unfold RF.exp; rw [unhide HdF]
      have hfm : Hid (R.1.m = st.m ∧ R.1.tr = st.tr) := by unfold Hid; rw [unhide hRk']; exact ⟨rfl, rfl⟩
      by_cases hlt : k < s.size
      · have e4' : s[k] = 101 := by
          rcases unhide HR2 with h | ⟨r, h⟩
          · rw [unhide hRk', drop_byte s k hlt] at h; simp at h
          · rw [unhide hRk', drop_byte s k hlt] at h; simp at h; exact h.1
        have e4 : (s[k].toNat : Int) = 101 := by rw [e4']; rfl
        have h101 : bits BinOp.or IntKind.u8 101 32 = 101 := by decide
        obtain ⟨es, ds, hek, hxe⟩ := unhide HE (s.data.toList.drop (k + 1)) (by rw [unhide hRk', drop_byte s k hlt, e4'])
        obtain ⟨j, j1, j2, j3, j4, jf⟩ := exp_forms s k es ds hek
        have bx := hek.bound hxe
        obtain ⟨bx1, bx2⟩ := bx
        rw [← j4] at hxe
        have J3 := hide j3
        have Hxe := hide hxe
        clear j3 j4 hxe hek e4'
        go_upto_if 161 with (go_at_call 250; refine (Tryz.internal_strconv_lower _ _).mono ?_; rintro e w' ⟨rfl, hw⟩; rw [hw]; clear hw w')
        go_cut [7, 9, 17] (fun i us d wx => i = .int .i64 s.size ∧ us = .bool false ∧ d = .int .i64 (dF + x) ∧ wx = wc)
        case first =>
          rcases jf with ⟨rfl, ⟨jh, j5⟩, rfl⟩ | ⟨rfl, ⟨jh, j5⟩, rfl⟩ | ⟨rfl, rfl⟩
          · refine rf_exp_plus s k _ dF _ hm b7 b8 jh j5 j1 j2 (unhide J3) rfl _ _ _ _ _ _ _ _ _ _ _ _ _ _ _ _ _ _ _ _ _ _ _ _ _ _ _ _ _ _ _ _ _ _ _ _ _ _ _ _ _ _ _ _ _ _ _ _ _ _ _ _ _ _ _ _ _ _ _ _ _ _ _ _ _ _ _ _ _ _ _ _ _ _ _ _ _ _ _ _ _ _ _ _ _ _ _ _ _ _ _ _ _ _ _ _ _ _ _ _ _ _ _ _ _ _ _ _ _ _ _ _ _ _ _ _ _ _ _ _ _ _ _ _ _ _ _ _ _ _ _ _ _ _ _ _ _ _ _ _ _ _ _ _ _ _ _ _ _ _ _ _ _ _ _ _ _ _ _ _ _ _ _ _ _ _ _ _ _ _ _ _ _ _ _ _ _ _ _ _ _ _ _ _ _ _ _ _ _ _ _ _ _ _ _ _ _ _ _ _ _ _ _ _ _ _ _ _ _ _ _ _ _ _ _ _ _ _ _ _ _ _ _ _ _ _ _ _ _ _ _ _ _ _ _ _ _ _ _ _ _ _ _ _ _ _ _ _ ?_
            intro w19 w20 w162 w163 w164 w165 w166 w167 w168 w169 w170 w171 w172 w173 w174 w175 w176 w177 w178 w179 w180 w181 w182 w183 w184 w185 w186 w187 w188 w189 w190 w191 w192 w193 w194 w195 w196 w197 w198 w199 w200 w201 w202 w203 w204 w205 w206 w207 w208 w209 w210 w211 w212 w213 w214 w215 w216 w217 w218 w219 w220 w221 w222 w223 w224 w225 w226 w227 w228 w229 w230 w231 w232 w233 w234 w235 w236 w237
            dsimp only
            go_wp2_with fail
            go_meet
            exact ⟨rfl, rfl, by rw [unhide Hxe, Int.one_mul], rfl⟩
          · refine rf_exp_minus s k _ dF _ hm b7 b8 jh j5 j1 j2 (unhide J3) rfl _ _ _ _ _ _ _ _ _ _ _ _ _ _ _ _ _ _ _ _ _ _ _ _ _ _ _ _ _ _ _ _ _ _ _ _ _ _ _ _ _ _ _ _ _ _ _ _ _ _ _ _ _ _ _ _ _ _ _ _ _ _ _ _ _ _ _ _ _ _ _ _ _ _ _ _ _ _ _ _ _ _ _ _ _ _ _ _ _ _ _ _ _ _ _ _ _ _ _ _ _ _ _ _ _ _ _ _ _ _ _ _ _ _ _ _ _ _ _ _ _ _ _ _ _ _ _ _ _ _ _ _ _ _ _ _ _ _ _ _ _ _ _ _ _ _ _ _ _ _ _ _ _ _ _ _ _ _ _ _ _ _ _ _ _ _ _ _ _ _ _ _ _ _ _ _ _ _ _ _ _ _ _ _ _ _ _ _ _ _ _ _ _ _ _ _ _ _ _ _ _ _ _ _ _ _ _ _ _ _ _ _ _ _ _ _ _ _ _ _ _ _ _ _ _ _ _ _ _ _ _ _ _ _ _ _ _ _ _ _ _ _ _ _ _ _ _ _ ?_
            intro w19 w20 w162 w163 w164 w165 w166 w167 w168 w169 w170 w171 w172 w173 w174 w175 w176 w177 w178 w179 w180 w181 w182 w183 w184 w185 w186 w187 w188 w189 w190 w191 w192 w193 w194 w195 w196 w197 w198 w199 w200 w201 w202 w203 w204 w205 w206 w207 w208 w209 w210 w211 w212 w213 w214 w215 w216 w217 w218 w219 w220 w221 w222 w223 w224 w225 w226 w227 w228 w229 w230 w231 w232 w233 w234 w235 w236 w237
            dsimp only
            go_wp2_with fail
            go_meet
            exact ⟨rfl, rfl, by rw [unhide Hxe, Int.neg_mul, Int.one_mul], rfl⟩
          · refine rf_exp_none s k _ dF _ hm b7 b8 j1 j2 (unhide J3) rfl _ _ _ _ _ _ _ _ _ _ _ _ _ _ _ _ _ _ _ _ _ _ _ _ _ _ _ _ _ _ _ _ _ _ _ _ _ _ _ _ _ _ _ _ _ _ _ _ _ _ _ _ _ _ _ _ _ _ _ _ _ _ _ _ _ _ _ _ _ _ _ _ _ _ _ _ _ _ _ _ _ _ _ _ _ _ _ _ _ _ _ _ _ _ _ _ _ _ _ _ _ _ _ _ _ _ _ _ _ _ _ _ _ _ _ _ _ _ _ _ _ _ _ _ _ _ _ _ _ _ _ _ _ _ _ _ _ _ _ _ _ _ _ _ _ _ _ _ _ _ _ _ _ _ _ _ _ _ _ _ _ _ _ _ _ _ _ _ _ _ _ _ _ _ _ _ _ _ _ _ _ _ _ _ _ _ _ _ _ _ _ _ _ _ _ _ _ _ _ _ _ _ _ _ _ _ _ _ _ _ _ _ _ _ _ _ _ _ _ _ _ _ _ _ _ _ _ _ _ _ _ _ _ _ _ _ _ _ _ _ _ _ _ _ _ _ _ _ ?_
            intro w19 w20 w162 w163 w164 w165 w166 w167 w168 w169 w170 w171 w172 w173 w174 w175 w176 w177 w178 w179 w180 w181 w182 w183 w184 w185 w186 w187 w188 w189 w190 w191 w192 w193 w194 w195 w196 w197 w198 w199 w200 w201 w202 w203 w204 w205 w206 w207 w208 w209 w210 w211 w212 w213 w214 w215 w216 w217 w218 w219 w220 w221 w222 w223 w224 w225 w226 w227 w228 w229 w230 w231 w232 w233 w234 w235 w236 w237
            dsimp only
            go_wp2_with fail
            go_meet
            exact ⟨rfl, rfl, by rw [unhide Hxe, Int.one_mul], rfl⟩
        case rest =>
          obtain ⟨rfl, rfl, rfl, rfl⟩ := hcut
          by_cases hm0 : st.m = 0
          · have hm1 : ((st.m : Int) != 0) = false := by simp [hm0]
            have Hm0 := hide hm0
            clear hm0
            go_wp2_with fail
            try rw [Exit.noGoto_ret]
            refine bodyPost_ret (v := .tuple #[.int .u64 st.m, .int .i64 0, .bool false, .bool st.tr, .bool false, .int .i64 s.size, .bool true]) (by simp [results, Tryz.results274, go_sem]) rfl ⟨?_, rfl⟩
            rw [unhide hfin, (unhide hfm).1, (unhide hfm).2, if_pos (unhide Hm0)]
          · have hm1 : ((st.m : Int) != 0) = true := by simp [hm0]
            have Hm0 := hide hm0
            clear hm0
            go_wp2_with fail
            try rw [Exit.noGoto_ret]
            refine bodyPost_ret (v := .tuple #[.int .u64 st.m, .int .i64 (dF + x - st.nm), .bool false, .bool st.tr, .bool false, .int .i64 s.size, .bool true]) (by simp [results, Tryz.results274, go_sem]) rfl ⟨?_, rfl⟩
            rw [unhide hfin, (unhide hfm).1, (unhide hfm).2, if_neg (unhide Hm0)]
      · have hke : k = s.size := by omega
        subst hke
        have hx1 : x = 0 := unhide Hx0 (by rw [unhide hRk', List.drop_of_length_le (by simp)])
        subst hx1
        rw [Int.add_zero] at hfin
        by_cases hm0 : st.m = 0
        · have hm1 : ((st.m : Int) != 0) = false := by simp [hm0]
          have Hm0 := hide hm0
          clear hm0
          go_wp2_with fail
          try rw [Exit.noGoto_ret]
          refine bodyPost_ret (v := .tuple #[.int .u64 st.m, .int .i64 0, .bool false, .bool st.tr, .bool false, .int .i64 s.size, .bool true]) (by simp [results, Tryz.results274, go_sem]) rfl ⟨?_, rfl⟩
          rw [unhide hfin, (unhide hfm).1, (unhide hfm).2, if_pos (unhide Hm0)]
        · have hm1 : ((st.m : Int) != 0) = true := by simp [hm0]
          have Hm0 := hide hm0
          clear hm0
          go_wp2_with fail
          try rw [Exit.noGoto_ret]
          refine bodyPost_ret (v := .tuple #[.int .u64 st.m, .int .i64 (dF - st.nm), .bool false, .bool st.tr, .bool false, .int .i64 s.size, .bool true]) (by simp [results, Tryz.results274, go_sem]) rfl ⟨?_, rfl⟩
          rw [unhide hfin, (unhide hfm).1, (unhide hfm).2, if_neg (unhide Hm0)]

end Go.Proofs.YtgekdmjneogdoaaGreatDoor
