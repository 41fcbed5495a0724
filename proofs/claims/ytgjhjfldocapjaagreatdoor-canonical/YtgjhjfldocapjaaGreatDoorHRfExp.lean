import Derived.Test.YtgjhjfldocapjaaGreatDoorHRf
import Derived.Test.YtgjhjfldocapjaaGreatDoorHTabs
import Derived.Deep.LoopGhost
import Derived.Deep.DeepCutAuto
import Derived.WalkMore
import Derived.BigGuardPart
namespace Go.Proofs.YtgjhjfldocapjaaGreatDoor
open Go.RowKit

theorem byte_lt (c : UInt8) : (c.toNat : Int) < 256 := by have := c.toNat_lt; omega

/-- the first test on this slot in a text of code -/
def condOn (t : Nat) : Code → Option Code
  | .cond (.tmp n) a b => if n = t then some (.cond (.tmp n) a b) else match condOn t a with
    | some c => some c
    | none => condOn t b
  | .seq a b => match condOn t a with
    | some c => some c
    | none => condOn t b
  | .block _ c => condOn t c
  | .scope c => condOn t c
  | .loop c => condOn t c
  | _ => none
def rfExpOf (p : Func) : Code := (p.body.bind (condOn 161)).getD .skip

end Go.Proofs.YtgjhjfldocapjaaGreatDoor

namespace Go.Proofs.YtgjhjfldocapjaaGreatDoor
open Go.RowKit

/-- the first loop in a text of code -/
def loopIn : Code → Option Code
  | .loop c => some (.loop c)
  | .seq a b => match loopIn a with
    | some c => some c
    | none => loopIn b
  | .block _ c => loopIn c
  | .scope c => loopIn c
  | .cond _ a b => match loopIn a with
    | some c => some c
    | none => loopIn b
  | _ => none
def rfLoopOf (p : Func) : Code := (p.body.bind loopIn).getD .skip

set_option maxRecDepth 100000 in
set_option maxHeartbeats 4000000 in
theorem rf_loop (s : ByteArray) (i0 : Nat) (w : World) (R : RF × List UInt8) (h0 : i0 ≤ s.size) (hm : s.size ≤ 40) (hu : ∀ (i : Nat) (h : i < s.size), (s[i].toNat : Int) ≠ 95)
    (hR : RF.run RF.start (s.data.toList.drop i0) = R) (hR2 : R.2 = [] ∨ ∃ r, R.2 = 101 :: r)
    (u1 u3 u4 u6 u8 u12 u18 u19 u20 u21 u22 u23 u24 u25 u26 u27 u28 u29 u30 u31 u32 u33 u34 u35 u36 u37 u38 u39 u40 u41 u42 u43 u44 u45 u46 u47 u48 u49 u50 u51 u52 u53 u54 u55 u56 u57 u58 u59 u60 u61 u62 u63 u64 u65 u66 u67 u68 u69 u70 u71 u72 u73 u74 u75 u76 u77 u78 u79 u80 u81 u82 u83 u84 u85 u86 u87 u88 u89 u90 u91 u92 u93 u94 u95 u96 u97 u98 u99 u100 u101 u102 u103 u104 u105 u106 u107 u108 u109 u110 u111 u112 u113 u114 u115 u116 u117 u118 u119 u120 u121 u122 u123 u124 u125 u126 u127 u128 u129 u130 u131 u132 u133 u134 u135 u136 u137 u138 u139 u140 u141 u142 u143 u144 u145 u146 u147 u148 u149 u150 u151 u152 u153 u154 u155 u156 u157 u158 u159 u160 u161 u162 u163 u164 u165 u166 u167 u168 u169 u170 u171 u172 u173 u174 u175 u176 u177 u178 u179 u180 u181 u182 u183 u184 u185 u186 u187 u188 u189 u190 u191 u192 u193 u194 u195 u196 u197 u198 u199 u200 u201 u202 u203 u204 u205 u206 u207 u208 u209 u210 u211 u212 u213 u214 u215 u216 u217 u218 u219 u220 u221 u222 u223 u224 u225 u226 u227 u228 u229 u230 u231 u232 u233 u234 u235 u236 u237 u238 u239 u240 u241 u242 u243 u244 u245 u246 u247 u248 u249 u250 u251 u252 : Value) (Q : Exit → Act → World → Prop) (hQ : ∀ (st : RF) (k : Nat) (v18 v57 v58 v59 v60 v61 v62 v63 v64 v65 v66 v67 v68 v69 v70 v71 v72 v73 v74 v75 v76 v77 v78 v79 v80 v81 v82 v83 v84 v85 v86 v87 v88 v89 v90 v91 v92 v93 v94 v95 v96 v97 v98 v99 v100 v101 v102 v103 v104 v105 v106 v107 v108 v109 v110 v111 v112 v113 v114 v115 v116 v117 v118 v119 v120 v121 v122 v123 v124 v125 v126 v127 v128 v129 v130 v131 v132 v133 v134 v135 v136 v137 v138 : Value), i0 ≤ k → k ≤ s.size → st.Ok k → R = (st, s.data.toList.drop k) → Q (.exit 1) ⟨#[.string s, u1, .int .u64 st.m, u3, u4, .bool st.tr, u6, .int .i64 k, u8, .bool false, .int .u64 10, .int .i64 19, u12, .bool st.sd, .bool st.sg, .int .i64 st.nd, .int .i64 st.nm, .int .i64 st.dp, v18, u19, u20, u21, u22, u23, u24, u25, u26, u27, u28, u29, u30, u31, u32, u33, u34, u35, u36, u37, u38, u39, u40, u41, u42, u43, u44, u45, u46, u47, u48, u49, u50, u51, u52, u53, u54, u55, u56, v57, v58, v59, v60, v61, v62, v63, v64, v65, v66, v67, v68, v69, v70, v71, v72, v73, v74, v75, v76, v77, v78, v79, v80, v81, v82, v83, v84, v85, v86, v87, v88, v89, v90, v91, v92, v93, v94, v95, v96, v97, v98, v99, v100, v101, v102, v103, v104, v105, v106, v107, v108, v109, v110, v111, v112, v113, v114, v115, v116, v117, v118, v119, v120, v121, v122, v123, v124, v125, v126, v127, v128, v129, v130, v131, v132, v133, v134, v135, v136, v137, v138, u139, u140, u141, u142, u143, u144, u145, u146, u147, u148, u149, u150, u151, u152, u153, u154, u155, u156, u157, u158, u159, u160, u161, u162, u163, u164, u165, u166, u167, u168, u169, u170, u171, u172, u173, u174, u175, u176, u177, u178, u179, u180, u181, u182, u183, u184, u185, u186, u187, u188, u189, u190, u191, u192, u193, u194, u195, u196, u197, u198, u199, u200, u201, u202, u203, u204, u205, u206, u207, u208, u209, u210, u211, u212, u213, u214, u215, u216, u217, u218, u219, u220, u221, u222, u223, u224, u225, u226, u227, u228, u229, u230, u231, u232, u233, u234, u235, u236, u237, u238, u239, u240, u241, u242, u243, u244, u245, u246, u247, u248, u249, u250, u251, u252], []⟩ w) :
    Code.wp Tryz.prog (rfLoopOf Tryz.f232) Q ⟨#[.string s, u1, .int .u64 0, u3, u4, .bool false, u6, .int .i64 i0, u8, .bool false, .int .u64 10, .int .i64 19, u12, .bool false, .bool false, .int .i64 0, .int .i64 0, .int .i64 0, u18, u19, u20, u21, u22, u23, u24, u25, u26, u27, u28, u29, u30, u31, u32, u33, u34, u35, u36, u37, u38, u39, u40, u41, u42, u43, u44, u45, u46, u47, u48, u49, u50, u51, u52, u53, u54, u55, u56, u57, u58, u59, u60, u61, u62, u63, u64, u65, u66, u67, u68, u69, u70, u71, u72, u73, u74, u75, u76, u77, u78, u79, u80, u81, u82, u83, u84, u85, u86, u87, u88, u89, u90, u91, u92, u93, u94, u95, u96, u97, u98, u99, u100, u101, u102, u103, u104, u105, u106, u107, u108, u109, u110, u111, u112, u113, u114, u115, u116, u117, u118, u119, u120, u121, u122, u123, u124, u125, u126, u127, u128, u129, u130, u131, u132, u133, u134, u135, u136, u137, u138, u139, u140, u141, u142, u143, u144, u145, u146, u147, u148, u149, u150, u151, u152, u153, u154, u155, u156, u157, u158, u159, u160, u161, u162, u163, u164, u165, u166, u167, u168, u169, u170, u171, u172, u173, u174, u175, u176, u177, u178, u179, u180, u181, u182, u183, u184, u185, u186, u187, u188, u189, u190, u191, u192, u193, u194, u195, u196, u197, u198, u199, u200, u201, u202, u203, u204, u205, u206, u207, u208, u209, u210, u211, u212, u213, u214, u215, u216, u217, u218, u219, u220, u221, u222, u223, u224, u225, u226, u227, u228, u229, u230, u231, u232, u233, u234, u235, u236, u237, u238, u239, u240, u241, u242, u243, u244, u245, u246, u247, u248, u249, u250, u251, u252], []⟩ w := by
  have HR := hide hR
  have HR2 := hide hR2
  have HQ := hide hQ
  have Hu := hide hu
  clear hR hR2 hQ hu
  conv => arg 2; whnf
  dsimp only
  go_loop [2, 5, 7, 9, 13, 14, 15, 16, 17] (fun m tr i us sd sg nd nm dp => ∃ (st : RF) (k : Nat), i0 ≤ k ∧ k ≤ s.size ∧ st.Ok k ∧ Hid (RF.run st (s.data.toList.drop k) = R) ∧ m = .int .u64 st.m ∧ tr = .bool st.tr ∧ i = .int .i64 k ∧ us = .bool false ∧ sd = .bool st.sd ∧ sg = .bool st.sg ∧ nd = .int .i64 st.nd ∧ nm = .int .i64 st.nm ∧ dp = .int .i64 st.dp)
    (fun _ _ i _ _ _ _ _ _ => s.size - (intOf i).toNat)
  case atStart => exact ⟨RF.start, i0, Nat.le_refl _, by omega, RF.start_ok _, HR, rfl, rfl, rfl, rfl, rfl, rfl, rfl, rfl, rfl⟩
  case round =>
    obtain ⟨st, k, hk0, hk1, hok, hrun, rfl, rfl, rfl, rfl, rfl, rfl, rfl, rfl, rfl⟩ := hrel
    have b1 := hok.nm
    have b2 := hok.nd
    have b3 := hok.lo
    have b4 := hok.hi
    have b5 := hok.m20
    by_cases hlt : k < s.size
    · have hnu := unhide Hu k hlt
      have hdr := hide (drop_byte s k hlt)
      have hb := byte_lt s[k]
      by_cases e1 : (s[k].toNat : Int) = 46
      · cases hsd : st.sd
        · go_wp2_with fail
          go_round
          case rel =>
            refine ⟨{ st with sd := true, dp := st.nd }, k + 1, by omega, by omega, hok.dot, ?_, rfl, rfl, by go_num, rfl, rfl, rfl, rfl, rfl, rfl⟩
            have h := unhide hrun
            rw [unhide hdr] at h
            exact RF.dot_go h e1 hsd
          case measure => simp [intOf]; omega
        · exfalso
          have h := unhide hrun
          rw [unhide hdr] at h
          exact RF.dot_no h e1 hsd (unhide HR2)
      · by_cases e2 : 48 ≤ (s[k].toNat : Int) ∧ (s[k].toNat : Int) ≤ 57
        · obtain ⟨e2, e3⟩ := e2
          have hrun2 : Hid (RF.run (st.digit s[k].toNat) (s.data.toList.drop (k + 1)) = R) := by
            have h := unhide hrun
            rw [unhide hdr] at h
            exact RF.digit_go h e2 e3
          have hok2 := hok.digit (c := s[k].toNat) (by omega) (by omega)
          by_cases e4 : s[k].toNat = 48 ∧ st.nd = 0
          · have e5 : Hid (st.digit s[k].toNat = { st with sg := true, dp := st.dp - 1 }) := by unfold Hid RF.digit; rw [if_pos e4]
            obtain ⟨e6, e7⟩ := e4
            go_wp2_with fail
            go_round
            case rel =>
              rw [unhide e5] at hrun2 hok2
              exact ⟨_, k + 1, by omega, by omega, hok2, hrun2, rfl, rfl, by go_num, rfl, rfl, rfl, rfl, rfl, rfl⟩
            case measure => simp [intOf]; omega
          · by_cases e8 : st.nm < 19
            · have e5 : Hid (st.digit s[k].toNat = { st with sg := true, nd := st.nd + 1, nm := st.nm + 1, m := st.m * 10 + (s[k].toNat - 48) }) := by unfold Hid RF.digit; rw [if_neg e4, if_pos e8]
              have b6 := hok.m19 e8
              have e9 : ((s[k].toNat : Int) == 48 && ((st.nd : Int) == 0)) = false := by
                rw [Bool.and_eq_false_iff]; by_cases h : s[k].toNat = 48
                · right; exact beq_eq_false_iff_ne.2 (by omega)
                · left; exact beq_eq_false_iff_ne.2 (by omega)
              by_cases e10 : (s[k].toNat : Int) = 48
              · have e11 : ((st.nd : Int) == 0) = false := beq_eq_false_iff_ne.2 (by omega)
                go_wp2_with fail
                go_round
                case rel =>
                  rw [unhide e5] at hrun2 hok2
                  exact ⟨_, k + 1, by omega, by omega, hok2, hrun2, by go_num, rfl, by go_num, rfl, rfl, rfl, by go_num, by go_num, rfl⟩
                case measure => simp [intOf]; omega
              · have e11 : ((s[k].toNat : Int) == 48) = false := beq_eq_false_iff_ne.2 e10
                go_wp2_with fail
                go_round
                case rel =>
                  rw [unhide e5] at hrun2 hok2
                  exact ⟨_, k + 1, by omega, by omega, hok2, hrun2, by go_num, rfl, by go_num, rfl, rfl, rfl, by go_num, by go_num, rfl⟩
                case measure => simp [intOf]; omega
            · have e9 : st.nm = 19 := by omega
              have e5 : Hid (st.digit s[k].toNat = { st with sg := true, nd := st.nd + 1, tr := st.tr || decide (s[k].toNat ≠ 48) }) := by unfold Hid RF.digit; rw [if_neg e4, if_neg e8]
              by_cases e10 : (s[k].toNat : Int) = 48
              · have e11 : ((st.nd : Int) == 0) = false := beq_eq_false_iff_ne.2 (by omega)
                have e12 : Hid ((st.tr || decide (s[k].toNat ≠ 48)) = st.tr) := by
                  have : s[k].toNat = 48 := by omega
                  unfold Hid; rw [this]; simp
                go_wp2_with fail
                go_round
                case rel =>
                  rw [unhide e5] at hrun2 hok2
                  exact ⟨_, k + 1, by omega, by omega, hok2, hrun2, rfl, by rw [unhide e12], by go_num, rfl, rfl, rfl, by go_num, rfl, rfl⟩
                case measure => simp [intOf]; omega
              · have e11 : ((s[k].toNat : Int) == 48) = false := beq_eq_false_iff_ne.2 e10
                have e12 : Hid ((st.tr || decide (s[k].toNat ≠ 48)) = true) := by
                  have : s[k].toNat ≠ 48 := by omega
                  unfold Hid; simp [this]
                go_wp2_with fail
                go_round
                case rel =>
                  rw [unhide e5] at hrun2 hok2
                  exact ⟨_, k + 1, by omega, by omega, hok2, hrun2, rfl, by rw [unhide e12], by go_num, rfl, rfl, rfl, by go_num, rfl, rfl⟩
                case measure => simp [intOf]; omega
        · have e3 : Hid (R = (st, s.data.toList.drop k)) := by
            have h := unhide hrun
            rw [unhide hdr] at h
            rw [unhide hdr]
            exact RF.stop h e1 e2
          have h46 : ((s[k].toNat : Int) == 46) = false := beq_eq_false_iff_ne.2 e1
          by_cases e4 : 48 ≤ (s[k].toNat : Int)
          · have e5 : ¬ (s[k].toNat : Int) ≤ 57 := fun h => e2 ⟨e4, h⟩
            clear e1 e2
            go_wp2_with fail
            exact unhide HQ st k _ _ _ _ _ _ _ _ _ _ _ _ _ _ _ _ _ _ _ _ _ _ _ _ _ _ _ _ _ _ _ _ _ _ _ _ _ _ _ _ _ _ _ _ _ _ _ _ _ _ _ _ _ _ _ _ _ _ _ _ _ _ _ _ _ _ _ _ _ _ _ _ _ _ _ _ _ _ _ _ _ _ _ hk0 hk1 hok (unhide e3)
          · have e5 : decide (48 ≤ (s[k].toNat : Int)) = false := by simp; omega
            clear e1 e2
            go_wp2_with fail
            exact unhide HQ st k _ _ _ _ _ _ _ _ _ _ _ _ _ _ _ _ _ _ _ _ _ _ _ _ _ _ _ _ _ _ _ _ _ _ _ _ _ _ _ _ _ _ _ _ _ _ _ _ _ _ _ _ _ _ _ _ _ _ _ _ _ _ _ _ _ _ _ _ _ _ _ _ _ _ _ _ _ _ _ _ _ _ _ hk0 hk1 hok (unhide e3)
    · have hke : k = s.size := by omega
      subst hke
      have e3 : Hid (R = (st, s.data.toList.drop s.size)) := by
        have h := unhide hrun
        rw [List.drop_of_length_le (by simp)] at h
        rw [List.drop_of_length_le (by simp)]
        exact h.symm
      go_wp2_with fail
      exact unhide HQ st s.size _ _ _ _ _ _ _ _ _ _ _ _ _ _ _ _ _ _ _ _ _ _ _ _ _ _ _ _ _ _ _ _ _ _ _ _ _ _ _ _ _ _ _ _ _ _ _ _ _ _ _ _ _ _ _ _ _ _ _ _ _ _ _ _ _ _ _ _ _ _ _ _ _ _ _ _ _ _ _ _ _ _ _ hk0 hk1 hok (unhide e3)
end Go.Proofs.YtgjhjfldocapjaaGreatDoor

namespace Go.Proofs.YtgjhjfldocapjaaGreatDoor
open Go.RowKit

set_option maxRecDepth 100000 in
set_option maxHeartbeats 4000000 in
theorem rf_exp_none (s : ByteArray) (k V : Nat) (dF : Int) (w : World) (hm : s.size ≤ 40) (b7 : -40 ≤ dF) (b8 : dF ≤ 40) (j1 : k + 1 < s.size) (j2 : s.size ≤ k + 1 + 4)
    (j3 : ∀ (q : Nat) (h : q < s.size), k + 1 ≤ q → 48 ≤ (s[q].toNat : Int) ∧ (s[q].toNat : Int) ≤ 57) (hV : expVal 0 (s.data.toList.drop (k + 1)) = V)
    (u1 u2 u3 u4 u5 u6 u8 u11 u12 u13 u14 u15 u16 u18 u19 u20 u21 u22 u23 u24 u25 u26 u27 u28 u29 u30 u31 u32 u33 u34 u35 u36 u37 u38 u39 u40 u41 u42 u43 u44 u45 u46 u47 u48 u49 u50 u51 u52 u53 u54 u55 u56 u57 u58 u59 u60 u61 u62 u63 u64 u65 u66 u67 u68 u69 u70 u71 u72 u73 u74 u75 u76 u77 u78 u79 u80 u81 u82 u83 u84 u85 u86 u87 u88 u89 u90 u91 u92 u93 u94 u95 u96 u97 u98 u99 u100 u101 u102 u103 u104 u105 u106 u107 u108 u109 u110 u111 u112 u113 u114 u115 u116 u117 u118 u119 u120 u121 u122 u123 u124 u125 u126 u127 u128 u129 u130 u131 u132 u133 u134 u135 u136 u137 u138 u139 u140 u141 u142 u143 u144 u145 u146 u147 u148 u149 u150 u151 u152 u153 u154 u155 u156 u157 u158 u159 u160 u162 u163 u164 u165 u166 u167 u168 u169 u170 u171 u172 u173 u174 u175 u176 u177 u178 u179 u180 u181 u182 u183 u184 u185 u186 u187 u188 u189 u190 u191 u192 u193 u194 u195 u196 u197 u198 u199 u200 u201 u202 u203 u204 u205 u206 u207 u208 u209 u210 u211 u212 u213 u214 u215 u216 u217 u218 u219 u220 u221 u222 u223 u224 u225 u226 u227 u228 u229 u230 u231 u232 u233 u234 u235 u236 u237 u238 u239 u240 u241 u242 u243 u244 u245 u246 u247 u248 u249 u250 u251 u252 : Value) (Q : Exit → Act → World → Prop) (hQ : ∀ v19 v20 v162 v163 v164 v165 v166 v167 v168 v169 v170 v171 v172 v173 v174 v175 v176 v177 v178 v179 v180 v181 v182 v183 v184 v185 v186 v187 v188 v189 v190 v191 v192 v193 v194 v195 v196 v197 v198 v199 v200 v201 v202 v203 v204 v205 v206 v207 v208 v209 v210 v211 v212 v213 v214 v215 v216 v217 v218 v219 v220 v221 v222 v223 v224 v225 v226 v227 v228 v229 v230 v231 v232 v233 v234 v235 v236 v237 : Value, Q .normal ⟨#[.string s, u1, u2, u3, u4, u5, u6, .int .i64 s.size, u8, .bool false, .int .u64 10, u11, u12, u13, u14, u15, u16, .int .i64 (dF + (V : Int)), u18, v19, v20, u21, u22, u23, u24, u25, u26, u27, u28, u29, u30, u31, u32, u33, u34, u35, u36, u37, u38, u39, u40, u41, u42, u43, u44, u45, u46, u47, u48, u49, u50, u51, u52, u53, u54, u55, u56, u57, u58, u59, u60, u61, u62, u63, u64, u65, u66, u67, u68, u69, u70, u71, u72, u73, u74, u75, u76, u77, u78, u79, u80, u81, u82, u83, u84, u85, u86, u87, u88, u89, u90, u91, u92, u93, u94, u95, u96, u97, u98, u99, u100, u101, u102, u103, u104, u105, u106, u107, u108, u109, u110, u111, u112, u113, u114, u115, u116, u117, u118, u119, u120, u121, u122, u123, u124, u125, u126, u127, u128, u129, u130, u131, u132, u133, u134, u135, u136, u137, u138, u139, u140, u141, u142, u143, u144, u145, u146, u147, u148, u149, u150, u151, u152, u153, u154, u155, u156, u157, u158, u159, u160, .bool true, v162, v163, v164, v165, v166, v167, v168, v169, v170, v171, v172, v173, v174, v175, v176, v177, v178, v179, v180, v181, v182, v183, v184, v185, v186, v187, v188, v189, v190, v191, v192, v193, v194, v195, v196, v197, v198, v199, v200, v201, v202, v203, v204, v205, v206, v207, v208, v209, v210, v211, v212, v213, v214, v215, v216, v217, v218, v219, v220, v221, v222, v223, v224, v225, v226, v227, v228, v229, v230, v231, v232, v233, v234, v235, v236, v237, u238, u239, u240, u241, u242, u243, u244, u245, u246, u247, u248, u249, u250, u251, u252], []⟩ w) :
    Code.wp Tryz.prog (rfExpOf Tryz.f232) Q ⟨#[.string s, u1, u2, u3, u4, u5, u6, .int .i64 k, u8, .bool false, .int .u64 10, u11, u12, u13, u14, u15, u16, .int .i64 dF, u18, u19, u20, u21, u22, u23, u24, u25, u26, u27, u28, u29, u30, u31, u32, u33, u34, u35, u36, u37, u38, u39, u40, u41, u42, u43, u44, u45, u46, u47, u48, u49, u50, u51, u52, u53, u54, u55, u56, u57, u58, u59, u60, u61, u62, u63, u64, u65, u66, u67, u68, u69, u70, u71, u72, u73, u74, u75, u76, u77, u78, u79, u80, u81, u82, u83, u84, u85, u86, u87, u88, u89, u90, u91, u92, u93, u94, u95, u96, u97, u98, u99, u100, u101, u102, u103, u104, u105, u106, u107, u108, u109, u110, u111, u112, u113, u114, u115, u116, u117, u118, u119, u120, u121, u122, u123, u124, u125, u126, u127, u128, u129, u130, u131, u132, u133, u134, u135, u136, u137, u138, u139, u140, u141, u142, u143, u144, u145, u146, u147, u148, u149, u150, u151, u152, u153, u154, u155, u156, u157, u158, u159, u160, .bool true, u162, u163, u164, u165, u166, u167, u168, u169, u170, u171, u172, u173, u174, u175, u176, u177, u178, u179, u180, u181, u182, u183, u184, u185, u186, u187, u188, u189, u190, u191, u192, u193, u194, u195, u196, u197, u198, u199, u200, u201, u202, u203, u204, u205, u206, u207, u208, u209, u210, u211, u212, u213, u214, u215, u216, u217, u218, u219, u220, u221, u222, u223, u224, u225, u226, u227, u228, u229, u230, u231, u232, u233, u234, u235, u236, u237, u238, u239, u240, u241, u242, u243, u244, u245, u246, u247, u248, u249, u250, u251, u252], []⟩ w := by
  have J3 := hide j3
  have HV := hide hV
  have HQ := hide hQ
  clear j3 hV hQ
  obtain ⟨j7, j8⟩ := unhide J3 (k + 1) j1 (Nat.le_refl _)
  have j6 : (k : Int) + 1 < s.size := by omega
  have j9 : ((s[k + 1].toNat : Int) == 43) = false := beq_eq_false_iff_ne.2 (by omega)
  have j10 : ((s[k + 1].toNat : Int) == 45) = false := beq_eq_false_iff_ne.2 (by omega)
  conv => arg 2; whnf
  go_wp2_with fail
  go_loop [7, 9, 20] (fun i us e => ∃ (q v : Nat), k + 1 ≤ q ∧ q ≤ s.size ∧ v < 10 ^ (q - (k + 1)) ∧ Hid (expVal v (s.data.toList.drop q) = V) ∧ i = .int .i64 q ∧ us = .bool false ∧ e = .int .i64 v) (fun i _ _ => s.size - (intOf i).toNat)
  case atStart => exact ⟨k + 1, 0, Nat.le_refl _, by omega, Nat.pow_pos (by omega), HV, by go_num, rfl, rfl⟩
  case round =>
    obtain ⟨q, v, q1, q2, q3, q4, rfl, rfl, rfl⟩ := hrel
    by_cases q5 : q < s.size
    · obtain ⟨q6, q7⟩ := unhide J3 q q5 q1
      have q8 := exp_bound v q (k + 1) q3 (by omega)
      have q10 := hide (exp_step v q (k + 1) s[q].toNat q3 q1 (by omega))
      have hb2 := byte_lt s[q]
      have q9 := hide q3
      have q11 : Hid (expVal (v * 10 + (s[q].toNat - 48)) (s.data.toList.drop (q + 1)) = V) := by
        have h := unhide q4
        rw [drop_byte s q q5] at h
        exact h
      clear q3
      go_wp2_with fail
      go_round
      case rel => exact ⟨q + 1, v * 10 + (s[q].toNat - 48), by omega, by omega, unhide q10, q11, by go_num, rfl, by go_num⟩
      case measure => simp [intOf]; omega
    · have q6 : q = s.size := by omega
      subst q6
      have q9 := hide q3
      have q11 : v = V := by
        have h := unhide q4
        rw [List.drop_of_length_le (by simp)] at h
        exact h
      have q12 : v ≤ 9999 := by
        have : 10 ^ (s.size - (k + 1)) ≤ 10 ^ 4 := Nat.pow_le_pow_right (by omega) (by omega)
        omega
      subst q11
      clear q3
      go_wp2_with fail
      exact unhide HQ _ _ _ _ _ _ _ _ _ _ _ _ _ _ _ _ _ _ _ _ _ _ _ _ _ _ _ _ _ _ _ _ _ _ _ _ _ _ _ _ _ _ _ _ _ _ _ _ _ _ _ _ _ _ _ _ _ _ _ _ _ _ _ _ _ _ _ _ _ _ _ _ _ _ _ _ _ _

end Go.Proofs.YtgjhjfldocapjaaGreatDoor

namespace Go.Proofs.YtgjhjfldocapjaaGreatDoor
open Go.RowKit

set_option maxRecDepth 100000 in
set_option maxHeartbeats 4000000 in
theorem rf_exp_plus (s : ByteArray) (k V : Nat) (dF : Int) (w : World) (hm : s.size ≤ 40) (b7 : -40 ≤ dF) (b8 : dF ≤ 40) (h1 : k + 1 < s.size) (h2 : (s[k + 1].toNat : Int) = 43) (j1 : k + 1 + 1 < s.size) (j2 : s.size ≤ k + 1 + 1 + 4)
    (j3 : ∀ (q : Nat) (h : q < s.size), k + 1 + 1 ≤ q → 48 ≤ (s[q].toNat : Int) ∧ (s[q].toNat : Int) ≤ 57) (hV : expVal 0 (s.data.toList.drop (k + 1 + 1)) = V)
    (u1 u2 u3 u4 u5 u6 u8 u11 u12 u13 u14 u15 u16 u18 u19 u20 u21 u22 u23 u24 u25 u26 u27 u28 u29 u30 u31 u32 u33 u34 u35 u36 u37 u38 u39 u40 u41 u42 u43 u44 u45 u46 u47 u48 u49 u50 u51 u52 u53 u54 u55 u56 u57 u58 u59 u60 u61 u62 u63 u64 u65 u66 u67 u68 u69 u70 u71 u72 u73 u74 u75 u76 u77 u78 u79 u80 u81 u82 u83 u84 u85 u86 u87 u88 u89 u90 u91 u92 u93 u94 u95 u96 u97 u98 u99 u100 u101 u102 u103 u104 u105 u106 u107 u108 u109 u110 u111 u112 u113 u114 u115 u116 u117 u118 u119 u120 u121 u122 u123 u124 u125 u126 u127 u128 u129 u130 u131 u132 u133 u134 u135 u136 u137 u138 u139 u140 u141 u142 u143 u144 u145 u146 u147 u148 u149 u150 u151 u152 u153 u154 u155 u156 u157 u158 u159 u160 u162 u163 u164 u165 u166 u167 u168 u169 u170 u171 u172 u173 u174 u175 u176 u177 u178 u179 u180 u181 u182 u183 u184 u185 u186 u187 u188 u189 u190 u191 u192 u193 u194 u195 u196 u197 u198 u199 u200 u201 u202 u203 u204 u205 u206 u207 u208 u209 u210 u211 u212 u213 u214 u215 u216 u217 u218 u219 u220 u221 u222 u223 u224 u225 u226 u227 u228 u229 u230 u231 u232 u233 u234 u235 u236 u237 u238 u239 u240 u241 u242 u243 u244 u245 u246 u247 u248 u249 u250 u251 u252 : Value) (Q : Exit → Act → World → Prop) (hQ : ∀ v19 v20 v162 v163 v164 v165 v166 v167 v168 v169 v170 v171 v172 v173 v174 v175 v176 v177 v178 v179 v180 v181 v182 v183 v184 v185 v186 v187 v188 v189 v190 v191 v192 v193 v194 v195 v196 v197 v198 v199 v200 v201 v202 v203 v204 v205 v206 v207 v208 v209 v210 v211 v212 v213 v214 v215 v216 v217 v218 v219 v220 v221 v222 v223 v224 v225 v226 v227 v228 v229 v230 v231 v232 v233 v234 v235 v236 v237 : Value, Q .normal ⟨#[.string s, u1, u2, u3, u4, u5, u6, .int .i64 s.size, u8, .bool false, .int .u64 10, u11, u12, u13, u14, u15, u16, .int .i64 (dF + (V : Int)), u18, v19, v20, u21, u22, u23, u24, u25, u26, u27, u28, u29, u30, u31, u32, u33, u34, u35, u36, u37, u38, u39, u40, u41, u42, u43, u44, u45, u46, u47, u48, u49, u50, u51, u52, u53, u54, u55, u56, u57, u58, u59, u60, u61, u62, u63, u64, u65, u66, u67, u68, u69, u70, u71, u72, u73, u74, u75, u76, u77, u78, u79, u80, u81, u82, u83, u84, u85, u86, u87, u88, u89, u90, u91, u92, u93, u94, u95, u96, u97, u98, u99, u100, u101, u102, u103, u104, u105, u106, u107, u108, u109, u110, u111, u112, u113, u114, u115, u116, u117, u118, u119, u120, u121, u122, u123, u124, u125, u126, u127, u128, u129, u130, u131, u132, u133, u134, u135, u136, u137, u138, u139, u140, u141, u142, u143, u144, u145, u146, u147, u148, u149, u150, u151, u152, u153, u154, u155, u156, u157, u158, u159, u160, .bool true, v162, v163, v164, v165, v166, v167, v168, v169, v170, v171, v172, v173, v174, v175, v176, v177, v178, v179, v180, v181, v182, v183, v184, v185, v186, v187, v188, v189, v190, v191, v192, v193, v194, v195, v196, v197, v198, v199, v200, v201, v202, v203, v204, v205, v206, v207, v208, v209, v210, v211, v212, v213, v214, v215, v216, v217, v218, v219, v220, v221, v222, v223, v224, v225, v226, v227, v228, v229, v230, v231, v232, v233, v234, v235, v236, v237, u238, u239, u240, u241, u242, u243, u244, u245, u246, u247, u248, u249, u250, u251, u252], []⟩ w) :
    Code.wp Tryz.prog (rfExpOf Tryz.f232) Q ⟨#[.string s, u1, u2, u3, u4, u5, u6, .int .i64 k, u8, .bool false, .int .u64 10, u11, u12, u13, u14, u15, u16, .int .i64 dF, u18, u19, u20, u21, u22, u23, u24, u25, u26, u27, u28, u29, u30, u31, u32, u33, u34, u35, u36, u37, u38, u39, u40, u41, u42, u43, u44, u45, u46, u47, u48, u49, u50, u51, u52, u53, u54, u55, u56, u57, u58, u59, u60, u61, u62, u63, u64, u65, u66, u67, u68, u69, u70, u71, u72, u73, u74, u75, u76, u77, u78, u79, u80, u81, u82, u83, u84, u85, u86, u87, u88, u89, u90, u91, u92, u93, u94, u95, u96, u97, u98, u99, u100, u101, u102, u103, u104, u105, u106, u107, u108, u109, u110, u111, u112, u113, u114, u115, u116, u117, u118, u119, u120, u121, u122, u123, u124, u125, u126, u127, u128, u129, u130, u131, u132, u133, u134, u135, u136, u137, u138, u139, u140, u141, u142, u143, u144, u145, u146, u147, u148, u149, u150, u151, u152, u153, u154, u155, u156, u157, u158, u159, u160, .bool true, u162, u163, u164, u165, u166, u167, u168, u169, u170, u171, u172, u173, u174, u175, u176, u177, u178, u179, u180, u181, u182, u183, u184, u185, u186, u187, u188, u189, u190, u191, u192, u193, u194, u195, u196, u197, u198, u199, u200, u201, u202, u203, u204, u205, u206, u207, u208, u209, u210, u211, u212, u213, u214, u215, u216, u217, u218, u219, u220, u221, u222, u223, u224, u225, u226, u227, u228, u229, u230, u231, u232, u233, u234, u235, u236, u237, u238, u239, u240, u241, u242, u243, u244, u245, u246, u247, u248, u249, u250, u251, u252], []⟩ w := by
  have J3 := hide j3
  have HV := hide hV
  have HQ := hide hQ
  clear j3 hV hQ
  obtain ⟨j7, j8⟩ := unhide J3 (k + 1 + 1) j1 (Nat.le_refl _)
  have j6 : (k : Int) + 1 < s.size := by omega
  conv => arg 2; whnf
  go_wp2_with fail
  go_loop [7, 9, 20] (fun i us e => ∃ (q v : Nat), k + 1 + 1 ≤ q ∧ q ≤ s.size ∧ v < 10 ^ (q - (k + 1 + 1)) ∧ Hid (expVal v (s.data.toList.drop q) = V) ∧ i = .int .i64 q ∧ us = .bool false ∧ e = .int .i64 v) (fun i _ _ => s.size - (intOf i).toNat)
  case atStart => exact ⟨k + 1 + 1, 0, Nat.le_refl _, by omega, Nat.pow_pos (by omega), HV, by go_num, rfl, rfl⟩
  case round =>
    obtain ⟨q, v, q1, q2, q3, q4, rfl, rfl, rfl⟩ := hrel
    by_cases q5 : q < s.size
    · obtain ⟨q6, q7⟩ := unhide J3 q q5 q1
      have q8 := exp_bound v q (k + 1 + 1) q3 (by omega)
      have q10 := hide (exp_step v q (k + 1 + 1) s[q].toNat q3 q1 (by omega))
      have hb2 := byte_lt s[q]
      have q9 := hide q3
      have q11 : Hid (expVal (v * 10 + (s[q].toNat - 48)) (s.data.toList.drop (q + 1)) = V) := by
        have h := unhide q4
        rw [drop_byte s q q5] at h
        exact h
      clear q3
      go_wp2_with fail
      go_round
      case rel => exact ⟨q + 1, v * 10 + (s[q].toNat - 48), by omega, by omega, unhide q10, q11, by go_num, rfl, by go_num⟩
      case measure => simp [intOf]; omega
    · have q6 : q = s.size := by omega
      subst q6
      have q9 := hide q3
      have q11 : v = V := by
        have h := unhide q4
        rw [List.drop_of_length_le (by simp)] at h
        exact h
      have q12 : v ≤ 9999 := by
        have : 10 ^ (s.size - (k + 1 + 1)) ≤ 10 ^ 4 := Nat.pow_le_pow_right (by omega) (by omega)
        omega
      subst q11
      clear q3
      go_wp2_with fail
      exact unhide HQ _ _ _ _ _ _ _ _ _ _ _ _ _ _ _ _ _ _ _ _ _ _ _ _ _ _ _ _ _ _ _ _ _ _ _ _ _ _ _ _ _ _ _ _ _ _ _ _ _ _ _ _ _ _ _ _ _ _ _ _ _ _ _ _ _ _ _ _ _ _ _ _ _ _ _ _ _ _

end Go.Proofs.YtgjhjfldocapjaaGreatDoor

namespace Go.Proofs.YtgjhjfldocapjaaGreatDoor
open Go.RowKit

set_option maxRecDepth 100000 in
set_option maxHeartbeats 4000000 in
theorem rf_exp_minus (s : ByteArray) (k V : Nat) (dF : Int) (w : World) (hm : s.size ≤ 40) (b7 : -40 ≤ dF) (b8 : dF ≤ 40) (h1 : k + 1 < s.size) (h2 : (s[k + 1].toNat : Int) = 45) (j1 : k + 1 + 1 < s.size) (j2 : s.size ≤ k + 1 + 1 + 4)
    (j3 : ∀ (q : Nat) (h : q < s.size), k + 1 + 1 ≤ q → 48 ≤ (s[q].toNat : Int) ∧ (s[q].toNat : Int) ≤ 57) (hV : expVal 0 (s.data.toList.drop (k + 1 + 1)) = V)
    (u1 u2 u3 u4 u5 u6 u8 u11 u12 u13 u14 u15 u16 u18 u19 u20 u21 u22 u23 u24 u25 u26 u27 u28 u29 u30 u31 u32 u33 u34 u35 u36 u37 u38 u39 u40 u41 u42 u43 u44 u45 u46 u47 u48 u49 u50 u51 u52 u53 u54 u55 u56 u57 u58 u59 u60 u61 u62 u63 u64 u65 u66 u67 u68 u69 u70 u71 u72 u73 u74 u75 u76 u77 u78 u79 u80 u81 u82 u83 u84 u85 u86 u87 u88 u89 u90 u91 u92 u93 u94 u95 u96 u97 u98 u99 u100 u101 u102 u103 u104 u105 u106 u107 u108 u109 u110 u111 u112 u113 u114 u115 u116 u117 u118 u119 u120 u121 u122 u123 u124 u125 u126 u127 u128 u129 u130 u131 u132 u133 u134 u135 u136 u137 u138 u139 u140 u141 u142 u143 u144 u145 u146 u147 u148 u149 u150 u151 u152 u153 u154 u155 u156 u157 u158 u159 u160 u162 u163 u164 u165 u166 u167 u168 u169 u170 u171 u172 u173 u174 u175 u176 u177 u178 u179 u180 u181 u182 u183 u184 u185 u186 u187 u188 u189 u190 u191 u192 u193 u194 u195 u196 u197 u198 u199 u200 u201 u202 u203 u204 u205 u206 u207 u208 u209 u210 u211 u212 u213 u214 u215 u216 u217 u218 u219 u220 u221 u222 u223 u224 u225 u226 u227 u228 u229 u230 u231 u232 u233 u234 u235 u236 u237 u238 u239 u240 u241 u242 u243 u244 u245 u246 u247 u248 u249 u250 u251 u252 : Value) (Q : Exit → Act → World → Prop) (hQ : ∀ v19 v20 v162 v163 v164 v165 v166 v167 v168 v169 v170 v171 v172 v173 v174 v175 v176 v177 v178 v179 v180 v181 v182 v183 v184 v185 v186 v187 v188 v189 v190 v191 v192 v193 v194 v195 v196 v197 v198 v199 v200 v201 v202 v203 v204 v205 v206 v207 v208 v209 v210 v211 v212 v213 v214 v215 v216 v217 v218 v219 v220 v221 v222 v223 v224 v225 v226 v227 v228 v229 v230 v231 v232 v233 v234 v235 v236 v237 : Value, Q .normal ⟨#[.string s, u1, u2, u3, u4, u5, u6, .int .i64 s.size, u8, .bool false, .int .u64 10, u11, u12, u13, u14, u15, u16, .int .i64 (dF + -(V : Int)), u18, v19, v20, u21, u22, u23, u24, u25, u26, u27, u28, u29, u30, u31, u32, u33, u34, u35, u36, u37, u38, u39, u40, u41, u42, u43, u44, u45, u46, u47, u48, u49, u50, u51, u52, u53, u54, u55, u56, u57, u58, u59, u60, u61, u62, u63, u64, u65, u66, u67, u68, u69, u70, u71, u72, u73, u74, u75, u76, u77, u78, u79, u80, u81, u82, u83, u84, u85, u86, u87, u88, u89, u90, u91, u92, u93, u94, u95, u96, u97, u98, u99, u100, u101, u102, u103, u104, u105, u106, u107, u108, u109, u110, u111, u112, u113, u114, u115, u116, u117, u118, u119, u120, u121, u122, u123, u124, u125, u126, u127, u128, u129, u130, u131, u132, u133, u134, u135, u136, u137, u138, u139, u140, u141, u142, u143, u144, u145, u146, u147, u148, u149, u150, u151, u152, u153, u154, u155, u156, u157, u158, u159, u160, .bool true, v162, v163, v164, v165, v166, v167, v168, v169, v170, v171, v172, v173, v174, v175, v176, v177, v178, v179, v180, v181, v182, v183, v184, v185, v186, v187, v188, v189, v190, v191, v192, v193, v194, v195, v196, v197, v198, v199, v200, v201, v202, v203, v204, v205, v206, v207, v208, v209, v210, v211, v212, v213, v214, v215, v216, v217, v218, v219, v220, v221, v222, v223, v224, v225, v226, v227, v228, v229, v230, v231, v232, v233, v234, v235, v236, v237, u238, u239, u240, u241, u242, u243, u244, u245, u246, u247, u248, u249, u250, u251, u252], []⟩ w) :
    Code.wp Tryz.prog (rfExpOf Tryz.f232) Q ⟨#[.string s, u1, u2, u3, u4, u5, u6, .int .i64 k, u8, .bool false, .int .u64 10, u11, u12, u13, u14, u15, u16, .int .i64 dF, u18, u19, u20, u21, u22, u23, u24, u25, u26, u27, u28, u29, u30, u31, u32, u33, u34, u35, u36, u37, u38, u39, u40, u41, u42, u43, u44, u45, u46, u47, u48, u49, u50, u51, u52, u53, u54, u55, u56, u57, u58, u59, u60, u61, u62, u63, u64, u65, u66, u67, u68, u69, u70, u71, u72, u73, u74, u75, u76, u77, u78, u79, u80, u81, u82, u83, u84, u85, u86, u87, u88, u89, u90, u91, u92, u93, u94, u95, u96, u97, u98, u99, u100, u101, u102, u103, u104, u105, u106, u107, u108, u109, u110, u111, u112, u113, u114, u115, u116, u117, u118, u119, u120, u121, u122, u123, u124, u125, u126, u127, u128, u129, u130, u131, u132, u133, u134, u135, u136, u137, u138, u139, u140, u141, u142, u143, u144, u145, u146, u147, u148, u149, u150, u151, u152, u153, u154, u155, u156, u157, u158, u159, u160, .bool true, u162, u163, u164, u165, u166, u167, u168, u169, u170, u171, u172, u173, u174, u175, u176, u177, u178, u179, u180, u181, u182, u183, u184, u185, u186, u187, u188, u189, u190, u191, u192, u193, u194, u195, u196, u197, u198, u199, u200, u201, u202, u203, u204, u205, u206, u207, u208, u209, u210, u211, u212, u213, u214, u215, u216, u217, u218, u219, u220, u221, u222, u223, u224, u225, u226, u227, u228, u229, u230, u231, u232, u233, u234, u235, u236, u237, u238, u239, u240, u241, u242, u243, u244, u245, u246, u247, u248, u249, u250, u251, u252], []⟩ w := by
  have J3 := hide j3
  have HV := hide hV
  have HQ := hide hQ
  clear j3 hV hQ
  obtain ⟨j7, j8⟩ := unhide J3 (k + 1 + 1) j1 (Nat.le_refl _)
  have j6 : (k : Int) + 1 < s.size := by omega
  conv => arg 2; whnf
  go_wp2_with fail
  go_loop [7, 9, 20] (fun i us e => ∃ (q v : Nat), k + 1 + 1 ≤ q ∧ q ≤ s.size ∧ v < 10 ^ (q - (k + 1 + 1)) ∧ Hid (expVal v (s.data.toList.drop q) = V) ∧ i = .int .i64 q ∧ us = .bool false ∧ e = .int .i64 v) (fun i _ _ => s.size - (intOf i).toNat)
  case atStart => exact ⟨k + 1 + 1, 0, Nat.le_refl _, by omega, Nat.pow_pos (by omega), HV, by go_num, rfl, rfl⟩
  case round =>
    obtain ⟨q, v, q1, q2, q3, q4, rfl, rfl, rfl⟩ := hrel
    by_cases q5 : q < s.size
    · obtain ⟨q6, q7⟩ := unhide J3 q q5 q1
      have q8 := exp_bound v q (k + 1 + 1) q3 (by omega)
      have q10 := hide (exp_step v q (k + 1 + 1) s[q].toNat q3 q1 (by omega))
      have hb2 := byte_lt s[q]
      have q9 := hide q3
      have q11 : Hid (expVal (v * 10 + (s[q].toNat - 48)) (s.data.toList.drop (q + 1)) = V) := by
        have h := unhide q4
        rw [drop_byte s q q5] at h
        exact h
      clear q3
      go_wp2_with fail
      go_round
      case rel => exact ⟨q + 1, v * 10 + (s[q].toNat - 48), by omega, by omega, unhide q10, q11, by go_num, rfl, by go_num⟩
      case measure => simp [intOf]; omega
    · have q6 : q = s.size := by omega
      subst q6
      have q9 := hide q3
      have q11 : v = V := by
        have h := unhide q4
        rw [List.drop_of_length_le (by simp)] at h
        exact h
      have q12 : v ≤ 9999 := by
        have : 10 ^ (s.size - (k + 1 + 1)) ≤ 10 ^ 4 := Nat.pow_le_pow_right (by omega) (by omega)
        omega
      subst q11
      clear q3
      go_wp2_with fail
      exact unhide HQ _ _ _ _ _ _ _ _ _ _ _ _ _ _ _ _ _ _ _ _ _ _ _ _ _ _ _ _ _ _ _ _ _ _ _ _ _ _ _ _ _ _ _ _ _ _ _ _ _ _ _ _ _ _ _ _ _ _ _ _ _ _ _ _ _ _ _ _ _ _ _ _ _ _ _ _ _ _

end Go.Proofs.YtgjhjfldocapjaaGreatDoor

namespace Go.Proofs.YtgjhjfldocapjaaGreatDoor
open Go.RowKit

set_option maxRecDepth 100000 in
set_option maxHeartbeats 4000000 in
theorem readFloat_pos (s : ByteArray) (w : World) (R : RF × List UInt8) (x : Int) (h0 : 0 < s.size) (hm : s.size ≤ 40) (c1 : 48 ≤ (s[0].toNat : Int)) (c2 : (s[0].toNat : Int) ≤ 57)
   (hx : ∀ (i : Nat) (h : i < s.size), (bits BinOp.or IntKind.u8 (s[i].toNat : Int) 32 == 120) = false) (hu : ∀ (i : Nat) (h : i < s.size), (s[i].toNat : Int) ≠ 95)
   (hR : RF.run RF.start (s.data.toList.drop 0) = R) (hR2 : R.2 = [] ∨ ∃ r, R.2 = 101 :: r) (hsg : R.1.sg = true) (hx0 : R.2 = [] → x = 0) (hE : ∀ r, R.2 = 101 :: r → ∃ es ds, ExpOk r es ds ∧ x = es * (expVal 0 ds : Int)) :
    Calls Tryz.prog 232 #[.string s] w fun e w' => e = .returned (.tuple #[.int .u64 R.1.m, .int .i64 (R.1.exp x), .bool false, .bool R.1.tr, .bool false, .int .i64 s.size, .bool true]) ∧ w' = w := by
  have he : decide (s = ByteArray.empty) = false := by
    rw [decide_eq_false_iff_not]; intro h; rw [h] at h0; simp at h0
  have h43 : ((s[0].toNat : Int) == 43) = false := beq_eq_false_iff_ne.2 (by omega)
  have h45 : ((s[0].toNat : Int) == 45) = false := beq_eq_false_iff_ne.2 (by omega)
  have hxa : ∀ (h : 0 + 1 < s.size), (bits BinOp.or IntKind.u8 (s[0 + 1].toNat : Int) 32 == 120) = false := fun h => hx (0 + 1) h
  have HR := hide hR
  have HR2 := hide hR2
  have Hx := hide hx
  have Hu := hide hu
  have Hsg := hide hsg
  have Hx0 := hide hx0
  have HE := hide hE
  clear hR hR2 hx hu hsg hx0 hE
  go_enter Tryz.func232, Tryz.ntmps232
  go_wp2_with fail
  go_step3
  go_upto_region 12 with fail
  go_cut [27, 54] (fun _ b wx => b = .bool false ∧ wx = w)
  case first =>
    go_wp2_with (go_at_call 208; refine (Tryz.internal_strconv_lower _ _).mono ?_; rintro e w' ⟨rfl, rfl⟩)
    all_goals go_meet
    all_goals exact ⟨rfl, rfl⟩
  case rest =>
    obtain ⟨rfl, rfl⟩ := hcut
    go_wp2_with fail
    go_step3
    go_wp2_with fail
    refine rf_loop s 0 _ R (by omega) hm (unhide Hu) (unhide HR) (unhide HR2) _ _ _ _ _ _ _ _ _ _ _ _ _ _ _ _ _ _ _ _ _ _ _ _ _ _ _ _ _ _ _ _ _ _ _ _ _ _ _ _ _ _ _ _ _ _ _ _ _ _ _ _ _ _ _ _ _ _ _ _ _ _ _ _ _ _ _ _ _ _ _ _ _ _ _ _ _ _ _ _ _ _ _ _ _ _ _ _ _ _ _ _ _ _ _ _ _ _ _ _ _ _ _ _ _ _ _ _ _ _ _ _ _ _ _ _ _ _ _ _ _ _ _ _ _ _ _ _ _ _ _ _ _ _ _ _ _ _ _ _ _ _ _ _ _ _ _ _ _ _ _ _ _ _ _ _ _ _ _ _ _ _ _ _ _ _ _ _ _ _ _ _ _ _ _ _ _ _ _ _ _ _ _ _ _ _ _ _ _ _ _ _ _ _ _ _ _ _ _ _ _ _ _ _ _ _ _ _ _ _ _ _ _ _ _ _ _ _ _ _ _ _ _ _ _ _ _ _ _ _ _ _ _ _ _ _ _ _ _ _ _ _ ?_
    intro st k v18 v57 v58 v59 v60 v61 v62 v63 v64 v65 v66 v67 v68 v69 v70 v71 v72 v73 v74 v75 v76 v77 v78 v79 v80 v81 v82 v83 v84 v85 v86 v87 v88 v89 v90 v91 v92 v93 v94 v95 v96 v97 v98 v99 v100 v101 v102 v103 v104 v105 v106 v107 v108 v109 v110 v111 v112 v113 v114 v115 v116 v117 v118 v119 v120 v121 v122 v123 v124 v125 v126 v127 v128 v129 v130 v131 v132 v133 v134 v135 v136 v137 v138 hk0 hk1 hok hRk
    have hRk' := hide hRk
    clear hRk
    simp only [Exit.inBlock, if_true]
    have hsg2 : st.sg = true := by have := unhide Hsg; rw [unhide hRk'] at this; exact this
    have b7 : -40 ≤ (if st.sd then st.dp else (st.nd : Int)) ∧ (if st.sd then st.dp else (st.nd : Int)) ≤ 40 := by
      have a1 := hok.nd
      have a2 := hok.lo
      have a3 := hok.hi
      split <;> omega
    obtain ⟨dF, hdF⟩ : ∃ d : Int, (if st.sd then st.dp else (st.nd : Int)) = d := ⟨_, rfl⟩
    have HdF := hide hdF
    rw [hdF] at b7
    obtain ⟨b7, b8⟩ := b7
    have b1 := hok.nm
    have Hok := hide hok
    clear hdF hok
    go_upto_if 142 with fail
    go_cut [13, 14, 17] (fun _ _ d wx => d = .int .i64 dF ∧ wx = wc)
    case first =>
      cases hsd : st.sd
      all_goals
        have hd := unhide HdF
        rw [hsd] at hd
        simp only [if_true, if_false, Bool.false_eq_true] at hd
        have Hd := hide hd
        clear hd
        go_wp2_with fail
        go_meet
        first | exact ⟨by rw [unhide Hd], rfl⟩ | (rw [unhide Hd]; exact ⟨rfl, rfl⟩)
    case rest =>
      obtain ⟨rfl, rfl⟩ := hcut
      have hfin : Hid (R.1.exp x = if st.m = 0 then 0 else dF + x - st.nm) := by
        unfold Hid; rw [unhide hRk']; unfold RF.exp; rw [unhide HdF]
      have hfm : Hid (R.1.m = st.m ∧ R.1.tr = st.tr) := by unfold Hid; rw [unhide hRk']; exact ⟨rfl, rfl⟩
      by_cases hlt : k < s.size
      · have e4' : s[k] = 101 := by
          rcases unhide HR2 with h | ⟨r, h⟩
          · rw [unhide hRk', drop_byte s k hlt] at h; simp at h
          · rw [unhide hRk', drop_byte s k hlt] at h; simp at h; exact h.1
        have e4 : (s[k].toNat : Int) = 101 := by rw [e4']; rfl
        have h101 : bits BinOp.or IntKind.u8 101 32 = 101 := by decide
        obtain ⟨es, ds, hek, hxe⟩ := unhide HE (s.data.toList.drop (k + 1)) (by rw [unhide hRk', drop_byte s k hlt, e4'])
        obtain ⟨j, j1, j2, j3, j4, jf⟩ := exp_forms s k es ds hek
        have bx := hek.bound hxe
        obtain ⟨bx1, bx2⟩ := bx
        rw [← j4] at hxe
        have J3 := hide j3
        have Hxe := hide hxe
        clear j3 j4 hxe hek e4'
        go_upto_if 161 with (go_at_call 208; refine (Tryz.internal_strconv_lower _ _).mono ?_; rintro e w' ⟨rfl, hw⟩; rw [hw]; clear hw w')
        go_cut [7, 9, 17] (fun i us d wx => i = .int .i64 s.size ∧ us = .bool false ∧ d = .int .i64 (dF + x) ∧ wx = wc)
        case first =>
          rcases jf with ⟨rfl, ⟨jh, j5⟩, rfl⟩ | ⟨rfl, ⟨jh, j5⟩, rfl⟩ | ⟨rfl, rfl⟩
          · refine rf_exp_plus s k _ dF _ hm b7 b8 jh j5 j1 j2 (unhide J3) rfl _ _ _ _ _ _ _ _ _ _ _ _ _ _ _ _ _ _ _ _ _ _ _ _ _ _ _ _ _ _ _ _ _ _ _ _ _ _ _ _ _ _ _ _ _ _ _ _ _ _ _ _ _ _ _ _ _ _ _ _ _ _ _ _ _ _ _ _ _ _ _ _ _ _ _ _ _ _ _ _ _ _ _ _ _ _ _ _ _ _ _ _ _ _ _ _ _ _ _ _ _ _ _ _ _ _ _ _ _ _ _ _ _ _ _ _ _ _ _ _ _ _ _ _ _ _ _ _ _ _ _ _ _ _ _ _ _ _ _ _ _ _ _ _ _ _ _ _ _ _ _ _ _ _ _ _ _ _ _ _ _ _ _ _ _ _ _ _ _ _ _ _ _ _ _ _ _ _ _ _ _ _ _ _ _ _ _ _ _ _ _ _ _ _ _ _ _ _ _ _ _ _ _ _ _ _ _ _ _ _ _ _ _ _ _ _ _ _ _ _ _ _ _ _ _ _ _ _ _ _ _ _ _ _ _ _ _ _ _ _ _ _ _ _ _ _ _ _ ?_
            intro w19 w20 w162 w163 w164 w165 w166 w167 w168 w169 w170 w171 w172 w173 w174 w175 w176 w177 w178 w179 w180 w181 w182 w183 w184 w185 w186 w187 w188 w189 w190 w191 w192 w193 w194 w195 w196 w197 w198 w199 w200 w201 w202 w203 w204 w205 w206 w207 w208 w209 w210 w211 w212 w213 w214 w215 w216 w217 w218 w219 w220 w221 w222 w223 w224 w225 w226 w227 w228 w229 w230 w231 w232 w233 w234 w235 w236 w237
            dsimp only
            go_wp2_with fail
            go_meet
            exact ⟨rfl, rfl, by rw [unhide Hxe, Int.one_mul], rfl⟩
          · refine rf_exp_minus s k _ dF _ hm b7 b8 jh j5 j1 j2 (unhide J3) rfl _ _ _ _ _ _ _ _ _ _ _ _ _ _ _ _ _ _ _ _ _ _ _ _ _ _ _ _ _ _ _ _ _ _ _ _ _ _ _ _ _ _ _ _ _ _ _ _ _ _ _ _ _ _ _ _ _ _ _ _ _ _ _ _ _ _ _ _ _ _ _ _ _ _ _ _ _ _ _ _ _ _ _ _ _ _ _ _ _ _ _ _ _ _ _ _ _ _ _ _ _ _ _ _ _ _ _ _ _ _ _ _ _ _ _ _ _ _ _ _ _ _ _ _ _ _ _ _ _ _ _ _ _ _ _ _ _ _ _ _ _ _ _ _ _ _ _ _ _ _ _ _ _ _ _ _ _ _ _ _ _ _ _ _ _ _ _ _ _ _ _ _ _ _ _ _ _ _ _ _ _ _ _ _ _ _ _ _ _ _ _ _ _ _ _ _ _ _ _ _ _ _ _ _ _ _ _ _ _ _ _ _ _ _ _ _ _ _ _ _ _ _ _ _ _ _ _ _ _ _ _ _ _ _ _ _ _ _ _ _ _ _ _ _ _ _ _ _ ?_
            intro w19 w20 w162 w163 w164 w165 w166 w167 w168 w169 w170 w171 w172 w173 w174 w175 w176 w177 w178 w179 w180 w181 w182 w183 w184 w185 w186 w187 w188 w189 w190 w191 w192 w193 w194 w195 w196 w197 w198 w199 w200 w201 w202 w203 w204 w205 w206 w207 w208 w209 w210 w211 w212 w213 w214 w215 w216 w217 w218 w219 w220 w221 w222 w223 w224 w225 w226 w227 w228 w229 w230 w231 w232 w233 w234 w235 w236 w237
            dsimp only
            go_wp2_with fail
            go_meet
            exact ⟨rfl, rfl, by rw [unhide Hxe, Int.neg_mul, Int.one_mul], rfl⟩
          · refine rf_exp_none s k _ dF _ hm b7 b8 j1 j2 (unhide J3) rfl _ _ _ _ _ _ _ _ _ _ _ _ _ _ _ _ _ _ _ _ _ _ _ _ _ _ _ _ _ _ _ _ _ _ _ _ _ _ _ _ _ _ _ _ _ _ _ _ _ _ _ _ _ _ _ _ _ _ _ _ _ _ _ _ _ _ _ _ _ _ _ _ _ _ _ _ _ _ _ _ _ _ _ _ _ _ _ _ _ _ _ _ _ _ _ _ _ _ _ _ _ _ _ _ _ _ _ _ _ _ _ _ _ _ _ _ _ _ _ _ _ _ _ _ _ _ _ _ _ _ _ _ _ _ _ _ _ _ _ _ _ _ _ _ _ _ _ _ _ _ _ _ _ _ _ _ _ _ _ _ _ _ _ _ _ _ _ _ _ _ _ _ _ _ _ _ _ _ _ _ _ _ _ _ _ _ _ _ _ _ _ _ _ _ _ _ _ _ _ _ _ _ _ _ _ _ _ _ _ _ _ _ _ _ _ _ _ _ _ _ _ _ _ _ _ _ _ _ _ _ _ _ _ _ _ _ _ _ _ _ _ _ _ _ _ _ _ _ ?_
            intro w19 w20 w162 w163 w164 w165 w166 w167 w168 w169 w170 w171 w172 w173 w174 w175 w176 w177 w178 w179 w180 w181 w182 w183 w184 w185 w186 w187 w188 w189 w190 w191 w192 w193 w194 w195 w196 w197 w198 w199 w200 w201 w202 w203 w204 w205 w206 w207 w208 w209 w210 w211 w212 w213 w214 w215 w216 w217 w218 w219 w220 w221 w222 w223 w224 w225 w226 w227 w228 w229 w230 w231 w232 w233 w234 w235 w236 w237
            dsimp only
            go_wp2_with fail
            go_meet
            exact ⟨rfl, rfl, by rw [unhide Hxe, Int.one_mul], rfl⟩
        case rest =>
          obtain ⟨rfl, rfl, rfl, rfl⟩ := hcut
          by_cases hm0 : st.m = 0
          · have hm1 : ((st.m : Int) != 0) = false := by simp [hm0]
            have Hm0 := hide hm0
            clear hm0
            go_wp2_with fail
            try rw [Exit.noGoto_ret]
            refine bodyPost_ret (v := .tuple #[.int .u64 st.m, .int .i64 0, .bool false, .bool st.tr, .bool false, .int .i64 s.size, .bool true]) (by simp [results, Tryz.results232, go_sem]) rfl ⟨?_, rfl⟩
            rw [unhide hfin, (unhide hfm).1, (unhide hfm).2, if_pos (unhide Hm0)]
          · have hm1 : ((st.m : Int) != 0) = true := by simp [hm0]
            have Hm0 := hide hm0
            clear hm0
            go_wp2_with fail
            try rw [Exit.noGoto_ret]
            refine bodyPost_ret (v := .tuple #[.int .u64 st.m, .int .i64 (dF + x - st.nm), .bool false, .bool st.tr, .bool false, .int .i64 s.size, .bool true]) (by simp [results, Tryz.results232, go_sem]) rfl ⟨?_, rfl⟩
            rw [unhide hfin, (unhide hfm).1, (unhide hfm).2, if_neg (unhide Hm0)]
      · have hke : k = s.size := by omega
        subst hke
        have hx1 : x = 0 := unhide Hx0 (by rw [unhide hRk', List.drop_of_length_le (by simp)])
        subst hx1
        rw [Int.add_zero] at hfin
        by_cases hm0 : st.m = 0
        · have hm1 : ((st.m : Int) != 0) = false := by simp [hm0]
          have Hm0 := hide hm0
          clear hm0
          go_wp2_with fail
          try rw [Exit.noGoto_ret]
          refine bodyPost_ret (v := .tuple #[.int .u64 st.m, .int .i64 0, .bool false, .bool st.tr, .bool false, .int .i64 s.size, .bool true]) (by simp [results, Tryz.results232, go_sem]) rfl ⟨?_, rfl⟩
          rw [unhide hfin, (unhide hfm).1, (unhide hfm).2, if_pos (unhide Hm0)]
        · have hm1 : ((st.m : Int) != 0) = true := by simp [hm0]
          have Hm0 := hide hm0
          clear hm0
          go_wp2_with fail
          try rw [Exit.noGoto_ret]
          refine bodyPost_ret (v := .tuple #[.int .u64 st.m, .int .i64 (dF - st.nm), .bool false, .bool st.tr, .bool false, .int .i64 s.size, .bool true]) (by simp [results, Tryz.results232, go_sem]) rfl ⟨?_, rfl⟩
          rw [unhide hfin, (unhide hfm).1, (unhide hfm).2, if_neg (unhide Hm0)]

end Go.Proofs.YtgjhjfldocapjaaGreatDoor
