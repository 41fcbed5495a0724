import Derived.Test.YtgekdmjneogdoaaGreatDoorXLaws
import Derived.Test.YtgekdmjneogdoaaGreatDoorXParse2
import Derived.Deep.LoopGhost
import Derived.Deep.DeepCutAuto
import Derived.WalkMore
import Derived.BigGuardPart
namespace Go.Proofs.YtgekdmjneogdoaaGreatDoor
open Go.RowKit

theorem byte_lt (c : UInt8) : (c.toNat : Int) < 256 := by have := c.toNat_lt; omega

/-- the first test on this slot in a text of code -/
def condOn (t : Nat) : Code → Option Code
  | .cond (.tmp n) a b => if n = t then some (.cond (.tmp n) a b) else match condOn t a with
    | some c => some c
    | none => condOn t b
  | .seq a b => match condOn t a with
    | some c => some c
    | none => condOn t b
  | .block _ c => condOn t c
  | .scope c => condOn t c
  | .loop c => condOn t c
  | _ => none
def rfExpOf (p : Func) : Code := (p.body.bind (condOn 161)).getD .skip

end Go.Proofs.YtgekdmjneogdoaaGreatDoor

namespace Go.Proofs.YtgekdmjneogdoaaGreatDoor
open Go.RowKit

/-- the first loop in a text of code -/
def loopIn : Code → Option Code
  | .loop c => some (.loop c)
  | .seq a b => match loopIn a with
    | some c => some c
    | none => loopIn b
  | .block _ c => loopIn c
  | .scope c => loopIn c
  | .cond _ a b => match loopIn a with
    | some c => some c
    | none => loopIn b
  | _ => none
def rfLoopOf (p : Func) : Code := (p.body.bind loopIn).getD .skip

set_option maxRecDepth 100000 in
set_option maxHeartbeats 4000000 in
theorem rf_loop (s : ByteArray) (i0 : Nat) (w : World) (R : RF × List UInt8) (h0 : i0 ≤ s.size) (hm : s.size ≤ 40) (hu : ∀ (i : Nat) (h : i < s.size), (s[i].toNat : Int) ≠ 95)
    (hR : RF.run RF.start (s.data.toList.drop i0) = R) (hR2 : R.2 = [] ∨ ∃ r, R.2 = 101 :: r)
    (u1 u3 u4 u6 u8 u12 u18 u19 u20 u21 u22 u23 u24 u25 u26 u27 u28 u29 u30 u31 u32 u33 u34 u35 u36 u37 u38 u39 u40 u41 u42 u43 u44 u45 u46 u47 u48 u49 u50 u51 u52 u53 u54 u55 u56 u57 u58 u59 u60 u61 u62 u63 u64 u65 u66 u67 u68 u69 u70 u71 u72 u73 u74 u75 u76 u77 u78 u79 u80 u81 u82 u83 u84 u85 u86 u87 u88 u89 u90 u91 u92 u93 u94 u95 u96 u97 u98 u99 u100 u101 u102 u103 u104 u105 u106 u107 u108 u109 u110 u111 u112 u113 u114 u115 u116 u117 u118 u119 u120 u121 u122 u123 u124 u125 u126 u127 u128 u129 u130 u131 u132 u133 u134 u135 u136 u137 u138 u139 u140 u141 u142 u143 u144 u145 u146 u147 u148 u149 u150 u151 u152 u153 u154 u155 u156 u157 u158 u159 u160 u161 u162 u163 u164 u165 u166 u167 u168 u169 u170 u171 u172 u173 u174 u175 u176 u177 u178 u179 u180 u181 u182 u183 u184 u185 u186 u187 u188 u189 u190 u191 u192 u193 u194 u195 u196 u197 u198 u199 u200 u201 u202 u203 u204 u205 u206 u207 u208 u209 u210 u211 u212 u213 u214 u215 u216 u217 u218 u219 u220 u221 u222 u223 u224 u225 u226 u227 u228 u229 u230 u231 u232 u233 u234 u235 u236 u237 u238 u239 u240 u241 u242 u243 u244 u245 u246 u247 u248 u249 u250 u251 u252 : Value) (Q : Exit → Act → World → Prop) (hQ : ∀ (st : RF) (k : Nat) (v18 v57 v58 v59 v60 v61 v62 v63 v64 v65 v66 v67 v68 v69 v70 v71 v72 v73 v74 v75 v76 v77 v78 v79 v80 v81 v82 v83 v84 v85 v86 v87 v88 v89 v90 v91 v92 v93 v94 v95 v96 v97 v98 v99 v100 v101 v102 v103 v104 v105 v106 v107 v108 v109 v110 v111 v112 v113 v114 v115 v116 v117 v118 v119 v120 v121 v122 v123 v124 v125 v126 v127 v128 v129 v130 v131 v132 v133 v134 v135 v136 v137 v138 : Value), i0 ≤ k → k ≤ s.size → st.Ok k → R = (st, s.data.toList.drop k) → Q (.exit 1) ⟨#[.string s, u1, .int .u64 st.m, u3, u4, .bool st.tr, u6, .int .i64 k, u8, .bool false, .int .u64 10, .int .i64 19, u12, .bool st.sd, .bool st.sg, .int .i64 st.nd, .int .i64 st.nm, .int .i64 st.dp, v18, u19, u20, u21, u22, u23, u24, u25, u26, u27, u28, u29, u30, u31, u32, u33, u34, u35, u36, u37, u38, u39, u40, u41, u42, u43, u44, u45, u46, u47, u48, u49, u50, u51, u52, u53, u54, u55, u56, v57, v58, v59, v60, v61, v62, v63, v64, v65, v66, v67, v68, v69, v70, v71, v72, v73, v74, v75, v76, v77, v78, v79, v80, v81, v82, v83, v84, v85, v86, v87, v88, v89, v90, v91, v92, v93, v94, v95, v96, v97, v98, v99, v100, v101, v102, v103, v104, v105, v106, v107, v108, v109, v110, v111, v112, v113, v114, v115, v116, v117, v118, v119, v120, v121, v122, v123, v124, v125, v126, v127, v128, v129, v130, v131, v132, v133, v134, v135, v136, v137, v138, u139, u140, u141, u142, u143, u144, u145, u146, u147, u148, u149, u150, u151, u152, u153, u154, u155, u156, u157, u158, u159, u160, u161, u162, u163, u164, u165, u166, u167, u168, u169, u170, u171, u172, u173, u174, u175, u176, u177, u178, u179, u180, u181, u182, u183, u184, u185, u186, u187, u188, u189, u190, u191, u192, u193, u194, u195, u196, u197, u198, u199, u200, u201, u202, u203, u204, u205, u206, u207, u208, u209, u210, u211, u212, u213, u214, u215, u216, u217, u218, u219, u220, u221, u222, u223, u224, u225, u226, u227, u228, u229, u230, u231, u232, u233, u234, u235, u236, u237, u238, u239, u240, u241, u242, u243, u244, u245, u246, u247, u248, u249, u250, u251, u252], []⟩ w) :
    Code.wp Tryz.prog (rfLoopOf Tryz.f274) Q ⟨#[.string s, u1, .int .u64 0, u3, u4, .bool false, u6, .int .i64 i0, u8, .bool false, .int .u64 10, .int .i64 19, u12, .bool false, .bool false, .int .i64 0, .int .i64 0, .int .i64 0, u18, u19, u20, u21, u22, u23, u24, u25, u26, u27, u28, u29, u30, u31, u32, u33, u34, u35, u36, u37, u38, u39, u40, u41, u42, u43, u44, u45, u46, u47, u48, u49, u50, u51, u52, u53, u54, u55, u56, u57, u58, u59, u60, u61, u62, u63, u64, u65, u66, u67, u68, u69, u70, u71, u72, u73, u74, u75, u76, u77, u78, u79, u80, u81, u82, u83, u84, u85, u86, u87, u88, u89, u90, u91, u92, u93, u94, u95, u96, u97, u98, u99, u100, u101, u102, u103, u104, u105, u106, u107, u108, u109, u110, u111, u112, u113, u114, u115, u116, u117, u118, u119, u120, u121, u122, u123, u124, u125, u126, u127, u128, u129, u130, u131, u132, u133, u134, u135, u136, u137, u138, u139, u140, u141, u142, u143, u144, u145, u146, u147, u148, u149, u150, u151, u152, u153, u154, u155, u156, u157, u158, u159, u160, u161, u162, u163, u164, u165, u166, u167, u168, u169, u170, u171, u172, u173, u174, u175, u176, u177, u178, u179, u180, u181, u182, u183, u184, u185, u186, u187, u188, u189, u190, u191, u192, u193, u194, u195, u196, u197, u198, u199, u200, u201, u202, u203, u204, u205, u206, u207, u208, u209, u210, u211, u212, u213, u214, u215, u216, u217, u218, u219, u220, u221, u222, u223, u224, u225, u226, u227, u228, u229, u230, u231, u232, u233, u234, u235, u236, u237, u238, u239, u240, u241, u242, u243, u244, u245, u246, u247, u248, u249, u250, u251, u252], []⟩ w := by
  have HR := hide hR
  have HR2 := hide hR2
  have HQ := hide hQ
  have Hu := hide hu
  clear hR hR2 hQ hu
  conv => arg 2; whnf
  dsimp only
  go_loop [2, 5, 7, 9, 13, 14, 15, 16, 17] (fun m tr i us sd sg nd nm dp => ∃ (st : RF) (k : Nat), i0 ≤ k ∧ k ≤ s.size ∧ st.Ok k ∧ Hid (RF.run st (s.data.toList.drop k) = R) ∧ m = .int .u64 st.m ∧ tr = .bool st.tr ∧ i = .int .i64 k ∧ us = .bool false ∧ sd = .bool st.sd ∧ sg = .bool st.sg ∧ nd = .int .i64 st.nd ∧ nm = .int .i64 st.nm ∧ dp = .int .i64 st.dp)
    (fun _ _ i _ _ _ _ _ _ => s.size - (intOf i).toNat)
  case atStart => exact ⟨RF.start, i0, Nat.le_refl _, by omega, RF.start_ok _, HR, rfl, rfl, rfl, rfl, rfl, rfl, rfl, rfl, rfl⟩
  case round =>
    obtain ⟨st, k, hk0, hk1, hok, hrun, rfl, rfl, rfl, rfl, rfl, rfl, rfl, rfl, rfl⟩ := hrel
    have b1 := hok.nm
    have b2 := hok.nd
    have b3 := hok.lo
    have b4 := hok.hi
    have b5 := hok.m20
    by_cases hlt : k < s.size
    · have hnu := unhide Hu k hlt
      have hdr := hide (drop_byte s k hlt)
      have hb := byte_lt s[k]
      by_cases e1 : (s[k].toNat : Int) = 46
      · cases hsd : st.sd
        · go_wp2_with fail
          go_round
          case rel =>
            refine ⟨{ st with sd := true, dp := st.nd }, k + 1, by omega, by omega, hok.dot, ?_, rfl, rfl, by go_num, rfl, rfl, rfl, rfl, rfl, rfl⟩
            have h := unhide hrun
            rw [unhide hdr] at h
            exact RF.dot_go h e1 hsd
          case measure => simp [intOf]; omega
        · exfalso
          have h := unhide hrun
          rw [unhide hdr] at h
          exact RF.dot_no h e1 hsd (unhide HR2)
      · by_cases e2 : 48 ≤ (s[k].toNat : Int) ∧ (s[k].toNat : Int) ≤ 57
        · obtain ⟨e2, e3⟩ := e2
          have hrun2 : Hid (RF.run (st.digit s[k].toNat) (s.data.toList.drop (k + 1)) = R) := by
            have h := unhide hrun
            rw [unhide hdr] at h
            exact RF.digit_go h e2 e3
          have hok2 := hok.digit (c := s[k].toNat) (by omega) (by omega)
          by_cases e4 : s[k].toNat = 48 ∧ st.nd = 0
          · have e5 : Hid (st.digit s[k].toNat = { st with sg := true, dp := st.dp - 1 }) := by unfold Hid RF.digit; rw [if_pos e4]
            obtain ⟨e6, e7⟩ := e4
            go_wp2_with fail
            go_round
            case rel =>
              rw [unhide e5] at hrun2 hok2
              exact ⟨_, k + 1, by omega, by omega, hok2, hrun2, rfl, rfl, by go_num, rfl, rfl, rfl, rfl, rfl, rfl⟩
            case measure => simp [intOf]; omega
          · by_cases e8 : st.nm < 19
            · have e5 : Hid (st.digit s[k].toNat = { st with sg := true, nd := st.nd + 1, nm := st.nm + 1, m := st.m * 10 + (s[k].toNat - 48) }) := by unfold Hid RF.digit; rw [if_neg e4, if_pos e8]
              have b6 := hok.m19 e8
              have e9 : ((s[k].toNat : Int) == 48 && ((st.nd : Int) == 0)) = false := by
                rw [Bool.and_eq_false_iff]; by_cases h : s[k].toNat = 48
                · right; exact beq_eq_false_iff_ne.2 (by omega)
                · left; exact beq_eq_false_iff_ne.2 (by omega)
              by_cases e10 : (s[k].toNat : Int) = 48
              · have e11 : ((st.nd : Int) == 0) = false := beq_eq_false_iff_ne.2 (by omega)
                go_wp2_with fail
                go_round
                case rel =>
                  rw [unhide e5] at hrun2 hok2
                  exact ⟨_, k + 1, by omega, by omega, hok2, hrun2, by go_num, rfl, by go_num, rfl, rfl, rfl, by go_num, by go_num, rfl⟩
                case measure => simp [intOf]; omega
              · have e11 : ((s[k].toNat : Int) == 48) = false := beq_eq_false_iff_ne.2 e10
                go_wp2_with fail
                go_round
                case rel =>
                  rw [unhide e5] at hrun2 hok2
                  exact ⟨_, k + 1, by omega, by omega, hok2, hrun2, by go_num, rfl, by go_num, rfl, rfl, rfl, by go_num, by go_num, rfl⟩
                case measure => simp [intOf]; omega
            · have e9 : st.nm = 19 := by omega
              have e5 : Hid (st.digit s[k].toNat = { st with sg := true, nd := st.nd + 1, tr := st.tr || decide (s[k].toNat ≠ 48) }) := by unfold Hid RF.digit; rw [if_neg e4, if_neg e8]
              by_cases e10 : (s[k].toNat : Int) = 48
              · have e11 : ((st.nd : Int) == 0) = false := beq_eq_false_iff_ne.2 (by omega)
                have e12 : Hid ((st.tr || decide (s[k].toNat ≠ 48)) = st.tr) := by
                  have : s[k].toNat = 48 := by omega
                  unfold Hid; rw [this]; simp
                go_wp2_with fail
                go_round
                case rel =>
                  rw [unhide e5] at hrun2 hok2
                  exact ⟨_, k + 1, by omega, by omega, hok2, hrun2, rfl, by rw [unhide e12], by go_num, rfl, rfl, rfl, by go_num, rfl, rfl⟩
                case measure => simp [intOf]; omega
              · have e11 : ((s[k].toNat : Int) == 48) = false := beq_eq_false_iff_ne.2 e10
                have e12 : Hid ((st.tr || decide (s[k].toNat ≠ 48)) = true) := by
                  have : s[k].toNat ≠ 48 := by omega
                  unfold Hid; simp [this]
                go_wp2_with fail
                go_round
                case rel =>
                  rw [unhide e5] at hrun2 hok2
                  exact ⟨_, k + 1, by omega, by omega, hok2, hrun2, rfl, by rw [unhide e12], by go_num, rfl, rfl, rfl, by go_num, rfl, rfl⟩
                case measure => simp [intOf]; omega
        · have e3 : Hid (R = (st, s.data.toList.drop k)) := by
            have h := unhide hrun
            rw [unhide hdr] at h
            rw [unhide hdr]
            exact RF.stop h e1 e2
          have h46 : ((s[k].toNat : Int) == 46) = false := beq_eq_false_iff_ne.2 e1
          by_cases e4 : 48 ≤ (s[k].toNat : Int)
          · have e5 : ¬ (s[k].toNat : Int) ≤ 57 := fun h => e2 ⟨e4, h⟩
            clear e1 e2
            go_wp2_with fail
            exact unhide HQ st k _ _ _ _ _ _ _ _ _ _ _ _ _ _ _ _ _ _ _ _ _ _ _ _ _ _ _ _ _ _ _ _ _ _ _ _ _ _ _ _ _ _ _ _ _ _ _ _ _ _ _ _ _ _ _ _ _ _ _ _ _ _ _ _ _ _ _ _ _ _ _ _ _ _ _ _ _ _ _ _ _ _ _ hk0 hk1 hok (unhide e3)
          · have e5 : decide (48 ≤ (s[k].toNat : Int)) = false := by simp; omega
            clear e1 e2
            go_wp2_with fail
            exact unhide HQ st k _ _ _ _ _ _ _ _ _ _ _ _ _ _ _ _ _ _ _ _ _ _ _ _ _ _ _ _ _ _ _ _ _ _ _ _ _ _ _ _ _ _ _ _ _ _ _ _ _ _ _ _ _ _ _ _ _ _ _ _ _ _ _ _ _ _ _ _ _ _ _ _ _ _ _ _ _ _ _ _ _ _ _ hk0 hk1 hok (unhide e3)
    · have hke : k = s.size := by omega
      subst hke
      have e3 : Hid (R = (st, s.data.toList.drop s.size)) := by
        have h := unhide hrun
        rw [List.drop_of_length_le (by simp)] at h
        rw [List.drop_of_length_le (by simp)]
        exact h.symm
      go_wp2_with fail
      exact unhide HQ st s.size _ _ _ _ _ _ _ _ _ _ _ _ _ _ _ _ _ _ _ _ _ _ _ _ _ _ _ _ _ _ _ _ _ _ _ _ _ _ _ _ _ _ _ _ _ _ _ _ _ _ _ _ _ _ _ _ _ _ _ _ _ _ _ _ _ _ _ _ _ _ _ _ _ _ _ _ _ _ _ _ _ _ _ hk0 hk1 hok (unhide e3)
end Go.Proofs.YtgekdmjneogdoaaGreatDoor
