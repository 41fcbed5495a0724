import Derived.Test.YtgekdmjneogdoaaGreatDoorXRfExp
namespace Go.Proofs.YtgekdmjneogdoaaGreatDoor
open Go.RowKit

set_option maxRecDepth 100000 in
set_option maxHeartbeats 4000000 in
theorem rf_exp_none (s : ByteArray) (k V : Nat) (dF : Int) (w : World) (hm : s.size ≤ 40) (b7 : -40 ≤ dF) (b8 : dF ≤ 40) (j1 : k + 1 < s.size) (j2 : s.size ≤ k + 1 + 4)
    (j3 : ∀ (q : Nat) (h : q < s.size), k + 1 ≤ q → 48 ≤ (s[q].toNat : Int) ∧ (s[q].toNat : Int) ≤ 57) (hV : expVal 0 (s.data.toList.drop (k + 1)) = V)
    (u1 u2 u3 u4 u5 u6 u8 u11 u12 u13 u14 u15 u16 u18 u19 u20 u21 u22 u23 u24 u25 u26 u27 u28 u29 u30 u31 u32 u33 u34 u35 u36 u37 u38 u39 u40 u41 u42 u43 u44 u45 u46 u47 u48 u49 u50 u51 u52 u53 u54 u55 u56 u57 u58 u59 u60 u61 u62 u63 u64 u65 u66 u67 u68 u69 u70 u71 u72 u73 u74 u75 u76 u77 u78 u79 u80 u81 u82 u83 u84 u85 u86 u87 u88 u89 u90 u91 u92 u93 u94 u95 u96 u97 u98 u99 u100 u101 u102 u103 u104 u105 u106 u107 u108 u109 u110 u111 u112 u113 u114 u115 u116 u117 u118 u119 u120 u121 u122 u123 u124 u125 u126 u127 u128 u129 u130 u131 u132 u133 u134 u135 u136 u137 u138 u139 u140 u141 u142 u143 u144 u145 u146 u147 u148 u149 u150 u151 u152 u153 u154 u155 u156 u157 u158 u159 u160 u162 u163 u164 u165 u166 u167 u168 u169 u170 u171 u172 u173 u174 u175 u176 u177 u178 u179 u180 u181 u182 u183 u184 u185 u186 u187 u188 u189 u190 u191 u192 u193 u194 u195 u196 u197 u198 u199 u200 u201 u202 u203 u204 u205 u206 u207 u208 u209 u210 u211 u212 u213 u214 u215 u216 u217 u218 u219 u220 u221 u222 u223 u224 u225 u226 u227 u228 u229 u230 u231 u232 u233 u234 u235 u236 u237 u238 u239 u240 u241 u242 u243 u244 u245 u246 u247 u248 u249 u250 u251 u252 : Value) (Q : Exit → Act → World → Prop) (hQ : ∀ v19 v20 v162 v163 v164 v165 v166 v167 v168 v169 v170 v171 v172 v173 v174 v175 v176 v177 v178 v179 v180 v181 v182 v183 v184 v185 v186 v187 v188 v189 v190 v191 v192 v193 v194 v195 v196 v197 v198 v199 v200 v201 v202 v203 v204 v205 v206 v207 v208 v209 v210 v211 v212 v213 v214 v215 v216 v217 v218 v219 v220 v221 v222 v223 v224 v225 v226 v227 v228 v229 v230 v231 v232 v233 v234 v235 v236 v237 : Value, Q .normal ⟨#[.string s, u1, u2, u3, u4, u5, u6, .int .i64 s.size, u8, .bool false, .int .u64 10, u11, u12, u13, u14, u15, u16, .int .i64 (dF + (V : Int)), u18, v19, v20, u21, u22, u23, u24, u25, u26, u27, u28, u29, u30, u31, u32, u33, u34, u35, u36, u37, u38, u39, u40, u41, u42, u43, u44, u45, u46, u47, u48, u49, u50, u51, u52, u53, u54, u55, u56, u57, u58, u59, u60, u61, u62, u63, u64, u65, u66, u67, u68, u69, u70, u71, u72, u73, u74, u75, u76, u77, u78, u79, u80, u81, u82, u83, u84, u85, u86, u87, u88, u89, u90, u91, u92, u93, u94, u95, u96, u97, u98, u99, u100, u101, u102, u103, u104, u105, u106, u107, u108, u109, u110, u111, u112, u113, u114, u115, u116, u117, u118, u119, u120, u121, u122, u123, u124, u125, u126, u127, u128, u129, u130, u131, u132, u133, u134, u135, u136, u137, u138, u139, u140, u141, u142, u143, u144, u145, u146, u147, u148, u149, u150, u151, u152, u153, u154, u155, u156, u157, u158, u159, u160, .bool true, v162, v163, v164, v165, v166, v167, v168, v169, v170, v171, v172, v173, v174, v175, v176, v177, v178, v179, v180, v181, v182, v183, v184, v185, v186, v187, v188, v189, v190, v191, v192, v193, v194, v195, v196, v197, v198, v199, v200, v201, v202, v203, v204, v205, v206, v207, v208, v209, v210, v211, v212, v213, v214, v215, v216, v217, v218, v219, v220, v221, v222, v223, v224, v225, v226, v227, v228, v229, v230, v231, v232, v233, v234, v235, v236, v237, u238, u239, u240, u241, u242, u243, u244, u245, u246, u247, u248, u249, u250, u251, u252], []⟩ w) :
    Code.wp Tryz.prog (rfExpOf Tryz.f274) Q ⟨#[.string s, u1, u2, u3, u4, u5, u6, .int .i64 k, u8, .bool false, .int .u64 10, u11, u12, u13, u14, u15, u16, .int .i64 dF, u18, u19, u20, u21, u22, u23, u24, u25, u26, u27, u28, u29, u30, u31, u32, u33, u34, u35, u36, u37, u38, u39, u40, u41, u42, u43, u44, u45, u46, u47, u48, u49, u50, u51, u52, u53, u54, u55, u56, u57, u58, u59, u60, u61, u62, u63, u64, u65, u66, u67, u68, u69, u70, u71, u72, u73, u74, u75, u76, u77, u78, u79, u80, u81, u82, u83, u84, u85, u86, u87, u88, u89, u90, u91, u92, u93, u94, u95, u96, u97, u98, u99, u100, u101, u102, u103, u104, u105, u106, u107, u108, u109, u110, u111, u112, u113, u114, u115, u116, u117, u118, u119, u120, u121, u122, u123, u124, u125, u126, u127, u128, u129, u130, u131, u132, u133, u134, u135, u136, u137, u138, u139, u140, u141, u142, u143, u144, u145, u146, u147, u148, u149, u150, u151, u152, u153, u154, u155, u156, u157, u158, u159, u160, .bool true, u162, u163, u164, u165, u166, u167, u168, u169, u170, u171, u172, u173, u174, u175, u176, u177, u178, u179, u180, u181, u182, u183, u184, u185, u186, u187, u188, u189, u190, u191, u192, u193, u194, u195, u196, u197, u198, u199, u200, u201, u202, u203, u204, u205, u206, u207, u208, u209, u210, u211, u212, u213, u214, u215, u216, u217, u218, u219, u220, u221, u222, u223, u224, u225, u226, u227, u228, u229, u230, u231, u232, u233, u234, u235, u236, u237, u238, u239, u240, u241, u242, u243, u244, u245, u246, u247, u248, u249, u250, u251, u252], []⟩ w := by
  have J3 := hide j3
  have HV := hide hV
  have HQ := hide hQ
  clear j3 hV hQ
  obtain ⟨j7, j8⟩ := unhide J3 (k + 1) j1 (Nat.le_refl _)
  have j6 : (k : Int) + 1 < s.size := by omega
  have j9 : ((s[k + 1].toNat : Int) == 43) = false := beq_eq_false_iff_ne.2 (by omega)
  have j10 : ((s[k + 1].toNat : Int) == 45) = false := beq_eq_false_iff_ne.2 (by omega)
  conv => arg 2; whnf
  go_wp2_with fail
  go_loop [7, 9, 20] (fun i us e => ∃ (q v : Nat), k + 1 ≤ q ∧ q ≤ s.size ∧ v < 10 ^ (q - (k + 1)) ∧ Hid (expVal v (s.data.toList.drop q) = V) ∧ i = .int .i64 q ∧ us = .bool false ∧ e = .int .i64 v) (fun i _ _ => s.size - (intOf i).toNat)
  case atStart => exact ⟨k + 1, 0, Nat.le_refl _, by omega, Nat.pow_pos (by omega), HV, by go_num, rfl, rfl⟩
  case round =>
    obtain ⟨q, v, q1, q2, q3, q4, rfl, rfl, rfl⟩ := hrel
    by_cases q5 : q < s.size
    · obtain ⟨q6, q7⟩ := unhide J3 q q5 q1
      have q8 := exp_bound v q (k + 1) q3 (by omega)
      have q10 := hide (exp_step v q (k + 1) s[q].toNat q3 q1 (by omega))
      have hb2 := byte_lt s[q]
      have q9 := hide q3
      have q11 : Hid (expVal (v * 10 + (s[q].toNat - 48)) (s.data.toList.drop (q + 1)) = V) := by
        have h := unhide q4
        rw [drop_byte s q q5] at h
        exact h
      clear q3
      go_wp2_with fail
      go_round
      case rel => exact ⟨q + 1, v * 10 + (s[q].toNat - 48), by omega, by omega, unhide q10, q11, by go_num, rfl, by go_num⟩
      case measure => simp [intOf]; omega
    · have q6 : q = s.size := by omega
      subst q6
      have q9 := hide q3
      have q11 : v = V := by
        have h := unhide q4
        rw [List.drop_of_length_le (by simp)] at h
        exact h
      have q12 : v ≤ 9999 := by
        have : 10 ^ (s.size - (k + 1)) ≤ 10 ^ 4 := Nat.pow_le_pow_right (by omega) (by omega)
        omega
      subst q11
      clear q3
      go_wp2_with fail
      exact unhide HQ _ _ _ _ _ _ _ _ _ _ _ _ _ _ _ _ _ _ _ _ _ _ _ _ _ _ _ _ _ _ _ _ _ _ _ _ _ _ _ _ _ _ _ _ _ _ _ _ _ _ _ _ _ _ _ _ _ _ _ _ _ _ _ _ _ _ _ _ _ _ _ _ _ _ _ _ _ _

end Go.Proofs.YtgekdmjneogdoaaGreatDoor
