import Derived.Test.YtgekdmjneogdoaaGreatDoorXParse2
import Derived.Test.YtgekdmjneogdoaaGreatDoorXRfExp
import Derived.Lib.Itoa
import Derived.Lib.ItoaNum
import Derived.Sort.Row
import Derived.Deep.DeepCutAuto
import Derived.WalkMore
namespace Go.Proofs.YtgekdmjneogdoaaGreatDoor
open Go.RowKit Go.Sort Go.Lib

/-- a row without the noughts at its end -/
def trimN (f : Nat → UInt8) : Nat → Nat
  | 0 => 0
  | n + 1 => if f n = 48 then trimN f n else n + 1

abbrev encB : UInt8 → Value := fun b => Value.int .u8 (b.toNat : Int)

set_option maxRecDepth 20000 in
set_option maxHeartbeats 800000 in
theorem setDigits_any (blk u n : Nat) (p : Int) (w : World) (hH : Holds encB w blk 0 (Array.replicate n (0 : UInt8))) (hn1 : 1 ≤ n) (hn2 : n ≤ 20) (hu : u < 10 ^ n) (hu64 : u < 18446744073709551616) (hp1 : -2000 ≤ p) (hp2 : p ≤ 2000) :
    Calls Tryz.prog 225 #[.slice (some ⟨blk, 0, none⟩) 24 24, .int .u64 u, .int .i64 p, .int .i64 n] w fun e w' =>
      e = .returned (.tuple #[.int .i64 (n + p), .int .i64 (trimN (fun t => dg u (n - 1 - t)) n)]) ∧ ∃ (k : Nat) (dk : Array UInt8), w' = (putRow encB w blk 0 dk).drewN k ∧ dk.size = n ∧ ∀ t, t < n → dk[t]! = dg u (n - 1 - t) := by
  have L := Tryz.internal_strconv_formatBase10 blk 0 24 u (Array.replicate n (0 : UInt8)) w hH (by simpa using hu) hu64 (by simp; omega)
  rw [Array.size_replicate] at L
  have H := hide L
  clear L
  go_enter Tryz.func225, Tryz.ntmps225
  go_wp2_with fail
  refine (unhide H).mono ?_
  rintro e w1 ⟨rfl, k, v', dk, hw, hI⟩
  have hds : dk.size = n := hI.size
  have hdone : ∀ t, t < n → dk[t]! = dg u (n - 1 - t) := fun t ht => hI.done t (Nat.zero_le _) ht
  have hcell : ∀ t, t < n → w1.cell? ⟨blk, t, none⟩ = some (.int .u8 ((dg u (n - 1 - t)).toNat : Int)) := by
    intro t ht
    rw [hw, World.cell?_drewN]
    have h := cell?_putRow encB w blk 0 (Array.replicate n (0 : UInt8)) dk hH (by simp [hds]) t (by omega)
    rw [Nat.zero_add, hdone t ht] at h
    exact h
  have HC := hide hcell
  have HE : Hid (∃ (k : Nat) (dk : Array UInt8), w1 = (putRow encB w blk 0 dk).drewN k ∧ dk.size = n ∧ ∀ t, t < n → dk[t]! = dg u (n - 1 - t)) := ⟨k, dk, hw, hds, hdone⟩
  clear hcell hdone hds hI hw
  go_wp2_with fail
  go_loop [3] (fun x => ∃ q : Nat, q ≤ n ∧ Hid (trimN (fun t => dg u (n - 1 - t)) n = trimN (fun t => dg u (n - 1 - t)) q) ∧ x = .int .i64 q) (fun x => (RowKit.intOf x).toNat)
  case atStart => exact ⟨n, Nat.le_refl _, rfl, rfl⟩
  case round =>
    obtain ⟨q, q1, q2, rfl⟩ := hrel
    by_cases h0 : q = 0
    · subst h0
      have q3 : Hid (trimN (fun t => dg u (n - 1 - t)) n = 0) := by have := unhide q2; rw [trimN] at this; exact this
      go_wp2_with fail
      go_ret2
      rw [unhide q3]
      exact ⟨rfl, unhide HE⟩
    · obtain ⟨j, rfl⟩ : ∃ j, q = j + 1 := ⟨q - 1, by omega⟩
      have hc := unhide HC j (by omega)
      by_cases hz : dg u (n - 1 - j) = 48
      · have q3 : Hid (trimN (fun t => dg u (n - 1 - t)) n = trimN (fun t => dg u (n - 1 - t)) j) := by have := unhide q2; rw [trimN, if_pos hz] at this; exact this
        have hz2 : ((dg u (n - 1 - j)).toNat : Int) = 48 := by rw [hz]; rfl
        rw [hz2] at hc
        clear hz hz2
        go_wp2_with fail
        go_round
        case rel => exact ⟨j, by omega, q3, by go_num⟩
        case measure => simp [RowKit.intOf]
      · have q3 : Hid (trimN (fun t => dg u (n - 1 - t)) n = j + 1) := by have := unhide q2; rw [trimN, if_neg hz] at this; exact this
        have hz2 : (((dg u (n - 1 - j)).toNat : Int) == 48) = false := by
          rw [beq_eq_false_iff_ne]; intro h; apply hz
          apply UInt8.toNat_inj.1
          show _ = 48
          omega
        clear hz
        go_wp2_with fail
        go_ret2
        rw [unhide q3]
        exact ⟨rfl, unhide HE⟩
end Go.Proofs.YtgekdmjneogdoaaGreatDoor

namespace Go.Proofs.YtgekdmjneogdoaaGreatDoor
open Go.RowKit Go.Sort

theorem infoB : (Tryz.prog.info? 5).map (fun i => (i.zero, i.size, i.bytes)) = some (some (.int .u8 0), 1, 1) := by kernel_rfl

/-- a row of bytes of our own with room for 24, and that nothing else has turned since W -/
structure Row (W : World) (g : Nat) (w : World) (l : List UInt8) : Prop where
  own : w.ownsRow g 5 1 (.slice (some ⟨g, 0, none⟩) l.length 24) l.length (l.map encB)
  grow : W.grownBy w (some g)

theorem Row.step {W w w' : World} {g : Nat} {l m : List UInt8} {o : Obj} {xs : List Value} {n : Nat} (h : Row W g w l) (hx : xs = (l.map encB) ++ m.map encB) (hn : n = l.length + m.length)
    (h1 : w'.ownsRow g 5 1 (.slice (some ⟨g, 0, none⟩) n 24) n xs) (h2 : (w.alloc o).grownBy w' (some g)) : Row W g w' (l ++ m) := by
  subst hx hn
  refine ⟨?_, ?_⟩
  · rw [List.length_append, List.map_append]; exact h1
  · refine ⟨h2.os.trans h.grow.os, h2.tape.trans h.grow.tape, h2.output.trans h.grow.output, ?_, ?_⟩
    · have a := h.grow.size
      have b := h2.size
      simp at b
      omega
    · intro k hk hne
      have a := h.grow.size
      rw [h2.block k (by simp; omega) hne, ← h.grow.block k hk hne]
      exact Below.heap_alloc w o k (by omega)

theorem Row.step0 {W w w' : World} {g : Nat} {l m : List UInt8} {xs : List Value} {n : Nat} (h : Row W g w l) (hx : xs = (l.map encB) ++ m.map encB) (hn : n = l.length + m.length)
    (h1 : w'.ownsRow g 5 1 (.slice (some ⟨g, 0, none⟩) n 24) n xs) (h2 : w.grownBy w' (some g)) : Row W g w' (l ++ m) := by
  subst hx hn
  refine ⟨?_, ?_⟩
  · rw [List.length_append, List.map_append]; exact h1
  · refine ⟨h2.os.trans h.grow.os, h2.tape.trans h.grow.tape, h2.output.trans h.grow.output, Nat.le_trans h.grow.size h2.size, ?_⟩
    intro k hk hne
    have a := h.grow.size
    rw [h2.block k (by omega) hne]; exact h.grow.block k hk hne

theorem Row.cell {W w : World} {g b o : Nat} {l : List UInt8} {v : Value} (h : Row W g w l) (hb : b ≠ g) (hc : W.cell? ⟨b, o, none⟩ = some v) : w.cell? ⟨b, o, none⟩ = some v := by
  have hl := lt_of_cell hc
  rw [World.cell?_of_block (w := W) (h.grow.block b hl (by simpa using hb))]; exact hc

def efgFracOf (p : Func) : Code := (p.body.bind (condOn 92)).getD .skip

/-- the digits behind the point, filled up -/
def fracOf (ds : Nat → UInt8) (m prec : Nat) : List UInt8 := 46 :: ((List.range (m - 1)).map (fun t => ds (t + 1)) ++ List.replicate (prec + 1 - m) 48)

set_option maxRecDepth 100000 in
set_option maxHeartbeats 2000000 in
theorem efg_frac (W w2 : World) (g B nd prec m : Nat) (ds : Nat → UInt8) (l2 l3 : List UInt8) (hr2 : Row W g w2 l2) (hnd1 : 1 ≤ nd) (hnd2 : nd ≤ 18) (hp0 : 1 ≤ prec) (hp : prec ≤ 16) (hgB : B ≠ g) (hl2n : l2.length ≤ 2)
    (hB : ∀ t, t < nd → W.cell? ⟨B, t, none⟩ = some (.int .u8 ((ds t).toNat : Int))) (hm : min nd (prec + 1) = m) (hl3 : l2 ++ fracOf ds m prec = l3)
    (u1 u3 u6 u7 u8 u9 u10 u11 u12 u13 u14 u15 u16 u17 u18 u19 u20 u21 u22 u23 u24 u25 u26 u27 u28 u29 u30 u31 u32 u33 u34 u35 u36 u37 u38 u39 u40 u41 u42 u43 u44 u45 u46 u47 u48 u49 u50 u51 u52 u53 u54 u55 u56 u57 u58 u59 u60 u61 u62 u63 u64 u65 u66 u67 u68 u69 u70 u71 u72 u73 u74 u75 u76 u77 u78 u79 u80 u81 u82 u83 u84 u85 u86 u87 u88 u89 u90 u91 u93 u94 u95 u96 u97 u98 u99 u100 u101 u102 u103 u104 u105 u106 u107 u108 u109 u110 u111 u112 u113 u114 u115 u116 u117 u118 u119 u120 u121 u122 u123 u124 u125 u126 u127 u128 u129 u130 u131 u132 u133 u134 u135 u136 u137 u138 u139 u140 u141 u142 u143 u144 u145 u146 u147 u148 u149 u150 u151 u152 u153 u154 u155 u156 u157 u158 u159 u160 u161 u162 u163 u164 u165 u166 u167 u168 u169 u170 u171 u172 u173 u174 u175 u176 u177 u178 u179 u180 u181 u182 u183 u184 u185 u186 u187 u188 u189 u190 u191 u192 u193 u194 u195 u196 u197 u198 u199 u200 u201 u202 u203 u204 u205 u206 u207 u208 u209 u210 u211 u212 u213 u214 u215 u216 u217 u218 u219 u220 u221 u222 u223 u224 u225 u226 u227 u228 u229 u230 u231 u232 u233 u234 u235 u236 u237 u238 u239 u240 u241 u242 u243 u244 u245 u246 u247 u248 u249 u250 u251 u252 u253 u254 u255 u256 u257 u258 u259 u260 u261 u262 u263 u264 u265 u266 u267 u268 u269 u270 u271 : Value) (Q : Exit → Act → World → Prop) (hQ : ∀ (w3 : World) (v20 v21 v93 v94 v95 v96 v97 v98 v99 v100 v101 v102 v103 v104 v105 v106 v107 v108 v109 v110 v111 v112 v113 v114 v115 v116 v117 v118 v119 : Value), Row W g w3 l3 → Q .normal ⟨#[.slice (some ⟨g, 0, none⟩) l3.length 24, u1, .slice (some ⟨B, 0, none⟩) 24 24, u3, .int .i64 nd, .int .i64 prec, u6, u7, u8, u9, u10, u11, u12, u13, u14, u15, u16, u17, u18, u19, v20, v21, u22, u23, u24, u25, u26, u27, u28, u29, u30, u31, u32, u33, u34, u35, u36, u37, u38, u39, u40, u41, u42, u43, u44, u45, u46, u47, u48, u49, u50, u51, u52, u53, u54, u55, u56, u57, u58, u59, u60, u61, u62, u63, u64, u65, u66, u67, u68, u69, u70, u71, u72, u73, u74, u75, u76, u77, u78, u79, u80, u81, u82, u83, u84, u85, u86, u87, u88, u89, u90, u91, .bool true, v93, v94, v95, v96, v97, v98, v99, v100, v101, v102, v103, v104, v105, v106, v107, v108, v109, v110, v111, v112, v113, v114, v115, v116, v117, v118, v119, u120, u121, u122, u123, u124, u125, u126, u127, u128, u129, u130, u131, u132, u133, u134, u135, u136, u137, u138, u139, u140, u141, u142, u143, u144, u145, u146, u147, u148, u149, u150, u151, u152, u153, u154, u155, u156, u157, u158, u159, u160, u161, u162, u163, u164, u165, u166, u167, u168, u169, u170, u171, u172, u173, u174, u175, u176, u177, u178, u179, u180, u181, u182, u183, u184, u185, u186, u187, u188, u189, u190, u191, u192, u193, u194, u195, u196, u197, u198, u199, u200, u201, u202, u203, u204, u205, u206, u207, u208, u209, u210, u211, u212, u213, u214, u215, u216, u217, u218, u219, u220, u221, u222, u223, u224, u225, u226, u227, u228, u229, u230, u231, u232, u233, u234, u235, u236, u237, u238, u239, u240, u241, u242, u243, u244, u245, u246, u247, u248, u249, u250, u251, u252, u253, u254, u255, u256, u257, u258, u259, u260, u261, u262, u263, u264, u265, u266, u267, u268, u269, u270, u271], []⟩ w3) :
    Code.wp Tryz.prog (efgFracOf Tryz.f222) Q ⟨#[.slice (some ⟨g, 0, none⟩) l2.length 24, u1, .slice (some ⟨B, 0, none⟩) 24 24, u3, .int .i64 nd, .int .i64 prec, u6, u7, u8, u9, u10, u11, u12, u13, u14, u15, u16, u17, u18, u19, u20, u21, u22, u23, u24, u25, u26, u27, u28, u29, u30, u31, u32, u33, u34, u35, u36, u37, u38, u39, u40, u41, u42, u43, u44, u45, u46, u47, u48, u49, u50, u51, u52, u53, u54, u55, u56, u57, u58, u59, u60, u61, u62, u63, u64, u65, u66, u67, u68, u69, u70, u71, u72, u73, u74, u75, u76, u77, u78, u79, u80, u81, u82, u83, u84, u85, u86, u87, u88, u89, u90, u91, .bool true, u93, u94, u95, u96, u97, u98, u99, u100, u101, u102, u103, u104, u105, u106, u107, u108, u109, u110, u111, u112, u113, u114, u115, u116, u117, u118, u119, u120, u121, u122, u123, u124, u125, u126, u127, u128, u129, u130, u131, u132, u133, u134, u135, u136, u137, u138, u139, u140, u141, u142, u143, u144, u145, u146, u147, u148, u149, u150, u151, u152, u153, u154, u155, u156, u157, u158, u159, u160, u161, u162, u163, u164, u165, u166, u167, u168, u169, u170, u171, u172, u173, u174, u175, u176, u177, u178, u179, u180, u181, u182, u183, u184, u185, u186, u187, u188, u189, u190, u191, u192, u193, u194, u195, u196, u197, u198, u199, u200, u201, u202, u203, u204, u205, u206, u207, u208, u209, u210, u211, u212, u213, u214, u215, u216, u217, u218, u219, u220, u221, u222, u223, u224, u225, u226, u227, u228, u229, u230, u231, u232, u233, u234, u235, u236, u237, u238, u239, u240, u241, u242, u243, u244, u245, u246, u247, u248, u249, u250, u251, u252, u253, u254, u255, u256, u257, u258, u259, u260, u261, u262, u263, u264, u265, u266, u267, u268, u269, u270, u271], []⟩ w2 := by
  obtain ⟨i0, hi, hz0, hz1, hz2⟩ := info_parts infoB
  have HB := hide hB
  have HQ := hide hQ
  clear hB hQ
  have hm1 : 1 ≤ m := by omega
  have hm2 : m ≤ prec + 1 := by omega
  have hm3 : m ≤ nd := by omega
  have hmI : min (nd : Int) ((prec : Int) + 1) = (m : Int) := by omega
  have Hm := hide hm
  clear hm
  obtain ⟨l4, hl4⟩ : ∃ l4 : List UInt8, l2 ++ [46] = l4 := ⟨_, rfl⟩
  have hl4n : l2.length + 1 = l4.length := by rw [← hl4]; simp
  obtain ⟨ms, hms⟩ : ∃ ms : List UInt8, (List.range (m - 1)).map (fun t => ds (t + 1)) = ms := ⟨_, rfl⟩
  have hmsn : ms.length = m - 1 := by rw [← hms]; simp
  obtain ⟨l5, hl5⟩ : ∃ l5 : List UInt8, l4 ++ ms = l5 := ⟨_, rfl⟩
  have hl5n : l4.length + (m - 1) = l5.length := by rw [← hl5]; simp [hmsn]
  have hz : Hid (l5 ++ List.replicate (prec + 1 - m) 48 = l3) := by
    unfold Hid; rw [← hl3, ← hl5, ← hl4]; unfold fracOf; rw [hms]; simp
  have hl3m : l5.length + (prec + 1 - m) = l3.length := by rw [← unhide hz]; simp
  have Hms := hide hms
  have Hl5 := hide hl5
  have Hl4 := hide hl4
  have Hl3 := hide hl3
  clear hms hl5 hl4 hl3
  conv => arg 2; whnf
  go_upto_if 102 with (at_builtin; refine wpList_append_fits _ rfl _ _ 135 rfl g 5 i0 1 Tryz.underlying135 hi hz1 g (l2.length) 24 ((l2).map encB) rfl (hr2.own.alloc _) ⟨w2.heap.size, 0, none⟩ 1 1 [(.int .u8 46)] rfl rfl (cell_one_new _ _ _) (fun x hx => by simp at hx; subst hx; rfl) (by omega) ?_; intro w4 hown4 hg4)
  have hr4 : Row W g w4 l4 := by
    have := hr2.step (m := [46]) rfl rfl hown4 hg4
    rw [unhide Hl4] at this; exact this
  clear hown4 hg4
  go_cut [0, 20] from 93 to 112 (fun d i wx => d = .slice (some ⟨g, 0, none⟩) l5.length 24 ∧ i = .int .i64 m ∧ Row W g wx l5)
  case first =>
    by_cases hm4 : m = 1
    · have h5 : Hid (l5 = l4) := by
        have e : ms = [] := List.eq_nil_of_length_eq_zero (by omega)
        have := unhide Hl5; rw [e, List.append_nil] at this; exact this.symm
      have hm5 : ¬ (1 : Int) < (m : Int) := by omega
      have Hm4 := hide hm4
      clear hm4
      go_wp2_with fail
      go_meet
      rw [unhide h5]
      exact ⟨rfl, by rw [unhide Hm4]; rfl, hr4⟩
    · have hm5 : (1 : Int) < (m : Int) := by omega
      have hcells : ∀ (j : Nat) (u : Value), (ms.map encB)[j]? = some u → w4.cell? ((⟨B, 1, none⟩ : Addr).add j) = some u := by
        intro j u hj
        have hj1 : j < m - 1 := by
          have := (List.getElem?_eq_some_iff.1 hj).1
          simp at this; omega
        have hu : u = .int .u8 ((ds (j + 1)).toNat : Int) := by
          rw [← unhide Hms] at hj
          simp [hj1] at hj
          exact hj.symm
        rw [hu]
        have e : (⟨B, 1, none⟩ : Addr).add j = ⟨B, j + 1, none⟩ := by simp [Addr.add, Nat.add_comm]
        rw [e]
        exact hr4.cell hgB (unhide HB (j + 1) (by omega))
      have Hc := hide hcells
      clear hcells hm4
      go_wp2_with (at_builtin; refine wpList_append_fits _ rfl _ _ 135 rfl g 5 i0 1 Tryz.underlying135 hi hz1 g l4.length 24 (l4.map encB) rfl hr4.own ⟨B, 1, none⟩ (m - 1) 23 (ms.map encB) rfl (by simp [hmsn]) (unhide Hc) (fun x hx => by simp at hx; obtain ⟨y, _, rfl⟩ := hx; rfl) (by omega) ?_; intro w5 hown5 hg5)
      go_meet
      refine ⟨rfl, rfl, ?_⟩
      have := hr4.step0 (m := ms) rfl (by rw [hmsn]) hown5 hg5
      rw [unhide Hl5] at this; exact this
  case rest =>
    obtain ⟨rfl, rfl, hr5⟩ := hcut
    go_wp2_with fail
    go_loopw [0, 114] (fun d i wx => ∃ (q : Nat) (lq : List UInt8), q ≤ prec + 1 - m ∧ d = .slice (some ⟨g, 0, none⟩) lq.length 24 ∧ i = .int .i64 q ∧ Hid (l5 ++ List.replicate q 48 = lq) ∧ Row W g wx lq) (fun _ i _ => (prec + 1 - m) - (RowKit.intOf i).toNat)
    case atStart => exact ⟨0, l5, Nat.zero_le _, rfl, rfl, by simp [Hid], hr5⟩
    case round =>
      obtain ⟨q, lq, hq1, rfl, rfl, Hlq, hrq⟩ := hrel
      have hlqn : lq.length = l5.length + q := by rw [← unhide Hlq]; simp
      have Hlqn := hide hlqn
      have hlq24 : lq.length < 24 := by omega
      clear hlqn
      by_cases hq2 : q < prec + 1 - m
      · have hq3 : (q : Int) < (prec : Int) + 1 - (m : Int) := by omega
        go_wp2_with (at_builtin; refine wpList_append_fits _ rfl _ _ 135 rfl g 5 i0 1 Tryz.underlying135 hi hz1 g (lq.length) 24 ((lq).map encB) rfl (hrq.own.alloc _) ⟨wr.heap.size, 0, none⟩ 1 1 [(.int .u8 48)] rfl rfl (cell_one_new _ _ _) (fun x hx => by simp at hx; subst hx; rfl) (by omega) ?_; intro w6 hown6 hg6)
        go_roundw
        case rel =>
          refine ⟨q + 1, lq ++ [48], by omega, by simp, by go_num, ?_, hrq.step (m := [48]) rfl rfl hown6 hg6⟩
          unfold Hid
          rw [← unhide Hlq, List.append_assoc, List.replicate_succ']
        case measure => simp [RowKit.intOf]; omega
      · have hq3 : ¬ (q : Int) < (prec : Int) + 1 - (m : Int) := by omega
        have hq4 : q = prec + 1 - m := by omega
        have hq5 : lq = l3 := by rw [← unhide Hlq, hq4]; exact unhide hz
        subst hq5
        have Hq4 := hide hq4
        clear hq4
        go_wp2_with fail
        exact unhide HQ _ _ _ _ _ _ _ _ _ _ _ _ _ _ _ _ _ _ _ _ _ _ _ _ _ _ _ _ _ _ hrq
end Go.Proofs.YtgekdmjneogdoaaGreatDoor
