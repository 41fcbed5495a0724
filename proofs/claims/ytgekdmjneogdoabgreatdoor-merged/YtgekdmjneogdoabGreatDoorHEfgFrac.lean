import Derived.Test.YtgekdmjneogdoabGreatDoorHRfExp
import Derived.Test.YtgekdmjneogdoabGreatDoorHSetDig
import Derived.Deep.DeepCutAuto
import Derived.WalkMore
namespace Go.Proofs.YtgekdmjneogdoabGreatDoor
open Go.RowKit Go.Sort

theorem infoB : (Tryz.prog.info? 5).map (fun i => (i.zero, i.size, i.bytes)) = some (some (.int .u8 0), 1, 1) := by kernel_rfl

/-- a row of bytes of our own with room for 24, and that nothing else has turned since W -/
structure Row (W : World) (g : Nat) (w : World) (l : List UInt8) : Prop where
  own : w.ownsRow g 5 1 (.slice (some ⟨g, 0, none⟩) l.length 24) l.length (l.map encB)
  grow : W.grownBy w (some g)

theorem Row.step {W w w' : World} {g : Nat} {l m : List UInt8} {o : Obj} {xs : List Value} {n : Nat} (h : Row W g w l) (hx : xs = (l.map encB) ++ m.map encB) (hn : n = l.length + m.length)
    (h1 : w'.ownsRow g 5 1 (.slice (some ⟨g, 0, none⟩) n 24) n xs) (h2 : (w.alloc o).grownBy w' (some g)) : Row W g w' (l ++ m) := by
  subst hx hn
  refine ⟨?_, ?_⟩
  · rw [List.length_append, List.map_append]; exact h1
  · refine ⟨h2.os.trans h.grow.os, h2.tape.trans h.grow.tape, h2.output.trans h.grow.output, ?_, ?_⟩
    · have a := h.grow.size
      have b := h2.size
      simp at b
      omega
    · intro k hk hne
      have a := h.grow.size
      rw [h2.block k (by simp; omega) hne, ← h.grow.block k hk hne]
      exact Below.heap_alloc w o k (by omega)

theorem Row.step0 {W w w' : World} {g : Nat} {l m : List UInt8} {xs : List Value} {n : Nat} (h : Row W g w l) (hx : xs = (l.map encB) ++ m.map encB) (hn : n = l.length + m.length)
    (h1 : w'.ownsRow g 5 1 (.slice (some ⟨g, 0, none⟩) n 24) n xs) (h2 : w.grownBy w' (some g)) : Row W g w' (l ++ m) := by
  subst hx hn
  refine ⟨?_, ?_⟩
  · rw [List.length_append, List.map_append]; exact h1
  · refine ⟨h2.os.trans h.grow.os, h2.tape.trans h.grow.tape, h2.output.trans h.grow.output, Nat.le_trans h.grow.size h2.size, ?_⟩
    intro k hk hne
    have a := h.grow.size
    rw [h2.block k (by omega) hne]; exact h.grow.block k hk hne

theorem Row.cell {W w : World} {g b o : Nat} {l : List UInt8} {v : Value} (h : Row W g w l) (hb : b ≠ g) (hc : W.cell? ⟨b, o, none⟩ = some v) : w.cell? ⟨b, o, none⟩ = some v := by
  have hl := lt_of_cell hc
  rw [World.cell?_of_block (w := W) (h.grow.block b hl (by simpa using hb))]; exact hc

def efgFracOf (p : Func) : Code := (p.body.bind (condOn 92)).getD .skip

/-- the digits behind the point, filled up -/
def fracOf (ds : Nat → UInt8) (m prec : Nat) : List UInt8 := 46 :: ((List.range (m - 1)).map (fun t => ds (t + 1)) ++ List.replicate (prec + 1 - m) 48)

set_option maxRecDepth 100000 in
set_option maxHeartbeats 2000000 in
theorem efg_frac (W w2 : World) (g B nd prec m : Nat) (ds : Nat → UInt8) (l2 l3 : List UInt8) (hr2 : Row W g w2 l2) (hnd1 : 1 ≤ nd) (hnd2 : nd ≤ 18) (hp0 : 1 ≤ prec) (hp : prec ≤ 16) (hgB : B ≠ g) (hl2n : l2.length ≤ 2)
    (hB : ∀ t, t < nd → W.cell? ⟨B, t, none⟩ = some (.int .u8 ((ds t).toNat : Int))) (hm : min nd (prec + 1) = m) (hl3 : l2 ++ fracOf ds m prec = l3)
    (u1 u3 u6 u7 u8 u9 u10 u11 u12 u13 u14 u15 u16 u17 u18 u19 u20 u21 u22 u23 u24 u25 u26 u27 u28 u29 u30 u31 u32 u33 u34 u35 u36 u37 u38 u39 u40 u41 u42 u43 u44 u45 u46 u47 u48 u49 u50 u51 u52 u53 u54 u55 u56 u57 u58 u59 u60 u61 u62 u63 u64 u65 u66 u67 u68 u69 u70 u71 u72 u73 u74 u75 u76 u77 u78 u79 u80 u81 u82 u83 u84 u85 u86 u87 u88 u89 u90 u91 u93 u94 u95 u96 u97 u98 u99 u100 u101 u102 u103 u104 u105 u106 u107 u108 u109 u110 u111 u112 u113 u114 u115 u116 u117 u118 u119 u120 u121 u122 u123 u124 u125 u126 u127 u128 u129 u130 u131 u132 u133 u134 u135 u136 u137 u138 u139 u140 u141 u142 u143 u144 u145 u146 u147 u148 u149 u150 u151 u152 u153 u154 u155 u156 u157 u158 u159 u160 u161 u162 u163 u164 u165 u166 u167 u168 u169 u170 u171 u172 u173 u174 u175 u176 u177 u178 u179 u180 u181 u182 u183 u184 u185 u186 u187 u188 u189 u190 u191 u192 u193 u194 u195 u196 u197 u198 u199 u200 u201 u202 u203 u204 u205 u206 u207 u208 u209 u210 u211 u212 u213 u214 u215 u216 u217 u218 u219 u220 u221 u222 u223 u224 u225 u226 u227 u228 u229 u230 u231 u232 u233 u234 u235 u236 u237 u238 u239 u240 u241 u242 u243 u244 u245 u246 u247 u248 u249 u250 u251 u252 u253 u254 u255 u256 u257 u258 u259 u260 u261 u262 u263 u264 u265 u266 u267 u268 u269 u270 u271 : Value) (Q : Exit → Act → World → Prop) (hQ : ∀ (w3 : World) (v20 v21 v93 v94 v95 v96 v97 v98 v99 v100 v101 v102 v103 v104 v105 v106 v107 v108 v109 v110 v111 v112 v113 v114 v115 v116 v117 v118 v119 : Value), Row W g w3 l3 → Q .normal ⟨#[.slice (some ⟨g, 0, none⟩) l3.length 24, u1, .slice (some ⟨B, 0, none⟩) 24 24, u3, .int .i64 nd, .int .i64 prec, u6, u7, u8, u9, u10, u11, u12, u13, u14, u15, u16, u17, u18, u19, v20, v21, u22, u23, u24, u25, u26, u27, u28, u29, u30, u31, u32, u33, u34, u35, u36, u37, u38, u39, u40, u41, u42, u43, u44, u45, u46, u47, u48, u49, u50, u51, u52, u53, u54, u55, u56, u57, u58, u59, u60, u61, u62, u63, u64, u65, u66, u67, u68, u69, u70, u71, u72, u73, u74, u75, u76, u77, u78, u79, u80, u81, u82, u83, u84, u85, u86, u87, u88, u89, u90, u91, .bool true, v93, v94, v95, v96, v97, v98, v99, v100, v101, v102, v103, v104, v105, v106, v107, v108, v109, v110, v111, v112, v113, v114, v115, v116, v117, v118, v119, u120, u121, u122, u123, u124, u125, u126, u127, u128, u129, u130, u131, u132, u133, u134, u135, u136, u137, u138, u139, u140, u141, u142, u143, u144, u145, u146, u147, u148, u149, u150, u151, u152, u153, u154, u155, u156, u157, u158, u159, u160, u161, u162, u163, u164, u165, u166, u167, u168, u169, u170, u171, u172, u173, u174, u175, u176, u177, u178, u179, u180, u181, u182, u183, u184, u185, u186, u187, u188, u189, u190, u191, u192, u193, u194, u195, u196, u197, u198, u199, u200, u201, u202, u203, u204, u205, u206, u207, u208, u209, u210, u211, u212, u213, u214, u215, u216, u217, u218, u219, u220, u221, u222, u223, u224, u225, u226, u227, u228, u229, u230, u231, u232, u233, u234, u235, u236, u237, u238, u239, u240, u241, u242, u243, u244, u245, u246, u247, u248, u249, u250, u251, u252, u253, u254, u255, u256, u257, u258, u259, u260, u261, u262, u263, u264, u265, u266, u267, u268, u269, u270, u271], []⟩ w3) :
    Code.wp Tryz.prog (efgFracOf Tryz.f204) Q ⟨#[.slice (some ⟨g, 0, none⟩) l2.length 24, u1, .slice (some ⟨B, 0, none⟩) 24 24, u3, .int .i64 nd, .int .i64 prec, u6, u7, u8, u9, u10, u11, u12, u13, u14, u15, u16, u17, u18, u19, u20, u21, u22, u23, u24, u25, u26, u27, u28, u29, u30, u31, u32, u33, u34, u35, u36, u37, u38, u39, u40, u41, u42, u43, u44, u45, u46, u47, u48, u49, u50, u51, u52, u53, u54, u55, u56, u57, u58, u59, u60, u61, u62, u63, u64, u65, u66, u67, u68, u69, u70, u71, u72, u73, u74, u75, u76, u77, u78, u79, u80, u81, u82, u83, u84, u85, u86, u87, u88, u89, u90, u91, .bool true, u93, u94, u95, u96, u97, u98, u99, u100, u101, u102, u103, u104, u105, u106, u107, u108, u109, u110, u111, u112, u113, u114, u115, u116, u117, u118, u119, u120, u121, u122, u123, u124, u125, u126, u127, u128, u129, u130, u131, u132, u133, u134, u135, u136, u137, u138, u139, u140, u141, u142, u143, u144, u145, u146, u147, u148, u149, u150, u151, u152, u153, u154, u155, u156, u157, u158, u159, u160, u161, u162, u163, u164, u165, u166, u167, u168, u169, u170, u171, u172, u173, u174, u175, u176, u177, u178, u179, u180, u181, u182, u183, u184, u185, u186, u187, u188, u189, u190, u191, u192, u193, u194, u195, u196, u197, u198, u199, u200, u201, u202, u203, u204, u205, u206, u207, u208, u209, u210, u211, u212, u213, u214, u215, u216, u217, u218, u219, u220, u221, u222, u223, u224, u225, u226, u227, u228, u229, u230, u231, u232, u233, u234, u235, u236, u237, u238, u239, u240, u241, u242, u243, u244, u245, u246, u247, u248, u249, u250, u251, u252, u253, u254, u255, u256, u257, u258, u259, u260, u261, u262, u263, u264, u265, u266, u267, u268, u269, u270, u271], []⟩ w2 := by
  obtain ⟨i0, hi, hz0, hz1, hz2⟩ := info_parts infoB
  have HB := hide hB
  have HQ := hide hQ
  clear hB hQ
  have hm1 : 1 ≤ m := by omega
  have hm2 : m ≤ prec + 1 := by omega
  have hm3 : m ≤ nd := by omega
  have hmI : min (nd : Int) ((prec : Int) + 1) = (m : Int) := by omega
  have Hm := hide hm
  clear hm
  obtain ⟨l4, hl4⟩ : ∃ l4 : List UInt8, l2 ++ [46] = l4 := ⟨_, rfl⟩
  have hl4n : l2.length + 1 = l4.length := by rw [← hl4]; simp
  obtain ⟨ms, hms⟩ : ∃ ms : List UInt8, (List.range (m - 1)).map (fun t => ds (t + 1)) = ms := ⟨_, rfl⟩
  have hmsn : ms.length = m - 1 := by rw [← hms]; simp
  obtain ⟨l5, hl5⟩ : ∃ l5 : List UInt8, l4 ++ ms = l5 := ⟨_, rfl⟩
  have hl5n : l4.length + (m - 1) = l5.length := by rw [← hl5]; simp [hmsn]
  have hz : Hid (l5 ++ List.replicate (prec + 1 - m) 48 = l3) := by
    unfold Hid; rw [← hl3, ← hl5, ← hl4]; unfold fracOf; rw [hms]; simp
  have hl3m : l5.length + (prec + 1 - m) = l3.length := by rw [← unhide hz]; simp
  have Hms := hide hms
  have Hl5 := hide hl5
  have Hl4 := hide hl4
  have Hl3 := hide hl3
  clear hms hl5 hl4 hl3
  conv => arg 2; whnf
  go_upto_if 102 with (at_builtin; refine wpList_append_fits _ rfl _ _ 123 rfl g 5 i0 1 Tryz.underlying123 hi hz1 g (l2.length) 24 ((l2).map encB) rfl (hr2.own.alloc _) ⟨w2.heap.size, 0, none⟩ 1 1 [(.int .u8 46)] rfl rfl (cell_one_new _ _ _) (fun x hx => by simp at hx; subst hx; rfl) (by omega) ?_; intro w4 hown4 hg4)
  have hr4 : Row W g w4 l4 := by
    have := hr2.step (m := [46]) rfl rfl hown4 hg4
    rw [unhide Hl4] at this; exact this
  clear hown4 hg4
  go_cut [0, 20] from 93 to 112 (fun d i wx => d = .slice (some ⟨g, 0, none⟩) l5.length 24 ∧ i = .int .i64 m ∧ Row W g wx l5)
  case first =>
    by_cases hm4 : m = 1
    · have h5 : Hid (l5 = l4) := by
        have e : ms = [] := List.eq_nil_of_length_eq_zero (by omega)
        have := unhide Hl5; rw [e, List.append_nil] at this; exact this.symm
      have hm5 : ¬ (1 : Int) < (m : Int) := by omega
      have Hm4 := hide hm4
      clear hm4
      go_wp2_with fail
      go_meet
      rw [unhide h5]
      exact ⟨rfl, by rw [unhide Hm4]; rfl, hr4⟩
    · have hm5 : (1 : Int) < (m : Int) := by omega
      have hcells : ∀ (j : Nat) (u : Value), (ms.map encB)[j]? = some u → w4.cell? ((⟨B, 1, none⟩ : Addr).add j) = some u := by
        intro j u hj
        have hj1 : j < m - 1 := by
          have := (List.getElem?_eq_some_iff.1 hj).1
          simp at this; omega
        have hu : u = .int .u8 ((ds (j + 1)).toNat : Int) := by
          rw [← unhide Hms] at hj
          simp [hj1] at hj
          exact hj.symm
        rw [hu]
        have e : (⟨B, 1, none⟩ : Addr).add j = ⟨B, j + 1, none⟩ := by simp [Addr.add, Nat.add_comm]
        rw [e]
        exact hr4.cell hgB (unhide HB (j + 1) (by omega))
      have Hc := hide hcells
      clear hcells hm4
      go_wp2_with (at_builtin; refine wpList_append_fits _ rfl _ _ 123 rfl g 5 i0 1 Tryz.underlying123 hi hz1 g l4.length 24 (l4.map encB) rfl hr4.own ⟨B, 1, none⟩ (m - 1) 23 (ms.map encB) rfl (by simp [hmsn]) (unhide Hc) (fun x hx => by simp at hx; obtain ⟨y, _, rfl⟩ := hx; rfl) (by omega) ?_; intro w5 hown5 hg5)
      go_meet
      refine ⟨rfl, rfl, ?_⟩
      have := hr4.step0 (m := ms) rfl (by rw [hmsn]) hown5 hg5
      rw [unhide Hl5] at this; exact this
  case rest =>
    obtain ⟨rfl, rfl, hr5⟩ := hcut
    go_wp2_with fail
    go_loopw [0, 114] (fun d i wx => ∃ (q : Nat) (lq : List UInt8), q ≤ prec + 1 - m ∧ d = .slice (some ⟨g, 0, none⟩) lq.length 24 ∧ i = .int .i64 q ∧ Hid (l5 ++ List.replicate q 48 = lq) ∧ Row W g wx lq) (fun _ i _ => (prec + 1 - m) - (RowKit.intOf i).toNat)
    case atStart => exact ⟨0, l5, Nat.zero_le _, rfl, rfl, by simp [Hid], hr5⟩
    case round =>
      obtain ⟨q, lq, hq1, rfl, rfl, Hlq, hrq⟩ := hrel
      have hlqn : lq.length = l5.length + q := by rw [← unhide Hlq]; simp
      have Hlqn := hide hlqn
      have hlq24 : lq.length < 24 := by omega
      clear hlqn
      by_cases hq2 : q < prec + 1 - m
      · have hq3 : (q : Int) < (prec : Int) + 1 - (m : Int) := by omega
        go_wp2_with (at_builtin; refine wpList_append_fits _ rfl _ _ 123 rfl g 5 i0 1 Tryz.underlying123 hi hz1 g (lq.length) 24 ((lq).map encB) rfl (hrq.own.alloc _) ⟨wr.heap.size, 0, none⟩ 1 1 [(.int .u8 48)] rfl rfl (cell_one_new _ _ _) (fun x hx => by simp at hx; subst hx; rfl) (by omega) ?_; intro w6 hown6 hg6)
        go_roundw
        case rel =>
          refine ⟨q + 1, lq ++ [48], by omega, by simp, by go_num, ?_, hrq.step (m := [48]) rfl rfl hown6 hg6⟩
          unfold Hid
          rw [← unhide Hlq, List.append_assoc, List.replicate_succ']
        case measure => simp [RowKit.intOf]; omega
      · have hq3 : ¬ (q : Int) < (prec : Int) + 1 - (m : Int) := by omega
        have hq4 : q = prec + 1 - m := by omega
        have hq5 : lq = l3 := by rw [← unhide Hlq, hq4]; exact unhide hz
        subst hq5
        have Hq4 := hide hq4
        clear hq4
        go_wp2_with fail
        exact unhide HQ _ _ _ _ _ _ _ _ _ _ _ _ _ _ _ _ _ _ _ _ _ _ _ _ _ _ _ _ _ _ hrq
end Go.Proofs.YtgekdmjneogdoabGreatDoor

namespace Go.Proofs.YtgekdmjneogdoabGreatDoor
open Go.RowKit Go.Sort

/-- a power of ten, as the library writes it -/
def expText (x : Int) : List UInt8 :=
  101 :: (if x < 0 then 45 else 43) :: (if x.natAbs < 10 then [48, UInt8.ofNat (48 + x.natAbs)] else if x.natAbs < 100 then [UInt8.ofNat (48 + x.natAbs / 10), UInt8.ofNat (48 + x.natAbs % 10)]
    else [UInt8.ofNat (48 + x.natAbs / 100), UInt8.ofNat (48 + x.natAbs / 10 % 10), UInt8.ofNat (48 + x.natAbs % 10)])

def efgText (neg : Bool) (ds : Nat → UInt8) (nd prec : Nat) (dp : Int) : List UInt8 :=
  ((if neg then [45] else []) ++ [ds 0]) ++ (if prec = 0 then [] else fracOf ds (min nd (prec + 1)) prec) ++ expText (dp - 1)

theorem byte_of (n : Nat) {x : Int} (h : n < 256) (hx : (n : Int) = x) : ((UInt8.ofNat n).toNat : Int) = x := by
  rw [UInt8.toNat_ofNat_of_lt' (by simpa using h)]; exact hx

theorem cell_three_new (w : World) (a b c : Value) (t : TypeId) : ∀ j u, [a, b, c][j]? = some u → (w.alloc (.cells #[a, b, c] t)).cell? ((⟨w.heap.size, 0, none⟩ : Addr).add j) = some u := by
  intro j u h
  match j with
  | 0 => simp at h; subst h; simp [Addr.add]
  | 1 => simp at h; subst h; simp [Addr.add]
  | 2 => simp at h; subst h; simp [Addr.add]
  | (k + 3) => simp at h

set_option maxRecDepth 100000 in
set_option maxHeartbeats 2000000 in
theorem efg_any (W : World) (g B nd prec : Nat) (neg : Bool) (dp : Int) (ds : Nat → UInt8) (hr : Row W g W []) (hnd1 : 1 ≤ nd) (hnd2 : nd ≤ 18) (hp : prec ≤ 16) (hgB : B ≠ g) (hdp1 : -400 ≤ dp) (hdp2 : dp ≤ 400)
    (hB : ∀ t, t < nd → W.cell? ⟨B, t, none⟩ = some (.int .u8 ((ds t).toNat : Int))) :
    Calls Tryz.prog 204 #[.slice (some ⟨g, 0, none⟩) 0 24, .bool neg, .slice (some ⟨B, 0, none⟩) 24 24, .int .i64 dp, .int .i64 nd, .int .i64 prec, .int .u8 101, .bool false] W fun e w' => e = .returned (.slice (some ⟨g, 0, none⟩) (efgText neg ds nd prec dp).length 24) ∧ Row W g w' (efgText neg ds nd prec dp) := by
  obtain ⟨i0, hi, hz0, hz1, hz2⟩ := info_parts infoB
  have HB := hide hB
  clear hB
  have hnd0 : ((nd : Int) != 0) = true := by rw [bne_iff_ne]; omega
  obtain ⟨l1, hl1⟩ : ∃ l1 : List UInt8, (if neg then [45] else []) = l1 := ⟨_, rfl⟩
  have hl1n : l1.length ≤ 1 := by rw [← hl1]; cases neg <;> simp
  obtain ⟨l2, hl2⟩ : ∃ l2 : List UInt8, l1 ++ [ds 0] = l2 := ⟨_, rfl⟩
  have hl2n : l1.length + 1 = l2.length := by rw [← hl2]; simp
  obtain ⟨l3, hl3⟩ : ∃ l3 : List UInt8, l2 ++ (if prec = 0 then [] else fracOf ds (min nd (prec + 1)) prec) = l3 := ⟨_, rfl⟩
  have hl3n : l3.length ≤ l1.length + 18 := by
    rw [← hl3]; split
    · simp; omega
    · simp [fracOf]; omega
  have HT : Hid (efgText neg ds nd prec dp = l3 ++ expText (dp - 1)) := by
    unfold Hid efgText; rw [hl1, hl2, hl3]
  have Hl1 := hide hl1
  have Hl2 := hide hl2
  have Hl3 := hide hl3
  clear hl1 hl2 hl3
  go_enter Tryz.func204, Tryz.ntmps204
  go_upto_if 78 with fail
  go_cut [0] (fun d wx => d = .slice (some ⟨g, 0, none⟩) l1.length 24 ∧ Row W g wx l1)
  case first =>
    cases neg
    · go_wp2_with fail
      go_meet
      have := unhide Hl1
      simp only [if_false, Bool.false_eq_true] at this
      subst this
      exact ⟨rfl, hr⟩
    · have hl := unhide Hl1
      simp only [if_true] at hl
      subst hl
      go_wp2_with (at_builtin; refine wpList_append_fits _ rfl _ _ 123 rfl g 5 i0 1 Tryz.underlying123 hi hz1 g (0) 24 [] rfl (hr.own.alloc _) ⟨W.heap.size, 0, none⟩ 1 1 [(.int .u8 45)] rfl rfl (cell_one_new _ _ _) (fun x hx => by simp at hx; subst hx; rfl) (by omega) ?_; intro w1 hown1 hg1)
      go_meet
      exact ⟨rfl, hr.step (m := [45]) rfl rfl hown1 hg1⟩
  case rest =>
    obtain ⟨rfl, hr1⟩ := hcut
    have c0 := hr1.cell hgB (unhide HB 0 (by omega))
    go_upto_if 92 with (at_builtin; refine wpList_append_fits _ rfl _ _ 123 rfl g 5 i0 1 Tryz.underlying123 hi hz1 g (l1.length) 24 ((l1).map encB) rfl (hr1.own.alloc _) ⟨wc.heap.size, 0, none⟩ 1 1 [(.int .u8 ((ds 0).toNat : Int))] rfl rfl (cell_one_new _ _ _) (fun x hx => by simp at hx; subst hx; rfl) (by omega) ?_; intro w2 hown2 hg2)
    have hr2 : Row W g w2 l2 := by
      have := hr1.step (m := [ds 0]) rfl rfl hown2 hg2
      rw [unhide Hl2] at this; exact this
    clear hown2 hg2
    go_cut [0, 20, 21, 114] (fun d _ _ _ wx => d = .slice (some ⟨g, 0, none⟩) l3.length 24 ∧ Row W g wx l3)
    case first =>
      by_cases hp0 : prec = 0
      · have h3 := unhide Hl3
        rw [if_pos hp0, List.append_nil] at h3
        subst h3
        have hp1 : ¬ (0 : Int) < (prec : Int) := by omega
        have Hp0 := hide hp0
        clear hp0
        go_wp2_with fail
        go_meet
        exact ⟨rfl, hr2⟩
      · have h3 := unhide Hl3
        rw [if_neg hp0] at h3
        have hp1 : decide ((0 : Int) < (prec : Int)) = true := decide_eq_true (by omega)
        have hp2 : decide (0 < prec) = true := decide_eq_true (by omega)
        first | rw [hp1] | rw [hp2]
        refine efg_frac W w2 g B nd prec _ ds l2 l3 hr2 hnd1 hnd2 (by omega) hp hgB (by omega) (unhide HB) rfl h3 _ _ _ _ _ _ _ _ _ _ _ _ _ _ _ _ _ _ _ _ _ _ _ _ _ _ _ _ _ _ _ _ _ _ _ _ _ _ _ _ _ _ _ _ _ _ _ _ _ _ _ _ _ _ _ _ _ _ _ _ _ _ _ _ _ _ _ _ _ _ _ _ _ _ _ _ _ _ _ _ _ _ _ _ _ _ _ _ _ _ _ _ _ _ _ _ _ _ _ _ _ _ _ _ _ _ _ _ _ _ _ _ _ _ _ _ _ _ _ _ _ _ _ _ _ _ _ _ _ _ _ _ _ _ _ _ _ _ _ _ _ _ _ _ _ _ _ _ _ _ _ _ _ _ _ _ _ _ _ _ _ _ _ _ _ _ _ _ _ _ _ _ _ _ _ _ _ _ _ _ _ _ _ _ _ _ _ _ _ _ _ _ _ _ _ _ _ _ _ _ _ _ _ _ _ _ _ _ _ _ _ _ _ _ _ _ _ _ _ _ _ _ _ _ _ _ _ _ _ _ _ _ _ _ _ _ _ _ _ _ _ _ _ _ _ _ _ _ _ _ _ _ _ _ _ _ _ _ _ _ _ _ _ _ _ _ _ _ ?_
        intro w3 x20 x21 x93 x94 x95 x96 x97 x98 x99 x100 x101 x102 x103 x104 x105 x106 x107 x108 x109 x110 x111 x112 x113 x114 x115 x116 x117 x118 x119 hr3
        dsimp only
        go_wp2_with fail
        go_meet
        exact ⟨rfl, hr3⟩
    case rest =>
      obtain ⟨rfl, hr3⟩ := hcut
      obtain ⟨x, hx⟩ : ∃ x : Int, dp - 1 = x := ⟨_, rfl⟩
      have hx1 : -401 ≤ x := by omega
      have hx2 : x ≤ 399 := by omega
      have HX := hide hx
      rw [hx] at HT
      obtain ⟨l4, hl4⟩ : ∃ l4 : List UInt8, l3 ++ [101] = l4 := ⟨_, rfl⟩
      have hl4n : l3.length + 1 = l4.length := by rw [← hl4]; simp
      have Hl4 := hide hl4
      clear hl4
      go_upto_region 38 with (at_builtin; refine wpList_append_fits _ rfl _ _ 123 rfl g 5 i0 1 Tryz.underlying123 hi hz1 g (l3.length) 24 ((l3).map encB) rfl (hr3.own.alloc _) ⟨wc.heap.size, 0, none⟩ 1 1 [(.int .u8 101)] rfl rfl (cell_one_new _ _ _) (fun x hx => by simp at hx; subst hx; rfl) (by omega) ?_; intro w4 hown4 hg4)
      have hr4 : Row W g w4 l4 := by
        have := hr3.step (m := [101]) rfl rfl hown4 hg4
        rw [unhide Hl4] at this; exact this
      clear hown4 hg4
      obtain ⟨ch, hch⟩ : ∃ ch : UInt8, (if x < 0 then 45 else 43) = ch := ⟨_, rfl⟩
      obtain ⟨a, ha⟩ : ∃ a : Nat, x.natAbs = a := ⟨_, rfl⟩
      have hab : a ≤ 401 := by omega
      obtain ⟨l5, hl5⟩ : ∃ l5 : List UInt8, l4 ++ [ch] = l5 := ⟨_, rfl⟩
      have hl5n : l4.length + 1 = l5.length := by rw [← hl5]; simp
      have HT2 : Hid (efgText neg ds nd prec dp = l5 ++ (if a < 10 then [48, UInt8.ofNat (48 + a)] else if a < 100 then [UInt8.ofNat (48 + a / 10), UInt8.ofNat (48 + a % 10)] else [UInt8.ofNat (48 + a / 100), UInt8.ofNat (48 + a / 10 % 10), UInt8.ofNat (48 + a % 10)])) := by
        unfold Hid; rw [unhide HT, ← hl5, ← unhide Hl4]; unfold expText; rw [hch, ha]; simp
      have Hch := hide hch
      have Ha := hide ha
      have Hl5 := hide hl5
      clear hch ha hl5
      go_upto_if 129 with fail
      go_cut [19, 22] (fun c e wx => c = .int .u8 (ch.toNat : Int) ∧ e = .int .i64 a ∧ wx = w4)
      case first =>
        by_cases hneg : x < 0
        · have h1 : -x = (a : Int) := by have := unhide Ha; omega
          have h2 : Hid (ch = 45) := by have := unhide Hch; rw [if_pos hneg] at this; exact this.symm
          go_wp2_with fail
          go_meet
          exact ⟨by rw [unhide h2]; rfl, rfl, rfl⟩
        · have h1 : Hid (x = (a : Int)) := by have := unhide Ha; unfold Hid; omega
          have h2 : Hid (ch = 43) := by have := unhide Hch; rw [if_neg hneg] at this; exact this.symm
          go_wp2_with fail
          go_meet
          exact ⟨by rw [unhide h2]; rfl, by rw [unhide h1], rfl⟩
      case rest =>
        obtain ⟨rfl, rfl, hw⟩ := hcut
        rw [hw]
        clear hw
        go_upto_region 47 with (at_builtin; refine wpList_append_fits _ rfl _ _ 123 rfl g 5 i0 1 Tryz.underlying123 hi hz1 g (l4.length) 24 ((l4).map encB) rfl (hr4.own.alloc _) ⟨w4.heap.size, 0, none⟩ 1 1 [(.int .u8 (ch.toNat : Int))] rfl rfl (cell_one_new _ _ _) (fun x hx => by simp at hx; subst hx; rfl) (by omega) ?_; intro w5 hown5 hg5)
        have hr5 : Row W g w5 l5 := by
          have := hr4.step (m := [ch]) rfl rfl hown5 hg5
          rw [unhide Hl5] at this; exact this
        clear hown5 hg5
        by_cases ha1 : a < 10
        · have HT3 : Hid (efgText neg ds nd prec dp = l5 ++ [48, UInt8.ofNat (48 + a)]) := by
            unfold Hid; rw [unhide HT2, if_pos ha1]
          have hb1 : ((UInt8.ofNat (48 + a)).toNat : Int) = (a : Int) + 48 := byte_of (48 + a) (by omega) (by omega)
          go_wp2_with (at_builtin; refine wpList_append_fits _ rfl _ _ 123 rfl g 5 i0 1 Tryz.underlying123 hi hz1 g (l5.length) 24 ((l5).map encB) rfl (hr5.own.alloc _) ⟨w5.heap.size, 0, none⟩ 2 2 [(.int .u8 48), (.int .u8 ((a : Int) + 48))] rfl rfl (cell_two_new _ _ _ _) (fun x hx => by simp at hx; rcases hx with rfl | rfl <;> rfl) (by omega) ?_; intro w6 hown6 hg6)
          go_ret
          rw [unhide HT3]
          exact ⟨by simp, hr5.step (m := [48, UInt8.ofNat (48 + a)]) (by rw [← hb1]; rfl) rfl hown6 hg6⟩
        · by_cases ha2 : a < 100
          · have HT3 : Hid (efgText neg ds nd prec dp = l5 ++ [UInt8.ofNat (48 + a / 10), UInt8.ofNat (48 + a % 10)]) := by
              unfold Hid; rw [unhide HT2, if_neg ha1, if_pos ha2]
            have hb1 : ((UInt8.ofNat (48 + a / 10)).toNat : Int) = (a : Int) / 10 + 48 := byte_of (48 + a / 10) (by omega) (by omega)
            have hb2 : ((UInt8.ofNat (48 + a % 10)).toNat : Int) = (a : Int) % 10 + 48 := byte_of (48 + a % 10) (by omega) (by omega)
            go_wp2_with (at_builtin; refine wpList_append_fits _ rfl _ _ 123 rfl g 5 i0 1 Tryz.underlying123 hi hz1 g (l5.length) 24 ((l5).map encB) rfl (hr5.own.alloc _) ⟨w5.heap.size, 0, none⟩ 2 2 [(.int .u8 ((a : Int) / 10 + 48)), (.int .u8 ((a : Int) % 10 + 48))] rfl rfl (cell_two_new _ _ _ _) (fun x hx => by simp at hx; rcases hx with rfl | rfl <;> rfl) (by omega) ?_; intro w6 hown6 hg6)
            go_ret
            rw [unhide HT3]
            exact ⟨by simp, hr5.step (m := [UInt8.ofNat (48 + a / 10), UInt8.ofNat (48 + a % 10)]) (by rw [← hb1, ← hb2]; rfl) rfl hown6 hg6⟩
          · have HT3 : Hid (efgText neg ds nd prec dp = l5 ++ [UInt8.ofNat (48 + a / 100), UInt8.ofNat (48 + a / 10 % 10), UInt8.ofNat (48 + a % 10)]) := by
              unfold Hid; rw [unhide HT2, if_neg ha1, if_neg ha2]
            have hb1 : ((UInt8.ofNat (48 + a / 100)).toNat : Int) = (a : Int) / 100 + 48 := byte_of (48 + a / 100) (by omega) (by omega)
            have hb2 : ((UInt8.ofNat (48 + a / 10 % 10)).toNat : Int) = (a : Int) / 10 % 10 + 48 := byte_of (48 + a / 10 % 10) (by omega) (by omega)
            have hb3 : ((UInt8.ofNat (48 + a % 10)).toNat : Int) = (a : Int) % 10 + 48 := byte_of (48 + a % 10) (by omega) (by omega)
            go_wp2_with (at_builtin; refine wpList_append_fits _ rfl _ _ 123 rfl g 5 i0 1 Tryz.underlying123 hi hz1 g (l5.length) 24 ((l5).map encB) rfl (hr5.own.alloc _) ⟨w5.heap.size, 0, none⟩ 3 3 [(.int .u8 ((a : Int) / 100 + 48)), (.int .u8 ((a : Int) / 10 % 10 + 48)), (.int .u8 ((a : Int) % 10 + 48))] rfl rfl (cell_three_new _ _ _ _ _) (fun x hx => by simp at hx; rcases hx with rfl | rfl | rfl <;> rfl) (by omega) ?_; intro w6 hown6 hg6)
            go_ret
            rw [unhide HT3]
            exact ⟨by simp, hr5.step (m := [UInt8.ofNat (48 + a / 100), UInt8.ofNat (48 + a / 10 % 10), UInt8.ofNat (48 + a % 10)]) (by rw [← hb1, ← hb2, ← hb3]; rfl) rfl hown6 hg6⟩
end Go.Proofs.YtgekdmjneogdoabGreatDoor
