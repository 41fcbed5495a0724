import Derived.Test.YtgekdmjneogdoaaGreatDoorXRt1
namespace Go.Proofs.YtgekdmjneogdoaaGreatDoor
open Go.RowKit

/-! the document's Short, walked (wip/mk/short) -/
/-- a sign, as it is written -/
def sgnT (neg : Bool) : List UInt8 := if neg then [45] else []

/-! where the search for the first digit's power begins -/
def startP (x : Int) : Int := if 0 ≤ x then x * 30103 / 100000 - 2 else (x * 30103).tdiv 100000 - 3
def startOk (x : Int) : Bool := decide (-340 ≤ startP x) && decide (startP x ≤ 308) && decide (10 ^ (startP x).toNat * 2 ^ (-x).toNat ≤ 2 ^ x.toNat * 10 ^ (-(startP x)).toNat)
set_option maxRecDepth 100000 in
theorem starts_ok : ((List.range 2084).all fun k => startOk ((k : Int) - 1060)) = true := by decide +kernel
theorem start_ok (x : Int) (h1 : -1060 ≤ x) (h2 : x < 1024) : startOk x = true := by
  have h := List.all_eq_true.1 starts_ok (x + 1060).toNat (List.mem_range.2 (by omega))
  rwa [show (((x + 1060).toNat : Nat) : Int) - 1060 = x by omega] at h

theorem start_le {c v one : Nat} {kk : Int} (hc : c = 1074) (hone : one = 1) (hk : pk v = kk) (h1 : -1074 < kk) (h2 : kk ≤ 971) : -340 ≤ startP (kk + 52) ∧ startP (kk + 52) ≤ 308 ∧ LeX c v one (startP (kk + 52)) := by
  have h := start_ok (kk + 52) (by omega) (by omega)
  unfold startOk at h
  simp only [Bool.and_eq_true, decide_eq_true_eq] at h
  obtain ⟨⟨a, b⟩, d⟩ := h
  refine ⟨a, b, ?_⟩
  obtain ⟨p, hp⟩ : ∃ p, startP (kk + 52) = p := ⟨_, rfl⟩
  obtain ⟨x, hx⟩ : ∃ x, kk + 52 = x := ⟨_, rfl⟩
  rw [hp, hx] at d
  rw [hp]
  have kf := pk_fp v
  have hM : 2 ^ 52 ≤ fpM v := by
    rcases fp_cases v with g | ⟨m, e, g1, g2, rfl⟩
    · rw [fpE_sub g] at kf; omega
    · rw [fpM_bits g1 g2]; exact g1
  have hV : 2 ^ (52 + fpE v) ≤ VN v := by
    unfold VN
    rw [Nat.pow_add]
    exact Nat.mul_le_mul_right _ hM
  unfold LeX
  rw [hone, Nat.one_mul]
  have e1 : 10 ^ p.toNat * 2 ^ (-x).toNat * 2 ^ (c - (-x).toNat) = 10 ^ p.toNat * 2 ^ c := by
    rw [Nat.mul_assoc, ← Nat.pow_add, show (-x).toNat + (c - (-x).toNat) = c by omega]
  have e2 : 2 ^ x.toNat * 10 ^ (-p).toNat * 2 ^ (c - (-x).toNat) = 2 ^ (52 + fpE v) * 10 ^ (-p).toNat := by
    rw [Nat.mul_right_comm, ← Nat.pow_add, show x.toNat + (c - (-x).toNat) = 52 + fpE v by omega]
  have h3 := Nat.mul_le_mul_right (2 ^ (c - (-x).toNat)) d
  rw [e1, e2] at h3
  exact Nat.le_trans h3 (Nat.mul_le_mul_right _ hV)

theorem tiny_pow (a c : Nat) (ha : a = 330) (hc : c = 1074) : 2 ^ c ≤ 10 ^ a := by subst ha hc; decide +kernel
theorem start_sub {c v one : Nat} (hc : c = 1074) (hone : one = 1) (hv0 : 1 ≤ v) : LeX c v one (-330) := by
  obtain ⟨a, ha⟩ : ∃ a, a = 330 := ⟨_, rfl⟩
  unfold LeX
  rw [hone, Nat.one_mul, show (-330 : Int).toNat = 0 by rfl, Nat.pow_zero, Nat.one_mul, show (- -330 : Int).toNat = a by omega]
  have hV : 1 ≤ VN v := by
    unfold VN
    have : 1 ≤ fpM v := by
      rcases fp_cases v with g | ⟨m, e, g1, g2, rfl⟩
      · rw [fpM_sub g]; exact hv0
      · rw [fpM_bits g1 g2]; omega
    exact Nat.mul_pos this (Nat.pow_pos (by omega))
  exact Nat.le_trans (tiny_pow a c ha hc) (Nat.le_mul_of_pos_left _ hV)

theorem up_tie {c v lo h2 A2 D N1 M1 mm : Nat} {kk q : Int} (hc : c = 1074) (hm : pm v = mm) (hk : pk v = kk) (hA : bnum (2 * mm) kk = A2) (hD : bden kk = D) (eN : N1 = h2 * 10 ^ q.toNat) (eM : M1 = 10 ^ (-q).toNat) (eh : 2 * lo + 1 = h2) :
    (decide (N1 * D < A2 * M1) = true ↔ (2 * lo + 1) * (10 ^ q.toNat * 2 ^ c) < 2 * (VN v * 10 ^ (-q).toNat)) ∧ (decide (A2 * M1 < N1 * D) = true ↔ 2 * (VN v * 10 ^ (-q).toNat) < (2 * lo + 1) * (10 ^ q.toNat * 2 ^ c)) := by
  subst hA hD eN eM eh
  have kf : kk = (fpE v : Int) - c := by rw [← hk, pk_fp v, hc]; rfl
  have h := cmp_x (2 * mm) (fpE v) c ((2 * lo + 1) * 10 ^ q.toNat) (10 ^ (-q).toNat) kk kf
  have e : 2 * mm * 2 ^ fpE v * 10 ^ (-q).toNat = 2 * (VN v * 10 ^ (-q).toNat) := by
    rw [← hm, pm_fp]
    unfold VN
    simp only [Nat.mul_assoc]
  have e2 : (2 * lo + 1) * 10 ^ q.toNat * 2 ^ c = (2 * lo + 1) * (10 ^ q.toNat * 2 ^ c) := Nat.mul_assoc _ _ _
  rw [e, e2] at h
  rw [decide_eq_true_eq, decide_eq_true_eq]
  exact ⟨h.2, h.1⟩

theorem round_end {c v lo d : Nat} {p : Int} {up tie : Bool} (h1 : LeX c v lo (p - 16)) (h2 : ¬ LeX c v (lo + 1) (p - 16)) (hu : up = true ↔ (2 * lo + 1) * (10 ^ (p - 16).toNat * 2 ^ c) < 2 * (VN v * 10 ^ (-(p - 16)).toNat)) (ht : tie = true ↔ 2 * (VN v * 10 ^ (-(p - 16)).toNat) < (2 * lo + 1) * (10 ^ (p - 16).toNat * 2 ^ c))
    (hd : (d = lo + 1 ∧ (up = true ∨ (tie = false ∧ lo % 2 = 1))) ∨ (d = lo ∧ up = false ∧ (tie = true ∨ lo % 2 = 0))) : NearI (VN v * 10 ^ (-(p - (17 : Nat) + 1)).toNat) (10 ^ (p - (17 : Nat) + 1).toNat * 2 ^ c) d := by
  rw [show p - ((17 : Nat) : Int) + 1 = p - 16 by omega]
  unfold LeX at h1 h2
  rw [Nat.mul_assoc] at h1 h2
  exact round_17 h1 (Nat.lt_of_not_le h2) hu ht hd

set_option maxRecDepth 100000 in
set_option maxHeartbeats 4000000 in
theorem rshort_any (neg : Bool) (c v one : Nat) (hc : c = 1074) (hone : one = 1) (w : World) (hv0 : 1 ≤ v) (hv : v < 9218868437227405312) :
    Calls Tryz.prog 108 #[.int .u64 (sgn neg + v : Nat)] w fun e w' => ShortP c v one (sgnT neg) e ∧ Below w.heap.size w w' := by
  have OF := hide of_rd
  have O1 : Hid (∀ w : World, Calls Tryz.prog 157 #[.int .u64 1] w fun e w' => ∃ v, e = .returned v ∧ Rd w' v (digs one) ∧ Below w.heap.size w w') := by
    intro w
    rw [hone]
    exact of_rd 1 w (by omega)
  have ONE : Hid (one < 10 ^ 50) := by rw [hone]; exact hide (by decide)
  have HONE := hide hone
  clear hone
  have DC := hide ref_near
  have BI := hide ref_binary
  have BE := hide ref_below
  have PA := hide parts_rd
  have GI := hide gives_any
  have TO := hide told_any
  have TI := hide times_rd
  have hpm := pm_lt v
  have hpk := pk_le v hv
  have V := hide (And.intro hv0 hv)
  have i1 : ¬ (9223372036854775808 : Int) ≤ (v : Int) := by omega
  have i2 : ¬ (9218868437227405312 : Int) < (v : Int) := by omega
  have i3 : ((v : Int) == 9218868437227405312) = false := by rw [beq_eq_false_iff_ne]; omega
  have i4 : ((v : Int) == 0) = false := by rw [beq_eq_false_iff_ne]; omega
  obtain ⟨z, hz⟩ : ∃ z : Int, ((sgn neg + v : Nat) : Int) = z := ⟨_, rfl⟩
  rw [hz]
  have Z := hide hz
  clear hv0 hv hz
  go_enter Tryz.func108, Tryz.ntmps108
  go_upto_region 2 with fail
  rename_i K1 hK1 K2 hK2
  have REST1 : ∀ (S : List UInt8) (u1 u4 u5 u6 u7 u8 u9 u10 u11 u12 u13 u14 u15 u16 u17 u18 u19 u20 u21 u22 u23 u24 u25 u26 u27 u28 u29 u30 u31 u32 u33 u34 u35 u36 u37 u38 u39 u40 u41 u42 u43 u44 u45 u46 u47 u48 u49 u50 u51 u52 u53 u54 u55 u56 u57 u58 u59 u60 u61 u62 u63 u64 u65 u66 u67 u68 u69 u70 u71 u72 u73 u74 u75 u76 u77 u78 u79 u80 u81 u82 u83 u84 u85 u86 u87 u88 u89 u90 u91 u92 u93 u94 u95 u96 u97 u98 u99 u100 u101 u102 u103 u104 u105 u106 u107 u108 u109 u110 u111 u112 u113 u114 u115 u116 u117 u118 u119 u120 u121 u122 u123 u124 u125 u126 u127 u128 u129 u130 u131 u132 u133 u134 u135 u136 u137 u138 u139 u140 u141 u142 u143 u144 u145 u146 u147 u148 u149 u150 u151 u152 u153 u154 u155 u156 u157 u158 u159 u160 u161 u162 u163 u164 u165 u166 u167 u168 u169 u170 u171 u172 u173 u174 u175 u176 u177 u178 u179 u180 u181 u182 u183 u184 u185 u186 u187 u188 : Value), Hid (S = sgnT neg) → K1 { tmps := #[.int .u64 v, u1, .string ⟨#[]⟩, .string (bs S), u4, u5, u6, u7, u8, u9, u10, u11, u12, u13, u14, u15, u16, u17, u18, u19, u20, u21, u22, u23, u24, u25, u26, u27, u28, u29, u30, u31, u32, u33, u34, u35, u36, u37, u38, u39, u40, u41, u42, u43, u44, u45, u46, u47, u48, u49, u50, u51, u52, u53, u54, u55, u56, u57, u58, u59, u60, u61, u62, u63, u64, u65, u66, u67, u68, u69, u70, u71, u72, u73, u74, u75, u76, u77, u78, u79, u80, u81, u82, u83, u84, u85, u86, u87, u88, u89, u90, u91, u92, u93, u94, u95, u96, u97, u98, u99, u100, u101, u102, u103, u104, u105, u106, u107, u108, u109, u110, u111, u112, u113, u114, u115, u116, u117, u118, u119, u120, u121, u122, u123, u124, u125, u126, u127, u128, u129, u130, u131, u132, u133, u134, u135, u136, u137, u138, u139, u140, u141, u142, u143, u144, u145, u146, u147, u148, u149, u150, u151, u152, u153, u154, u155, u156, u157, u158, u159, u160, u161, u162, u163, u164, u165, u166, u167, u168, u169, u170, u171, u172, u173, u174, u175, u176, u177, u178, u179, u180, u181, u182, u183, u184, u185, u186, u187, u188], defers := [] } w := by
    intro S u1 u4 u5 u6 u7 u8 u9 u10 u11 u12 u13 u14 u15 u16 u17 u18 u19 u20 u21 u22 u23 u24 u25 u26 u27 u28 u29 u30 u31 u32 u33 u34 u35 u36 u37 u38 u39 u40 u41 u42 u43 u44 u45 u46 u47 u48 u49 u50 u51 u52 u53 u54 u55 u56 u57 u58 u59 u60 u61 u62 u63 u64 u65 u66 u67 u68 u69 u70 u71 u72 u73 u74 u75 u76 u77 u78 u79 u80 u81 u82 u83 u84 u85 u86 u87 u88 u89 u90 u91 u92 u93 u94 u95 u96 u97 u98 u99 u100 u101 u102 u103 u104 u105 u106 u107 u108 u109 u110 u111 u112 u113 u114 u115 u116 u117 u118 u119 u120 u121 u122 u123 u124 u125 u126 u127 u128 u129 u130 u131 u132 u133 u134 u135 u136 u137 u138 u139 u140 u141 u142 u143 u144 u145 u146 u147 u148 u149 u150 u151 u152 u153 u154 u155 u156 u157 u158 u159 u160 u161 u162 u163 u164 u165 u166 u167 u168 u169 u170 u171 u172 u173 u174 u175 u176 u177 u178 u179 u180 u181 u182 u183 u184 u185 u186 u187 u188 HSN
    have hSl : S.length ≤ 1 := by rw [unhide HSN]; cases neg <;> simp [sgnT]
    have hSs := bs_size S
    refine hK1 _ _ ?_
    clear hK1 hK2
    go_wp2_with fail
    refine (unhide PA v _ (unhide V).2).mono ?_
    rintro e w1 ⟨rfl, hw⟩
    rw [hw]
    clear hw
    generalize hmv : pm v = mm at *
    generalize hkv : pk v = kk at *
    have hmv2 := hide hmv
    have hkv2 := hide hkv
    clear hmv hkv
    have mm64 : mm < 18446744073709551616 := by omega
    have kk1 : -1100 ≤ kk := by omega
    have kk2 : kk ≤ 1100 := by omega
    go_wp2_with fail
    refine (unhide BI mm kk _ (by omega) (by omega) (by omega)).mono ?_
    rintro e w2 ⟨xn, xm, rfl, r1, r2, hb2⟩
    have XN := hide r1
    have XM := hide r2
    have B2 := hide hb2
    obtain ⟨o1, c1, rfl, _⟩ := r1
    obtain ⟨o2, c2, rfl, _⟩ := r2
    rename_i q1 q2
    clear q1 q2 hb2
    generalize hA : bnum mm kk = A at *
    generalize hD : bden kk = D at *
    have EA := hide hA
    have ED := hide hD
    clear hA hD
    have FX := hide (FrA.make (unhide XN) (unhide XM))
    have B3 := hide (below_up (unhide B2) (below_new (Obj.cells #[.slice o1 (digs A).length c1, .slice o2 (digs D).length c2] 218)))
    go_upto_region 13 with fail
    generalize hw3 : w2.alloc (Obj.cells #[.slice o1 (digs A).length c1, .slice o2 (digs D).length c2] 218) = w3 at *
    generalize hX : w2.heap.size = X at *
    generalize Value.slice o1 (digs A).length c1 = xn at *
    generalize Value.slice o2 (digs D).length c2 = xm at *
    clear hw3 hX XN XM B2
    go_upto_region 14 with fail
    rename_i K3 hK3 K4 hK4
    have REST2 : ∀ (p0 : Int) (u1 u8 u9 u10 u11 u12 u13 u14 u15 u16 u17 u18 u19 u20 u21 u22 u23 u24 u25 u26 u27 u28 u29 u30 u31 u32 u33 u34 u35 u36 u37 u38 u39 u40 u41 u42 u43 u44 u45 u46 u47 u48 u49 u50 u51 u52 u53 u54 u55 u56 u57 u58 u59 u60 u61 u62 u63 u64 u65 u66 u67 u68 u69 u70 u71 u72 u73 u74 u75 u76 u77 u78 u79 u80 u81 u82 u83 u84 u85 u86 u87 u88 u89 u90 u91 u92 u93 u94 u95 u96 u97 u98 u99 u100 u101 u102 u103 u104 u105 u106 u107 u108 u109 u110 u111 u112 u113 u114 u115 u116 u117 u118 u119 u120 u121 u122 u123 u124 u125 u126 u127 u128 u129 u130 u131 u132 u133 u134 u135 u136 u137 u138 u139 u140 u141 u142 u143 u144 u145 u146 u147 u148 u149 u150 u151 u152 u153 u154 u155 u156 u157 u158 u159 u160 u161 u162 u163 u164 u165 u166 u167 u168 u169 u170 u171 u172 u173 u174 u175 u176 u177 u178 u179 u180 u181 u182 u183 u184 u185 u186 u187 u188 : Value), -340 ≤ p0 → p0 ≤ 308 → Hid (LeX c v one p0) → K3 { tmps := #[.int .u64 v, u1, .string ⟨#[]⟩, .string (bs S), .int .u64 mm, .int .i64 kk, .pointer (some ⟨X, 0, none⟩), .int .i64 p0, u8, u9, u10, u11, u12, u13, u14, u15, u16, u17, u18, u19, u20, u21, u22, u23, u24, u25, u26, u27, u28, u29, u30, u31, u32, u33, u34, u35, u36, u37, u38, u39, u40, u41, u42, u43, u44, u45, u46, u47, u48, u49, u50, u51, u52, u53, u54, u55, u56, u57, u58, u59, u60, u61, u62, u63, u64, u65, u66, u67, u68, u69, u70, u71, u72, u73, u74, u75, u76, u77, u78, u79, u80, u81, u82, u83, u84, u85, u86, u87, u88, u89, u90, u91, u92, u93, u94, u95, u96, u97, u98, u99, u100, u101, u102, u103, u104, u105, u106, u107, u108, u109, u110, u111, u112, u113, u114, u115, u116, u117, u118, u119, u120, u121, u122, u123, u124, u125, u126, u127, u128, u129, u130, u131, u132, u133, u134, u135, u136, u137, u138, u139, u140, u141, u142, u143, u144, u145, u146, u147, u148, u149, u150, u151, u152, u153, u154, u155, u156, u157, u158, u159, u160, u161, u162, u163, u164, u165, u166, u167, u168, u169, u170, u171, u172, u173, u174, u175, u176, u177, u178, u179, u180, u181, u182, u183, u184, u185, u186, u187, u188], defers := [] } w3 := by
      intro p0 u1 u8 u9 u10 u11 u12 u13 u14 u15 u16 u17 u18 u19 u20 u21 u22 u23 u24 u25 u26 u27 u28 u29 u30 u31 u32 u33 u34 u35 u36 u37 u38 u39 u40 u41 u42 u43 u44 u45 u46 u47 u48 u49 u50 u51 u52 u53 u54 u55 u56 u57 u58 u59 u60 u61 u62 u63 u64 u65 u66 u67 u68 u69 u70 u71 u72 u73 u74 u75 u76 u77 u78 u79 u80 u81 u82 u83 u84 u85 u86 u87 u88 u89 u90 u91 u92 u93 u94 u95 u96 u97 u98 u99 u100 u101 u102 u103 u104 u105 u106 u107 u108 u109 u110 u111 u112 u113 u114 u115 u116 u117 u118 u119 u120 u121 u122 u123 u124 u125 u126 u127 u128 u129 u130 u131 u132 u133 u134 u135 u136 u137 u138 u139 u140 u141 u142 u143 u144 u145 u146 u147 u148 u149 u150 u151 u152 u153 u154 u155 u156 u157 u158 u159 u160 u161 u162 u163 u164 u165 u166 u167 u168 u169 u170 u171 u172 u173 u174 u175 u176 u177 u178 u179 u180 u181 u182 u183 u184 u185 u186 u187 u188 hp1 hp2 HL0
      refine hK3 _ _ ?_
      clear hK3
      go_wp2_with fail
      go_loopw [7] (fun pv wr => ∃ p : Int, -340 ≤ p ∧ p ≤ 308 ∧ pv = .int .i64 p ∧ Hid (LeX c v one p) ∧ Hid (FrA wr X xn xm A D) ∧ Hid (Below w.heap.size w wr)) (fun pv _ => (400 - intOf pv).toNat)
      case atStart => exact ⟨p0, hp1, hp2, rfl, HL0, FX, B3⟩
      case round =>
        clear FX B3 HL0
        obtain ⟨p, pp1, pp2, rfl, HL, FX, BW⟩ := hrel
        have fx0 := (unhide FX).c0
        have fx1 := (unhide FX).c1
        go_upto_region 18 with fail
        go_region_held (fun w' => w'.cell? ⟨X, 0, none⟩ = some xn ∧ w'.cell? ⟨X, 1, none⟩ = some xm) (go_keep) (first
          | (go_at_call 157
             refine (unhide O1 _).mono ?_
             rintro e wa ⟨va, rfl, ra, hba⟩
             have VA := hide ra
             have FA := hide (((unhide FX).heap (by rfl)).below hba)
             have fa0 := (unhide FA).c0
             have fa1 := (unhide FA).c1
             have BA := hide (below_up (by exact ⟨(unhide BW).os, (unhide BW).tape, (unhide BW).output, (unhide BW).size, (unhide BW).block⟩) hba)
             clear ra hba)
          | (go_at_call 153
             rw [wrap_in (p + 1) (by omega) (by omega)]
             refine (unhide DC va one (p + 1) _ ?_ ?_ ?_ ?_).mono ?_
             exact (unhide VA).heap (by rfl)
             exact unhide ONE
             omega
             omega
             rintro e wb ⟨dn, dm, N1, M1, rfl, rb1, rb2, hbb, eN, eM⟩
             have RB1 := hide rb1
             have RB2 := hide rb2
             have FB := hide (((unhide FA).heap (by rfl)).below hbb)
             have fb0 := (unhide FB).c0
             have fb1 := (unhide FB).c1
             have BB := hide (below_up (by exact ⟨(unhide BA).os, (unhide BA).tape, (unhide BA).output, (unhide BA).size, (unhide BA).block⟩) hbb)
             have EN1 := hide eN
             have EM1 := hide eM
             clear rb1 rb2 hbb eN eM)
          | (go_at_call 156
             have LM := hide (lims3 (N := one) (q := p + 1) mm64 kk1 kk2 (unhide ONE) (by omega) (by omega) (unhide EA) (unhide ED) (unhide EN1) (unhide EM1))
             refine (unhide BE _ _ _ _ A D N1 M1 _ ?_ ?_ ?_ ?_ ?_ ?_ ?_ ?_ ?_).mono ?_
             exact (unhide FB).rn.heap (by rfl)
             exact (unhide FB).rm.heap (by rfl)
             exact (unhide RB1).heap (by rfl)
             exact (unhide RB2).heap (by rfl)
             exact (unhide LM).2.1
             exact (unhide LM).2.2.2.2.1
             exact (unhide LM).2.2.2.2.2
             exact (unhide LM).2.2.1
             exact (unhide LM).2.2.2.1
             rintro e wc ⟨rfl, hbc⟩
             have FC := hide (((unhide FB).heap (by rfl)).below hbc)
             have fc0 := (unhide FC).c0
             have fc1 := (unhide FC).c1
             have BC := hide (below_up (by exact ⟨(unhide BB).os, (unhide BB).tape, (unhide BB).output, (unhide BB).size, (unhide BB).block⟩) hbc)
             have DX := hide (below_x (N := one) (q := p + 1) hc (unhide hmv2) (unhide hkv2) (unhide EA) (unhide ED) (unhide EN1) (unhide EM1))
             clear hbc LM))

        by_cases g : one * 10 ^ (p + 1).toNat * 2 ^ c ≤ VN v * 10 ^ (-(p + 1)).toNat
        · rw [show decide (A * M1 < N1 * D) = false by rw [(unhide DX).1, decide_eq_true g]; rfl]
          have HL2 : Hid (LeX c v one (p + 1)) := g
          have hb308 := leX_bound hc (by rw [unhide HONE]; omega) (unhide V).2 (unhide HL2)
          clear g DX
          go_wp2_with fail
          refine ⟨⟨p + 1, by omega, hb308, by go_num, HL2, FC, BC⟩, ?_⟩
          simp [intOf]; omega
        · rw [show decide (A * M1 < N1 * D) = true by rw [(unhide DX).1, decide_eq_false g]; rfl]
          have HG : Hid (¬ LeX c v one (p + 1)) := g
          have HS : Hid (LeX c v 10000000000000000 (p - 16)) := by
            have e : (10000000000000000 : Nat) = one * 10 ^ 16 := by rw [unhide HONE]
            rw [e]
            exact (leX_shift c v one 16 (p - 16) p (by omega)).2 (unhide HL)
          have HT : Hid (¬ LeX c v 100000000000000000 (p - 16)) := by
            have e : (100000000000000000 : Nat) = one * 10 ^ 17 := by rw [unhide HONE]
            rw [e]
            exact fun q => unhide HG ((leX_shift c v one 17 (p - 16) (p + 1) (by omega)).1 q)
          clear g DX FX BW fx0 fx1 fa0 fa1 fb0 fb1 fc0 fc1 FA FB BA BB VA RB1 RB2 EN1 EM1
          go_wp2_with fail
          go_loopw [9, 10] (fun lv hv wr => ∃ lo hi : Nat, 10000000000000000 ≤ lo ∧ lo < hi ∧ hi ≤ 100000000000000000 ∧ lv = .int .i64 (lo : Int) ∧ hv = .int .i64 (hi : Int) ∧ Hid (LeX c v lo (p - 16)) ∧ Hid (¬ LeX c v hi (p - 16)) ∧ Hid (FrA wr X xn xm A D) ∧ Hid (Below w.heap.size w wr)) (fun lv hv _ => (intOf hv - intOf lv).toNat)
          case atStart => exact ⟨10000000000000000, 100000000000000000, by omega, by omega, by omega, rfl, rfl, HS, HT, FC, BC⟩
          case round =>
            clear FC BC HS HT
            obtain ⟨lo, hi, l1, l2, l3, rfl, rfl, HLo, HHi, FX, BW⟩ := hrel
            have fx0 := (unhide FX).c0
            have fx1 := (unhide FX).c1
            by_cases hgo : 1 < hi - lo
            · have hgo1 : (1 : Int) < (hi : Int) - lo := by omega
              have hmid2 : (lo : Int) + ((hi : Int) - lo) / 2 = ((lo + (hi - lo) / 2 : Nat) : Int) := by omega
              have hm1 : lo < lo + (hi - lo) / 2 := by omega
              have hm2 : lo + (hi - lo) / 2 < hi := by omega
              generalize hmm : lo + (hi - lo) / 2 = mid at *
              clear hmm
              have hm3 : mid < 18446744073709551616 := by omega
              have MID : Hid (mid < 10 ^ 50) := by
                have h50 : (10 : Nat) ^ 50 = 100000000000000000000000000000000000000000000000000 := by decide
                exact hide (by omega)
              go_upto_region 25 with fail
              go_region_held (fun w' => w'.cell? ⟨X, 0, none⟩ = some xn ∧ w'.cell? ⟨X, 1, none⟩ = some xm) (go_keep) (first
                | (go_at_call 157
                   rw [wrap_inu mid hm3]
                   refine (unhide OF mid _ hm3).mono ?_
                   rintro e wa ⟨va, rfl, ra, hba⟩
                   have VA := hide ra
                   have FA := hide (((unhide FX).heap (by rfl)).below hba)
                   have fa0 := (unhide FA).c0
                   have fa1 := (unhide FA).c1
                   have BA := hide (below_up (by exact ⟨(unhide BW).os, (unhide BW).tape, (unhide BW).output, (unhide BW).size, (unhide BW).block⟩) hba)
                   clear ra hba)
                | (go_at_call 153
                   rw [wrap_in (p - 16) (by omega) (by omega)]
                   refine (unhide DC va mid (p - 16) _ ?_ ?_ ?_ ?_).mono ?_
                   exact (unhide VA).heap (by rfl)
                   exact unhide MID
                   omega
                   omega
                   rintro e wb ⟨dn, dm, N1, M1, rfl, rb1, rb2, hbb, eN, eM⟩
                   have RB1 := hide rb1
                   have RB2 := hide rb2
                   have FB := hide (((unhide FA).heap (by rfl)).below hbb)
                   have fb0 := (unhide FB).c0
                   have fb1 := (unhide FB).c1
                   have BB := hide (below_up (by exact ⟨(unhide BA).os, (unhide BA).tape, (unhide BA).output, (unhide BA).size, (unhide BA).block⟩) hbb)
                   have EN1 := hide eN
                   have EM1 := hide eM
                   clear rb1 rb2 hbb eN eM)
                | (go_at_call 156
                   have LM := hide (lims3 (N := mid) (q := p - 16) mm64 kk1 kk2 (unhide MID) (by omega) (by omega) (unhide EA) (unhide ED) (unhide EN1) (unhide EM1))
                   refine (unhide BE _ _ _ _ A D N1 M1 _ ?_ ?_ ?_ ?_ ?_ ?_ ?_ ?_ ?_).mono ?_
                   exact (unhide FB).rn.heap (by rfl)
                   exact (unhide FB).rm.heap (by rfl)
                   exact (unhide RB1).heap (by rfl)
                   exact (unhide RB2).heap (by rfl)
                   exact (unhide LM).2.1
                   exact (unhide LM).2.2.2.2.1
                   exact (unhide LM).2.2.2.2.2
                   exact (unhide LM).2.2.1
                   exact (unhide LM).2.2.2.1
                   rintro e wc ⟨rfl, hbc⟩
                   have FC := hide (((unhide FB).heap (by rfl)).below hbc)
                   have fc0 := (unhide FC).c0
                   have fc1 := (unhide FC).c1
                   have BC := hide (below_up (by exact ⟨(unhide BB).os, (unhide BB).tape, (unhide BB).output, (unhide BB).size, (unhide BB).block⟩) hbc)
                   have DX := hide (below_x (N := mid) (q := p - 16) hc (unhide hmv2) (unhide hkv2) (unhide EA) (unhide ED) (unhide EN1) (unhide EM1))
                   clear hbc LM))
              by_cases g : mid * 10 ^ (p - 16).toNat * 2 ^ c ≤ VN v * 10 ^ (-(p - 16)).toNat
              · rw [show decide (A * M1 < N1 * D) = false by rw [(unhide DX).1, decide_eq_true g]; rfl]
                have HL2 : Hid (LeX c v mid (p - 16)) := g
                clear g DX
                go_wp2_with fail
                refine ⟨⟨mid, hi, by omega, by omega, by omega, rfl, rfl, HL2, HHi, FC, BC⟩, ?_⟩
                simp [intOf]; omega
              · rw [show decide (A * M1 < N1 * D) = true by rw [(unhide DX).1, decide_eq_false g]; rfl]
                have HL2 : Hid (¬ LeX c v mid (p - 16)) := g
                clear g DX
                go_wp2_with fail
                refine ⟨⟨lo, mid, by omega, by omega, by omega, rfl, rfl, HLo, HL2, FC, BC⟩, ?_⟩
                simp [intOf]; omega
            · have hgo1 : ¬ (1 : Int) < (hi : Int) - lo := by omega
              have HHL : Hid (hi = lo + 1) := hide (by omega)
              have hlo2 : (lo : Int) ≤ hi := by omega
              have LOW : Hid (lo < 10 ^ 50) := by
                have h50 : (10 : Nat) ^ 50 = 100000000000000000000000000000000000000000000000000 := by decide
                exact hide (by omega)
              go_upto_region 29 with fail
              have HHI2 : Hid (¬ LeX c v (lo + 1) (p - 16)) := by
                have h := unhide HHi
                rw [unhide HHL] at h
                exact h
              rename_i K7 hK7
              have REST4 : ∀ (bm : Bool) (wc : World) (g1 g4 g5 g8 g10 g11 g12 g14 g15 g16 g17 g18 g19 g20 g21 g22 g23 g24 g25 g26 g27 g28 g29 g30 g31 g32 g33 g34 g35 g36 g37 g38 g39 g40 g41 g42 g43 g44 g45 g46 g47 g48 g49 g50 g51 g52 g53 g54 g55 g56 g57 g58 g59 g60 g61 g62 g63 g64 g65 g66 g67 g68 g69 g70 g71 g72 g73 g74 g75 g76 g77 g78 g79 g80 g81 g82 g83 g84 g85 g86 g87 g88 g89 g90 g91 g92 g93 g94 g95 g96 g97 g98 g99 g100 g101 g102 g103 g104 g105 g106 g107 g108 g109 g110 g111 g112 g113 g114 g115 g116 g117 g118 g119 g120 g121 g122 g123 g124 g125 g126 g127 g128 g129 g130 g131 g132 g133 g134 g135 g136 g137 g138 g139 g140 g141 g142 g143 g144 g145 g146 g147 g148 g149 g150 g151 g152 g153 g154 g155 g156 g157 g158 g159 g160 g161 g162 g163 g164 g165 g166 g167 g168 g169 g170 g171 g172 g173 g174 g175 g176 g177 g178 g179 g180 g181 g182 g183 g184 g185 g186 g187 g188 : Value), Hid (bm = true ↔ lo * 10 ^ (p - 16).toNat * 2 ^ c < VN v * 10 ^ (-(p - 16)).toNat) → Hid (FrA wc X xn xm A D) → Hid (Below w.heap.size w wc) → K7 { tmps := #[.int .u64 v, g1, .string ⟨#[]⟩, .string (bs S), g4, g5, .pointer (some ⟨X, 0, none⟩), .int .i64 p, g8, .int .i64 (lo : Int), g10, g11, g12, .bool bm, g14, g15, g16, g17, g18, g19, g20, g21, g22, g23, g24, g25, g26, g27, g28, g29, g30, g31, g32, g33, g34, g35, g36, g37, g38, g39, g40, g41, g42, g43, g44, g45, g46, g47, g48, g49, g50, g51, g52, g53, g54, g55, g56, g57, g58, g59, g60, g61, g62, g63, g64, g65, g66, g67, g68, g69, g70, g71, g72, g73, g74, g75, g76, g77, g78, g79, g80, g81, g82, g83, g84, g85, g86, g87, g88, g89, g90, g91, g92, g93, g94, g95, g96, g97, g98, g99, g100, g101, g102, g103, g104, g105, g106, g107, g108, g109, g110, g111, g112, g113, g114, g115, g116, g117, g118, g119, g120, g121, g122, g123, g124, g125, g126, g127, g128, g129, g130, g131, g132, g133, g134, g135, g136, g137, g138, g139, g140, g141, g142, g143, g144, g145, g146, g147, g148, g149, g150, g151, g152, g153, g154, g155, g156, g157, g158, g159, g160, g161, g162, g163, g164, g165, g166, g167, g168, g169, g170, g171, g172, g173, g174, g175, g176, g177, g178, g179, g180, g181, g182, g183, g184, g185, g186, g187, g188], defers := [] } wc := by
                intro bm wc g1 g4 g5 g8 g10 g11 g12 g14 g15 g16 g17 g18 g19 g20 g21 g22 g23 g24 g25 g26 g27 g28 g29 g30 g31 g32 g33 g34 g35 g36 g37 g38 g39 g40 g41 g42 g43 g44 g45 g46 g47 g48 g49 g50 g51 g52 g53 g54 g55 g56 g57 g58 g59 g60 g61 g62 g63 g64 g65 g66 g67 g68 g69 g70 g71 g72 g73 g74 g75 g76 g77 g78 g79 g80 g81 g82 g83 g84 g85 g86 g87 g88 g89 g90 g91 g92 g93 g94 g95 g96 g97 g98 g99 g100 g101 g102 g103 g104 g105 g106 g107 g108 g109 g110 g111 g112 g113 g114 g115 g116 g117 g118 g119 g120 g121 g122 g123 g124 g125 g126 g127 g128 g129 g130 g131 g132 g133 g134 g135 g136 g137 g138 g139 g140 g141 g142 g143 g144 g145 g146 g147 g148 g149 g150 g151 g152 g153 g154 g155 g156 g157 g158 g159 g160 g161 g162 g163 g164 g165 g166 g167 g168 g169 g170 g171 g172 g173 g174 g175 g176 g177 g178 g179 g180 g181 g182 g183 g184 g185 g186 g187 g188 MORE FC BC
                refine hK7 _ _ ?_
                clear hK7 FX BW fx0 fx1 HHi hgo1 hlo2
                go_wp2_with fail
                go_loopw [14, 15] (fun uv nv wr => ∃ n un : Nat, 1 ≤ n ∧ n ≤ 17 ∧ 1 ≤ un ∧ un ≤ 10000000000000000 ∧ Hid (un = 10 ^ (17 - n)) ∧ uv = .int .i64 (un : Int) ∧ nv = .int .i64 (n : Int) ∧ Hid (∀ j, 1 ≤ j → j < n → NoGive c v p j) ∧ Hid (FrA wr X xn xm A D) ∧ Hid (Below w.heap.size w wr)) (fun _ nv _ => 17 - (intOf nv).toNat)
                case atStart => exact ⟨1, 10000000000000000, by omega, by omega, by omega, by omega, hide rfl, rfl, rfl, hide (fun j h1 h2 => absurd h1 (by omega)), FC, BC⟩
                case round =>
                  clear FC BC
                  obtain ⟨n, un, n1, n2, u1x, u2x, HU, rfl, rfl, HNG, FX, BW⟩ := hrel
                  by_cases hn17 : n < 17
                  · have hn17i : (n : Int) < 17 := by omega
                    obtain ⟨hf, hhf⟩ : ∃ hf, un = 2 * hf := ⟨un / 2, by
                      have h := unhide HU
                      have e : 10 ^ (17 - n) = 10 * 10 ^ (16 - n) := by rw [show 17 - n = (16 - n) + 1 by omega, Nat.pow_succ, Nat.mul_comm]
                      omega⟩
                    have hhf2 : (un : Int) / 2 = (hf : Int) := by omega
                    have HHF := hide hhf
                    obtain ⟨d0, hd0⟩ : ∃ d0, lo / un = d0 := ⟨_, rfl⟩
                    obtain ⟨r, hr0⟩ : ∃ r, lo % un = r := ⟨_, rfl⟩
                    have ed : (lo : Int) / (un : Int) = (d0 : Int) := by rw [← hd0]; exact (Int.natCast_ediv lo un).symm
                    have er : (lo : Int) % (un : Int) = (r : Int) := by rw [← hr0]; exact (Int.natCast_emod lo un).symm
                    have HLR : Hid (lo = d0 * un + r) := by
                      have := Nat.div_add_mod lo un
                      rw [hd0, hr0, Nat.mul_comm] at this
                      exact hide this.symm
                    have hru : r < un := by rw [← hr0]; exact Nat.mod_lt _ (by omega)
                    have hd0le : d0 ≤ 100000000000000000 := by
                      have : lo / un ≤ lo := Nat.div_le_self _ _
                      omega
                    clear hhf hd0 hr0
                    go_upto_region 36 with fail
                    rename_i K5 hK5 K6 hK6
                    have REST3 : ∀ (d : Nat) (u2 u17 u18 u102 u103 u104 u105 u106 u107 u108 u109 u110 u111 u112 u113 u114 u115 u116 u117 u118 u119 u120 u121 u122 u123 u124 u125 u126 u127 u128 u129 u130 u131 u132 u133 u134 u135 u136 u137 u138 u139 u140 u141 u142 u143 u144 u145 u146 u147 u148 u149 : Value), 1 ≤ d → d ≤ 100000000000000001 → Hid (NearI (VN v * 10 ^ (-(p - n + 1)).toNat) (10 ^ (p - n + 1).toNat * 2 ^ c) d) → K5 { tmps := #[.int .u64 v, g1, u2, .string (bs S), g4, g5, .pointer (some ⟨X, 0, none⟩), .int .i64 p, g8, .int .i64 (lo : Int), g10, g11, g12, .bool bm, .int .i64 (un : Int), .int .i64 (n : Int), .int .i64 (d : Int), u17, u18, g19, g20, g21, g22, g23, g24, g25, g26, g27, g28, g29, g30, g31, g32, g33, g34, g35, g36, g37, g38, g39, g40, g41, g42, g43, g44, g45, g46, g47, g48, g49, g50, g51, g52, g53, g54, g55, g56, g57, g58, g59, g60, g61, g62, g63, g64, g65, g66, g67, g68, g69, g70, g71, g72, g73, g74, g75, g76, g77, g78, g79, g80, g81, g82, g83, g84, g85, g86, g87, g88, g89, g90, g91, g92, g93, g94, g95, g96, g97, g98, g99, g100, g101, u102, u103, u104, u105, u106, u107, u108, u109, u110, u111, u112, u113, u114, u115, u116, u117, u118, u119, u120, u121, u122, u123, u124, u125, u126, u127, u128, u129, u130, u131, u132, u133, u134, u135, u136, u137, u138, u139, u140, u141, u142, u143, u144, u145, u146, u147, u148, u149, g150, g151, g152, g153, g154, g155, g156, g157, g158, g159, g160, g161, g162, g163, g164, g165, g166, g167, g168, g169, g170, g171, g172, g173, g174, g175, g176, g177, g178, g179, g180, g181, g182, g183, g184, g185, g186, g187, g188], defers := [] } wr := by
                      intro d u2 u17 u18 u102 u103 u104 u105 u106 u107 u108 u109 u110 u111 u112 u113 u114 u115 u116 u117 u118 u119 u120 u121 u122 u123 u124 u125 u126 u127 u128 u129 u130 u131 u132 u133 u134 u135 u136 u137 u138 u139 u140 u141 u142 u143 u144 u145 u146 u147 u148 u149 hd1 hd2 HD
                      refine hK5 _ _ ?_
                      clear hK5 hK6 ed er hhf2 hru hd0le
                      go_wp2_with fail
                      refine (unhide GI d (p - n + 1) v wr (by omega) (by omega) (by omega) (unhide V).1 (unhide V).2).mono ?_
                      rintro e w5 ⟨⟨r5, rfl, hr5⟩, hb5⟩
                      have B5 := hide (below_up (unhide BW) hb5)
                      have F5 := hide ((unhide FX).below hb5)
                      have HR5 := hide hr5
                      clear hb5 hr5 FX BW
                      cases r5
                      · have HNG2 : Hid (∀ j, 1 ≤ j → j < n + 1 → NoGive c v p j) := by
                          intro j j1 j2
                          by_cases hj : j < n
                          · exact unhide HNG j j1 hj
                          · obtain rfl : j = n := by omega
                            intro d' hd'
                            have p1 : 0 < 2 ^ c := Nat.pow_pos (by omega)
                            have e := NearI.unique (Nat.mul_pos (Nat.pow_pos (by omega)) p1) hd' (unhide HD)
                            rw [e]
                            exact fun h => by have := (unhide HR5).2 h; cases this
                        have HU2 : Hid (un / 10 = 10 ^ (17 - (n + 1))) := by
                          have h := unhide HU
                          have e : 10 ^ (17 - n) = 10 * 10 ^ (17 - (n + 1)) := by rw [show 17 - n = (17 - (n + 1)) + 1 by omega, Nat.pow_succ, Nat.mul_comm]
                          exact hide (by omega)
                        have hu10 : 1 ≤ un / 10 := by rw [unhide HU2]; exact Nat.pow_pos (by omega)
                        go_wp2_with fail
                        refine ⟨⟨n + 1, un / 10, by omega, by omega, hu10, by omega, HU2, by go_num, by go_num, HNG2, F5, B5⟩, ?_⟩
                        simp [intOf]; omega
                      · have NV : Hid (NearV (d * 10 ^ (p - n + 1).toNat) (10 ^ (-(p - n + 1)).toNat) v) := (unhide HR5).1 rfl
                        clear HR5
                        go_wp2_with fail
                        refine (unhide TO d (p - n + 1) w5 hd1 (by omega) (by omega) (by omega)).mono ?_
                        rintro e w6 ⟨m, z, hdz, hm, rfl, hb6⟩
                        have hmd : m ≤ d := by
                          have h3 : m * 1 ≤ m * 10 ^ z := Nat.mul_le_mul_left _ (Nat.pow_pos (by omega))
                          omega
                        have hz18 : z < 18 := ten_small (by
                          have h3 : 1 * 10 ^ z ≤ m * 10 ^ z := Nat.mul_le_mul_right _ (by
                            rcases Nat.eq_zero_or_pos m with q | q
                            · rw [q] at hm; simp at hm
                            · exact q)
                          omega)
                        have htl := toldT_len m (p - n + 1 + z) (by omega) (by omega) (by omega)
                        have hts := bs_size (toldT m (p - n + 1 + z))
                        have B6 := hide (below_up (unhide B5) hb6)
                        have HDZ := hide (And.intro hdz hm)
                        clear hb6 hdz hm hmd
                        generalize hT : toldT m (p - n + 1 + z) = T at *
                        have HT2 := hide hT
                        clear hT
                        have hcat : ¬ 9223372036854775807 < (bs S).size + (bs T).size := by omega
                        have KEEP : Hid (1 ≤ n ∧ n ≤ 17 ∧ -400 ≤ p ∧ p ≤ 308) := ⟨n1, n2, by omega, pp2⟩
                        clear hSs hts htl hSl hz18 hpm hpk mm64 kk1 kk2 i1 i2 i3 i4 pp1 pp2 l1 l2 l3 n1 n2 u1x u2x hn17 hn17i hd1 hd2 hgo hc
                        go_wp2_with fail
                        go_ret
                        refine ⟨⟨p, n, d, m, z, (unhide KEEP).1, (unhide KEEP).2.1, unhide HL, unhide HG, unhide HD, fun _ => unhide NV, unhide HNG, (unhide HDZ).1, (unhide HDZ).2, (unhide KEEP).2.2.1, (unhide KEEP).2.2.2, ?_⟩, unhide B6⟩
                        have e0 : bs S ++ bs T = bs (sgnT neg ++ toldT m (p - n + 1 + z)) := by rw [unhide HT2, ← unhide HSN, bs_app]
                        exact congrArg (fun z => Ending.returned (Value.string z)) e0

                    clear hK5
                    have RE3 := hide REST3
                    clear REST3
                    have hd01 : 1 ≤ d0 := by
                      rcases Nat.eq_zero_or_pos d0 with q | q
                      · have := unhide HLR
                        rw [q, Nat.zero_mul] at this
                        omega
                      · exact q
                    rcases Nat.lt_trichotomy hf r with q | q | q
                    · have qi : (hf : Int) < (r : Int) := by omega
                      have RA := hide (round_at (d := d0 + 1) (bm := bm) (by omega) (unhide HU) (unhide HHF) (unhide HLR) hru (unhide HLo) (unhide HHI2) (unhide MORE) (Or.inl ⟨rfl, Or.inl q⟩))
                      go_wp2_with fail
                      exact unhide RE3 (d0 + 1) _ _ _ _ _ _ _ _ _ _ _ _ _ _ _ _ _ _ _ _ _ _ _ _ _ _ _ _ _ _ _ _ _ _ _ _ _ _ _ _ _ _ _ _ _ _ _ _ _ _ _ (by omega) (by omega) RA
                    · have qi : ¬ (hf : Int) < (r : Int) := by omega
                      have qe : ((r : Int) == (hf : Int)) = true := by rw [beq_iff_eq]; omega
                      cases bm
                      · by_cases ho : d0 % 2 = 1
                        · have hoi : (((d0 : Int) % 2) == 1) = true := by rw [beq_iff_eq]; omega
                          have RA := hide (round_at (d := d0 + 1) (bm := false) (by omega) (unhide HU) (unhide HHF) (unhide HLR) hru (unhide HLo) (unhide HHI2) (unhide MORE) (Or.inl ⟨rfl, Or.inr ⟨q.symm, Or.inr ho⟩⟩))
                          go_wp2_with fail
                          exact unhide RE3 (d0 + 1) _ _ _ _ _ _ _ _ _ _ _ _ _ _ _ _ _ _ _ _ _ _ _ _ _ _ _ _ _ _ _ _ _ _ _ _ _ _ _ _ _ _ _ _ _ _ _ _ _ _ _ (by omega) (by omega) RA
                        · have hoi : (((d0 : Int) % 2) == 1) = false := by rw [beq_eq_false_iff_ne]; omega
                          have RA := hide (round_at (d := d0) (bm := false) (by omega) (unhide HU) (unhide HHF) (unhide HLR) hru (unhide HLo) (unhide HHI2) (unhide MORE) (Or.inr ⟨rfl, Or.inr ⟨q.symm, rfl, by omega⟩⟩))
                          go_wp2_with fail
                          exact unhide RE3 d0 _ _ _ _ _ _ _ _ _ _ _ _ _ _ _ _ _ _ _ _ _ _ _ _ _ _ _ _ _ _ _ _ _ _ _ _ _ _ _ _ _ _ _ _ _ _ _ _ _ _ _ (by omega) (by omega) RA
                      · have RA := hide (round_at (d := d0 + 1) (bm := true) (by omega) (unhide HU) (unhide HHF) (unhide HLR) hru (unhide HLo) (unhide HHI2) (unhide MORE) (Or.inl ⟨rfl, Or.inr ⟨q.symm, Or.inl rfl⟩⟩))
                        go_wp2_with fail
                        exact unhide RE3 (d0 + 1) _ _ _ _ _ _ _ _ _ _ _ _ _ _ _ _ _ _ _ _ _ _ _ _ _ _ _ _ _ _ _ _ _ _ _ _ _ _ _ _ _ _ _ _ _ _ _ _ _ _ _ (by omega) (by omega) RA
                    · have qi : ¬ (hf : Int) < (r : Int) := by omega
                      have qe : ((r : Int) == (hf : Int)) = false := by rw [beq_eq_false_iff_ne]; omega
                      have RA := hide (round_at (d := d0) (bm := bm) (by omega) (unhide HU) (unhide HHF) (unhide HLR) hru (unhide HLo) (unhide HHI2) (unhide MORE) (Or.inr ⟨rfl, Or.inl q⟩))
                      go_wp2_with fail
                      exact unhide RE3 d0 _ _ _ _ _ _ _ _ _ _ _ _ _ _ _ _ _ _ _ _ _ _ _ _ _ _ _ _ _ _ _ _ _ _ _ _ _ _ _ _ _ _ _ _ _ _ _ _ _ _ _ (by omega) (by omega) RA
                  · have hn17i : ¬ (n : Int) < 17 := by omega
                    have HN : Hid (n = 17) := hide (by omega)
                    obtain ⟨h2, hh2⟩ : ∃ h2 : Nat, 2 * lo + 1 = h2 := ⟨_, rfl⟩
                    have HH2 := hide hh2
                    have dl : (2 * (lo : Int) + 1) = (h2 : Int) := by omega
                    have dl2 : wrap64 (2 * (lo : Int)) = 2 * (lo : Int) := by unfold wrap64; omega
                    have l17 : h2 < 18446744073709551616 := by omega
                    have l18 : h2 ≤ 200000000000000001 := by omega
                    have dl3 : IntKind.u64.wrap (h2 : Int) = (h2 : Int) := wrap_inu h2 l17
                    have L50 : Hid (h2 < 10 ^ 50) := by
                      have h50 : (10 : Nat) ^ 50 = 100000000000000000000000000000000000000000000000000 := by decide
                      exact hide (by omega)
                    clear hh2
                    go_upto_region 43 with fail
                    go_wp2_with fail
                    refine (unhide OF h2 wr l17).mono ?_
                    rintro e wa ⟨va, rfl, ra, hba⟩
                    have VA := hide ra
                    have FA := hide ((unhide FX).below hba)
                    have BA := hide (below_up (unhide BW) hba)
                    clear ra hba FX BW
                    go_wp2_with fail
                    refine (unhide DC va h2 (p - 16) wa (unhide VA) (unhide L50) (by omega) (by omega)).mono ?_
                    rintro e wb ⟨dn, dm, N1, M1, rfl, rb1, rb2, hbb, eN, eM⟩
                    have RB1 := hide rb1
                    have RB2 := hide rb2
                    have FB := hide ((unhide FA).below hbb)
                    have BB := hide (below_up (unhide BA) hbb)
                    have EN1 := hide eN
                    have EM1 := hide eM
                    obtain ⟨o1, c1, rfl, _⟩ := rb1
                    obtain ⟨o2, c2, rfl, _⟩ := rb2
                    rename_i q1 q2
                    clear q1 q2 hbb eN eM FA BA VA
                    have FH := hide (FrA.make (unhide RB1) (unhide RB2))
                    have nb := below_new (w := wb) (Obj.cells #[.slice o1 (digs N1).length c1, .slice o2 (digs M1).length c2] 218)
                    have FC := hide ((unhide FB).below nb)
                    have BC := hide (below_up (unhide BB) nb)
                    clear nb
                    go_upto_region 44 with fail
                    rename_i K8 hK8
                    generalize hwc : wb.alloc (Obj.cells #[.slice o1 (digs N1).length c1, .slice o2 (digs M1).length c2] 218) = wc at *
                    generalize hHH : wb.heap.size = HB at *
                    generalize Value.slice o1 (digs N1).length c1 = hn at *
                    generalize Value.slice o2 (digs M1).length c2 = hm at *
                    clear hwc hHH RB1 RB2 FB BB
                    have LM := hide (lims3 (N := h2) (q := p - 16) mm64 kk1 kk2 (unhide L50) (by omega) (by omega) (unhide EA) (unhide ED) (unhide EN1) (unhide EM1))
                    have T2 : Hid (∀ u : World, Rd u xn (digs A) → Calls Tryz.prog 160 #[xn, .int .i64 2, .int .i64 0] u fun e w' => ∃ v', e = .returned v' ∧ Rd w' v' (digs (A * 2 + 0)) ∧ Below u.heap.size u w') := fun u hu => times_rd xn A 2 0 u hu (unhide LM).2.2.2.2.1 (by omega) (by omega)
                    obtain ⟨ox, cx, hxm, _⟩ := (unhide FC).rm
                    rename_i qx
                    clear qx
                    subst hxm
                    generalize hA2 : A * 2 + 0 = A2 at *
                    have HA2 := hide hA2
                    clear hA2
                    generalize hLD : (digs D).length = LD at *
                    clear hLD
                    have fc0 := (unhide FC).c0
                    have fc1 := (unhide FC).c1
                    have LOB : Hid (10000000000000000 ≤ lo ∧ lo ≤ 100000000000000000) := ⟨l1, by omega⟩
                    clear i1 i2 i3 i4 l1 l2 l3 n1 u1x u2x hn17 hn17i hgo
                    have E2A : Hid (bnum (2 * mm) kk = A2) := by
                      rw [← unhide HA2, ← unhide EA]
                      unfold bnum
                      rw [Nat.add_zero, Nat.mul_assoc, Nat.mul_comm (mm * _) 2]
                      exact hide rfl
                    have LM2 := hide (lims3 (N := h2) (q := p - 16) (mm := 2 * mm) (by omega) kk1 kk2 (unhide L50) (by omega) (by omega) (unhide E2A) (unhide ED) (unhide EN1) (unhide EM1))
                    have REST5 : ∀ (EB : Nat) (wz : World) (tn : Value) (u0 u1 u2 u4 u5 u6 u8 u10 u11 u12 u13 u14 u15 u16 u17 u18 u22 u23 u24 u25 u26 u27 u28 u29 u30 u31 u32 u33 u34 u35 u36 u37 u38 u39 u40 u41 u42 u43 u44 u45 u46 u47 u48 u49 u50 u51 u52 u53 u54 u55 u56 u57 u58 u59 u60 u61 u62 u63 u64 u65 u66 u67 u68 u69 u70 u71 u72 u73 u74 u75 u76 u77 u78 u79 u80 u81 u82 u83 u84 u85 u86 u87 u88 u89 u90 u91 u92 u93 u94 u95 u96 u97 u98 u99 u100 u101 u102 u103 u104 u105 u106 u107 u108 u109 u110 u111 u112 u113 u114 u115 u116 u117 u118 u119 u120 u121 u122 u123 u124 u125 u126 u127 u128 u129 u130 u131 u132 u133 u134 u135 u136 u137 u138 u139 u140 u141 u142 u143 u144 u145 u146 u147 u148 u149 u150 u151 u152 u153 u154 u155 u156 u157 u158 u159 u160 u161 u162 u163 u164 u165 u166 u167 u168 u169 u170 u171 u172 u173 u174 u175 u176 u177 u178 u179 u180 u181 u182 u183 u184 u185 u186 u187 u188 : Value), Hid (FrA wz HB hn hm N1 M1) → Hid (FrA wz EB tn (.slice ox LD cx) A2 D) → Hid (Below w.heap.size w wz) → K8 { tmps := #[u0, u1, u2, .string (bs S), u4, u5, u6, .int .i64 p, u8, .int .i64 (lo : Int), u10, u11, u12, u13, u14, u15, u16, u17, u18, .int .i64 (lo : Int), .pointer (some ⟨HB, 0, none⟩), .pointer (some ⟨EB, 0, none⟩), u22, u23, u24, u25, u26, u27, u28, u29, u30, u31, u32, u33, u34, u35, u36, u37, u38, u39, u40, u41, u42, u43, u44, u45, u46, u47, u48, u49, u50, u51, u52, u53, u54, u55, u56, u57, u58, u59, u60, u61, u62, u63, u64, u65, u66, u67, u68, u69, u70, u71, u72, u73, u74, u75, u76, u77, u78, u79, u80, u81, u82, u83, u84, u85, u86, u87, u88, u89, u90, u91, u92, u93, u94, u95, u96, u97, u98, u99, u100, u101, u102, u103, u104, u105, u106, u107, u108, u109, u110, u111, u112, u113, u114, u115, u116, u117, u118, u119, u120, u121, u122, u123, u124, u125, u126, u127, u128, u129, u130, u131, u132, u133, u134, u135, u136, u137, u138, u139, u140, u141, u142, u143, u144, u145, u146, u147, u148, u149, u150, u151, u152, u153, u154, u155, u156, u157, u158, u159, u160, u161, u162, u163, u164, u165, u166, u167, u168, u169, u170, u171, u172, u173, u174, u175, u176, u177, u178, u179, u180, u181, u182, u183, u184, u185, u186, u187, u188], defers := [] } wz := by
                      intro EB wz tn u0 u1 u2 u4 u5 u6 u8 u10 u11 u12 u13 u14 u15 u16 u17 u18 u22 u23 u24 u25 u26 u27 u28 u29 u30 u31 u32 u33 u34 u35 u36 u37 u38 u39 u40 u41 u42 u43 u44 u45 u46 u47 u48 u49 u50 u51 u52 u53 u54 u55 u56 u57 u58 u59 u60 u61 u62 u63 u64 u65 u66 u67 u68 u69 u70 u71 u72 u73 u74 u75 u76 u77 u78 u79 u80 u81 u82 u83 u84 u85 u86 u87 u88 u89 u90 u91 u92 u93 u94 u95 u96 u97 u98 u99 u100 u101 u102 u103 u104 u105 u106 u107 u108 u109 u110 u111 u112 u113 u114 u115 u116 u117 u118 u119 u120 u121 u122 u123 u124 u125 u126 u127 u128 u129 u130 u131 u132 u133 u134 u135 u136 u137 u138 u139 u140 u141 u142 u143 u144 u145 u146 u147 u148 u149 u150 u151 u152 u153 u154 u155 u156 u157 u158 u159 u160 u161 u162 u163 u164 u165 u166 u167 u168 u169 u170 u171 u172 u173 u174 u175 u176 u177 u178 u179 u180 u181 u182 u183 u184 u185 u186 u187 u188 FH5 FE5 B5
                      refine hK8 _ _ ?_
                      clear hK8 fc0 fc1 FC FH BC
                      have x0 := (unhide FH5).c0
                      have x1 := (unhide FH5).c1
                      have x2 := (unhide FE5).c0
                      have x3 := (unhide FE5).c1
                      go_wp2_with fail
                      refine (unhide BE _ _ _ _ N1 M1 A2 D _ (unhide FH5).rn (unhide FH5).rm (unhide FE5).rn (unhide FE5).rm (unhide LM2).1 (unhide LM2).2.2.1 (unhide LM2).2.2.2.1 (unhide LM2).2.2.2.2.1 (unhide LM2).2.2.2.2.2).mono ?_
                      rintro e wp ⟨rfl, hbp⟩
                      have FH6 := hide ((unhide FH5).below hbp)
                      have FE6 := hide ((unhide FE5).below hbp)
                      have B6 := hide (below_up (unhide B5) hbp)
                      clear x0 x1 x2 x3 hbp FH5 FE5 B5
                      have x0 := (unhide FH6).c0
                      have x1 := (unhide FH6).c1
                      have x2 := (unhide FE6).c0
                      have x3 := (unhide FE6).c1
                      go_wp2_with fail
                      refine (unhide BE _ _ _ _ A2 D N1 M1 _ (unhide FE6).rn (unhide FE6).rm (unhide FH6).rn (unhide FH6).rm (unhide LM2).2.1 (unhide LM2).2.2.2.2.1 (unhide LM2).2.2.2.2.2 (unhide LM2).2.2.1 (unhide LM2).2.2.2.1).mono ?_
                      rintro e wq ⟨rfl, hbq⟩
                      have B7 := hide (below_up (unhide B6) hbq)
                      clear x0 x1 x2 x3 hbq FH6 FE6 B6
                      have UT := hide (up_tie hc (unhide hmv2) (unhide hkv2) (unhide E2A) (unhide ED) (unhide EN1) (unhide EM1) (unhide HH2))
                      generalize decide (N1 * D < A2 * M1) = up at *
                      generalize decide (A2 * M1 < N1 * D) = ti at *
                      go_upto_region 47 with fail
                      rename_i K9 hK9 K10 hK10
                      have REST6 : ∀ (d : Nat) (u0 u1 u2 u4 u5 u6 u8 u9 u10 u11 u12 u13 u14 u15 u16 u17 u18 u20 u21 u22 u23 u24 u25 u26 u27 u28 u29 u30 u31 u32 u33 u34 u35 u36 u37 u38 u39 u40 u41 u42 u43 u44 u45 u46 u47 u48 u49 u50 u51 u52 u53 u54 u55 u56 u57 u58 u59 u60 u61 u62 u63 u64 u65 u66 u67 u68 u69 u70 u71 u72 u73 u74 u75 u76 u77 u78 u79 u80 u81 u82 u83 u84 u85 u86 u87 u88 u89 u90 u91 u92 u93 u94 u95 u96 u97 u98 u99 u100 u101 u102 u103 u104 u105 u106 u107 u108 u109 u110 u111 u112 u113 u114 u115 u116 u117 u118 u119 u120 u121 u122 u123 u124 u125 u126 u127 u128 u129 u130 u131 u132 u133 u134 u135 u136 u137 u138 u139 u140 u141 u142 u143 u144 u145 u146 u147 u148 u149 u150 u151 u152 u153 u154 u155 u156 u157 u158 u159 u160 u161 u162 u163 u164 u165 u166 u167 u168 u169 u170 u171 u172 u173 u174 u175 u176 u177 u178 u179 u180 u181 u182 u183 u184 u185 u186 u187 u188 : Value), 1 ≤ d → d ≤ 100000000000000001 → Hid (NearI (VN v * 10 ^ (-(p - (17 : Nat) + 1)).toNat) (10 ^ (p - (17 : Nat) + 1).toNat * 2 ^ c) d) → K9 { tmps := #[u0, u1, u2, .string (bs S), u4, u5, u6, .int .i64 p, u8, u9, u10, u11, u12, u13, u14, u15, u16, u17, u18, .int .i64 (d : Int), u20, u21, u22, u23, u24, u25, u26, u27, u28, u29, u30, u31, u32, u33, u34, u35, u36, u37, u38, u39, u40, u41, u42, u43, u44, u45, u46, u47, u48, u49, u50, u51, u52, u53, u54, u55, u56, u57, u58, u59, u60, u61, u62, u63, u64, u65, u66, u67, u68, u69, u70, u71, u72, u73, u74, u75, u76, u77, u78, u79, u80, u81, u82, u83, u84, u85, u86, u87, u88, u89, u90, u91, u92, u93, u94, u95, u96, u97, u98, u99, u100, u101, u102, u103, u104, u105, u106, u107, u108, u109, u110, u111, u112, u113, u114, u115, u116, u117, u118, u119, u120, u121, u122, u123, u124, u125, u126, u127, u128, u129, u130, u131, u132, u133, u134, u135, u136, u137, u138, u139, u140, u141, u142, u143, u144, u145, u146, u147, u148, u149, u150, u151, u152, u153, u154, u155, u156, u157, u158, u159, u160, u161, u162, u163, u164, u165, u166, u167, u168, u169, u170, u171, u172, u173, u174, u175, u176, u177, u178, u179, u180, u181, u182, u183, u184, u185, u186, u187, u188], defers := [] } wq := by
                        intro d u0 u1 u2 u4 u5 u6 u8 u9 u10 u11 u12 u13 u14 u15 u16 u17 u18 u20 u21 u22 u23 u24 u25 u26 u27 u28 u29 u30 u31 u32 u33 u34 u35 u36 u37 u38 u39 u40 u41 u42 u43 u44 u45 u46 u47 u48 u49 u50 u51 u52 u53 u54 u55 u56 u57 u58 u59 u60 u61 u62 u63 u64 u65 u66 u67 u68 u69 u70 u71 u72 u73 u74 u75 u76 u77 u78 u79 u80 u81 u82 u83 u84 u85 u86 u87 u88 u89 u90 u91 u92 u93 u94 u95 u96 u97 u98 u99 u100 u101 u102 u103 u104 u105 u106 u107 u108 u109 u110 u111 u112 u113 u114 u115 u116 u117 u118 u119 u120 u121 u122 u123 u124 u125 u126 u127 u128 u129 u130 u131 u132 u133 u134 u135 u136 u137 u138 u139 u140 u141 u142 u143 u144 u145 u146 u147 u148 u149 u150 u151 u152 u153 u154 u155 u156 u157 u158 u159 u160 u161 u162 u163 u164 u165 u166 u167 u168 u169 u170 u171 u172 u173 u174 u175 u176 u177 u178 u179 u180 u181 u182 u183 u184 u185 u186 u187 u188 hd1 hd2 HD
                        refine hK9 _ _ ?_
                        clear hK9 hK10
                        go_wp2_with fail
                        refine (unhide TO d (p - 16) wq hd1 (by omega) (by omega) (by omega)).mono ?_
                        rintro e w6 ⟨m, z, hdz, hm6, rfl, hb6⟩
                        have hmd : m ≤ d := by
                          have h3 : m * 1 ≤ m * 10 ^ z := Nat.mul_le_mul_left _ (Nat.pow_pos (by omega))
                          omega
                        have hz18 : z < 18 := ten_small (by
                          have h3 : 1 * 10 ^ z ≤ m * 10 ^ z := Nat.mul_le_mul_right _ (by
                            rcases Nat.eq_zero_or_pos m with q | q
                            · rw [q] at hm6; simp at hm6
                            · exact q)
                          omega)
                        have htl := toldT_len m (p - 16 + z) (by omega) (by omega) (by omega)
                        have hts := bs_size (toldT m (p - 16 + z))
                        have B8 := hide (below_up (unhide B7) hb6)
                        have HDZ := hide (And.intro hdz hm6)
                        clear hb6 hdz hm6 hmd
                        generalize hT : toldT m (p - 16 + z) = T at *
                        have HT2 := hide hT
                        clear hT
                        have hcat : ¬ 9223372036854775807 < (bs S).size + (bs T).size := by omega
                        have KEEP : Hid (-400 ≤ p ∧ p ≤ 308) := ⟨by omega, pp2⟩
                        have HNG7 : Hid (∀ j, 1 ≤ j → j < 17 → NoGive c v p j) := by
                          have h := unhide HNG
                          rw [unhide HN] at h
                          exact h
                        clear hSs hts htl hSl hz18 hpm hpk mm64 kk1 kk2 pp1 pp2 hd1 hd2 hc l17 l18 dl dl2 dl3
                        go_wp2_with fail
                        go_ret
                        refine ⟨⟨p, 17, d, m, z, by omega, by omega, unhide HL, unhide HG, unhide HD, fun h => absurd h (by omega), unhide HNG7, (unhide HDZ).1, (unhide HDZ).2, (unhide KEEP).1, (unhide KEEP).2, ?_⟩, unhide B8⟩
                        have e0 : bs S ++ bs T = bs (sgnT neg ++ toldT m (p - (17 : Nat) + 1 + z)) := by rw [show p - ((17 : Nat) : Int) + 1 = p - 16 by omega, unhide HT2, ← unhide HSN, bs_app]
                        exact congrArg (fun z => Ending.returned (Value.string z)) e0
                      clear hK9
                      have RE6 := hide REST6
                      clear REST6
                      have LB := unhide LOB
                      cases up
                      · cases ti
                        · by_cases ho : lo % 2 = 1
                          · have hoi : (((lo : Int) % 2) == 1) = true := by rw [beq_iff_eq]; omega
                            have RA := hide (round_end (d := lo + 1) (up := false) (tie := false) (unhide HLo) (unhide HHI2) (unhide UT).1 (unhide UT).2 (Or.inl ⟨rfl, Or.inr ⟨rfl, ho⟩⟩))
                            go_wp2_with fail
                            exact unhide RE6 (lo + 1) _ _ _ _ _ _ _ _ _ _ _ _ _ _ _ _ _ _ _ _ _ _ _ _ _ _ _ _ _ _ _ _ _ _ _ _ _ _ _ _ _ _ _ _ _ _ _ _ _ _ _ _ _ _ _ _ _ _ _ _ _ _ _ _ _ _ _ _ _ _ _ _ _ _ _ _ _ _ _ _ _ _ _ _ _ _ _ _ _ _ _ _ _ _ _ _ _ _ _ _ _ _ _ _ _ _ _ _ _ _ _ _ _ _ _ _ _ _ _ _ _ _ _ _ _ _ _ _ _ _ _ _ _ _ _ _ _ _ _ _ _ _ _ _ _ _ _ _ _ _ _ _ _ _ _ _ _ _ _ _ _ _ _ _ _ _ _ _ _ _ _ _ _ _ _ _ _ _ _ _ _ _ _ _ _ _ (by omega) (by omega) RA
                          · have hoi : (((lo : Int) % 2) == 1) = false := by rw [beq_eq_false_iff_ne]; omega
                            have RA := hide (round_end (d := lo) (up := false) (tie := false) (unhide HLo) (unhide HHI2) (unhide UT).1 (unhide UT).2 (Or.inr ⟨rfl, rfl, Or.inr (by omega)⟩))
                            go_wp2_with fail
                            exact unhide RE6 lo _ _ _ _ _ _ _ _ _ _ _ _ _ _ _ _ _ _ _ _ _ _ _ _ _ _ _ _ _ _ _ _ _ _ _ _ _ _ _ _ _ _ _ _ _ _ _ _ _ _ _ _ _ _ _ _ _ _ _ _ _ _ _ _ _ _ _ _ _ _ _ _ _ _ _ _ _ _ _ _ _ _ _ _ _ _ _ _ _ _ _ _ _ _ _ _ _ _ _ _ _ _ _ _ _ _ _ _ _ _ _ _ _ _ _ _ _ _ _ _ _ _ _ _ _ _ _ _ _ _ _ _ _ _ _ _ _ _ _ _ _ _ _ _ _ _ _ _ _ _ _ _ _ _ _ _ _ _ _ _ _ _ _ _ _ _ _ _ _ _ _ _ _ _ _ _ _ _ _ _ _ _ _ _ _ _ (by omega) (by omega) RA
                        · have RA := hide (round_end (d := lo) (up := false) (tie := true) (unhide HLo) (unhide HHI2) (unhide UT).1 (unhide UT).2 (Or.inr ⟨rfl, rfl, Or.inl rfl⟩))
                          go_wp2_with fail
                          exact unhide RE6 lo _ _ _ _ _ _ _ _ _ _ _ _ _ _ _ _ _ _ _ _ _ _ _ _ _ _ _ _ _ _ _ _ _ _ _ _ _ _ _ _ _ _ _ _ _ _ _ _ _ _ _ _ _ _ _ _ _ _ _ _ _ _ _ _ _ _ _ _ _ _ _ _ _ _ _ _ _ _ _ _ _ _ _ _ _ _ _ _ _ _ _ _ _ _ _ _ _ _ _ _ _ _ _ _ _ _ _ _ _ _ _ _ _ _ _ _ _ _ _ _ _ _ _ _ _ _ _ _ _ _ _ _ _ _ _ _ _ _ _ _ _ _ _ _ _ _ _ _ _ _ _ _ _ _ _ _ _ _ _ _ _ _ _ _ _ _ _ _ _ _ _ _ _ _ _ _ _ _ _ _ _ _ _ _ _ _ (by omega) (by omega) RA
                      · have RA := hide (round_end (d := lo + 1) (up := true) (tie := ti) (unhide HLo) (unhide HHI2) (unhide UT).1 (unhide UT).2 (Or.inl ⟨rfl, Or.inl rfl⟩))
                        go_wp2_with fail
                        exact unhide RE6 (lo + 1) _ _ _ _ _ _ _ _ _ _ _ _ _ _ _ _ _ _ _ _ _ _ _ _ _ _ _ _ _ _ _ _ _ _ _ _ _ _ _ _ _ _ _ _ _ _ _ _ _ _ _ _ _ _ _ _ _ _ _ _ _ _ _ _ _ _ _ _ _ _ _ _ _ _ _ _ _ _ _ _ _ _ _ _ _ _ _ _ _ _ _ _ _ _ _ _ _ _ _ _ _ _ _ _ _ _ _ _ _ _ _ _ _ _ _ _ _ _ _ _ _ _ _ _ _ _ _ _ _ _ _ _ _ _ _ _ _ _ _ _ _ _ _ _ _ _ _ _ _ _ _ _ _ _ _ _ _ _ _ _ _ _ _ _ _ _ _ _ _ _ _ _ _ _ _ _ _ _ _ _ _ _ _ _ _ _ (by omega) (by omega) RA
                    clear hK8
                    have RE5 := hide REST5
                    clear REST5
                    have FCa := hide ((unhide FC).below (below_new (Obj.cells #[.slice none 0 0, .slice none 0 0] 218)))
                    have FHa := hide ((unhide FH).below (below_new (Obj.cells #[.slice none 0 0, .slice none 0 0] 218)))
                    have BCa := hide (below_up (unhide BC) (below_new (Obj.cells #[.slice none 0 0, .slice none 0 0] 218)))
                    have FN := hide (FrA.make (rd_nil wc) (rd_nil wc))
                    have NEX : Hid (X ≠ wc.heap.size ∧ HB ≠ wc.heap.size ∧ w.heap.size ≤ wc.heap.size) := ⟨Nat.ne_of_lt (unhide FC).lt, Nat.ne_of_lt (unhide FH).lt, (unhide BC).size⟩
                    have nx : X ≠ wc.heap.size := (unhide NEX).1
                    have nx2 : wc.heap.size ≠ X := fun h => (unhide NEX).1 h.symm
                    go_region_held (fun w' => w'.cell? ⟨X, 0, none⟩ = some xn ∧ w'.cell? ⟨X, 1, none⟩ = some (.slice ox LD cx)) (go_keep) (first
                      | (go_at_call 160
                         refine (unhide T2 _ ?_).mono ?_
                         exact (unhide FCa).rn.heap (by rfl)
                         rintro e wd ⟨tn, rfl, rt, hbd⟩
                         have RT := hide rt
                         have FD := hide (((unhide FCa).heap (by rfl)).below hbd)
                         have fd0 := (unhide FD).c0
                         have fd1 := (unhide FD).c1
                         have FHD := hide (((unhide FHa).heap (by rfl)).below hbd)
                         have FND := hide (((unhide FN).heap (by rfl)).below hbd)
                         have y0 := (unhide FND).c0
                         have y1 := (unhide FND).c1
                         have z0 := frozen_of_row wd wc.heap.size 0 _ _ (unhide FND).row
                         have z1 := frozen_of_row wd wc.heap.size 1 _ _ (unhide FND).row
                         have BD := hide (below_up (by exact ⟨(unhide BCa).os, (unhide BCa).tape, (unhide BCa).output, (unhide BCa).size, (unhide BCa).block⟩) hbd)
                         obtain ⟨o3, c3, rfl, _⟩ := rt
                         clear hbd)
                      | (go_at_call 160
                         refine (unhide T2 _ ?_).mono ?_
                         exact (unhide FC).rn.heap (by rfl)
                         rintro e wd ⟨tn, rfl, rt, hbd⟩
                         have RT := hide rt
                         have FD := hide (((unhide FC).heap (by rfl)).below hbd)
                         have fd0 := (unhide FD).c0
                         have fd1 := (unhide FD).c1
                         have FHD := hide (((unhide FH).heap (by rfl)).below hbd)
                         have nx3 : X ≠ wd.heap.size := Nat.ne_of_lt (unhide FD).lt
                         have nx4 : wd.heap.size ≠ X := fun h => nx3 h.symm
                         have FNb := hide (FrA.make (rd_nil wd) (rd_nil wd))
                         have y0 := (unhide FNb).c0
                         have y1 := (unhide FNb).c1
                         have z0 := frozen_of_row _ wd.heap.size 0 _ _ (unhide FNb).row
                         have z1 := frozen_of_row _ wd.heap.size 1 _ _ (unhide FNb).row
                         have BD := hide (below_up (by exact ⟨(unhide BC).os, (unhide BC).tape, (unhide BC).output, (unhide BC).size, (unhide BC).block⟩) hbd)
                         obtain ⟨o3, c3, rfl, _⟩ := rt
                         clear hbd))
                    all_goals first
                      | exact unhide RE5 wc.heap.size _ _ _ _ _ _ _ _ _ _ _ _ _ _ _ _ _ _ _ _ _ _ _ _ _ _ _ _ _ _ _ _ _ _ _ _ _ _ _ _ _ _ _ _ _ _ _ _ _ _ _ _ _ _ _ _ _ _ _ _ _ _ _ _ _ _ _ _ _ _ _ _ _ _ _ _ _ _ _ _ _ _ _ _ _ _ _ _ _ _ _ _ _ _ _ _ _ _ _ _ _ _ _ _ _ _ _ _ _ _ _ _ _ _ _ _ _ _ _ _ _ _ _ _ _ _ _ _ _ _ _ _ _ _ _ _ _ _ _ _ _ _ _ _ _ _ _ _ _ _ _ _ _ _ _ _ _ _ _ _ _ _ _ _ _ _ _ _ _ _ _ _ _ _ _ _ _ _ _ _ _ _ _ _ _ ((unhide FHD).other (unhide FND) (unhide NEX).2.1 _ _ _ _ _ _) ((unhide FND).set (unhide RT) (unhide FD).rm) (((unhide BD).setCell (p := ⟨wc.heap.size, 0, none⟩) (unhide NEX).2.2 _).setCell (p := ⟨wc.heap.size, 1, none⟩) (unhide NEX).2.2 _)
                      | exact unhide RE5 wd.heap.size _ _ _ _ _ _ _ _ _ _ _ _ _ _ _ _ _ _ _ _ _ _ _ _ _ _ _ _ _ _ _ _ _ _ _ _ _ _ _ _ _ _ _ _ _ _ _ _ _ _ _ _ _ _ _ _ _ _ _ _ _ _ _ _ _ _ _ _ _ _ _ _ _ _ _ _ _ _ _ _ _ _ _ _ _ _ _ _ _ _ _ _ _ _ _ _ _ _ _ _ _ _ _ _ _ _ _ _ _ _ _ _ _ _ _ _ _ _ _ _ _ _ _ _ _ _ _ _ _ _ _ _ _ _ _ _ _ _ _ _ _ _ _ _ _ _ _ _ _ _ _ _ _ _ _ _ _ _ _ _ _ _ _ _ _ _ _ _ _ _ _ _ _ _ _ _ _ _ _ _ _ _ _ _ _ (((unhide FHD).below (below_new _)).other (unhide FNb) (Nat.ne_of_lt (unhide FHD).lt) _ _ _ _ _ _) ((unhide FNb).set ((unhide RT).below (Nat.le_refl _) (below_new _)) ((unhide FD).below (below_new _)).rm) (((below_up (unhide BD) (below_new _)).setCell (p := ⟨wd.heap.size, 0, none⟩) (unhide BD).size _).setCell (p := ⟨wd.heap.size, 1, none⟩) (unhide BD).size _)
                      | exact unhide RE5 _ _ _ _ _ _ _ _ _ _ _ _ _ _ _ _ _ _ _ _ _ _ _ _ _ _ _ _ _ _ _ _ _ _ _ _ _ _ _ _ _ _ _ _ _ _ _ _ _ _ _ _ _ _ _ _ _ _ _ _ _ _ _ _ _ _ _ _ _ _ _ _ _ _ _ _ _ _ _ _ _ _ _ _ _ _ _ _ _ _ _ _ _ _ _ _ _ _ _ _ _ _ _ _ _ _ _ _ _ _ _ _ _ _ _ _ _ _ _ _ _ _ _ _ _ _ _ _ _ _ _ _ _ _ _ _ _ _ _ _ _ _ _ _ _ _ _ _ _ _ _ _ _ _ _ _ _ _ _ _ _ _ _ _ _ _ _ _ _ _ _ _ _ _ _ _ _ _ _ _ _ _ _ _ _ _ ((unhide FHD).below (below_new _)) (FrA.make (unhide RT) (unhide FD).rm) (below_up (unhide BD) (below_new _))

              clear hK7
              have RE4 := hide REST4
              clear REST4
              go_region_held (fun w' => w'.cell? ⟨X, 0, none⟩ = some xn ∧ w'.cell? ⟨X, 1, none⟩ = some xm) (go_keep) (first
                | (go_at_call 157
                   rw [wrap_inu lo (by omega)]
                   refine (unhide OF lo _ (by omega)).mono ?_
                   rintro e wa ⟨va, rfl, ra, hba⟩
                   have VA := hide ra
                   have FA := hide (((unhide FX).heap (by rfl)).below hba)
                   have fa0 := (unhide FA).c0
                   have fa1 := (unhide FA).c1
                   have BA := hide (below_up (by exact ⟨(unhide BW).os, (unhide BW).tape, (unhide BW).output, (unhide BW).size, (unhide BW).block⟩) hba)
                   clear ra hba)
                | (go_at_call 153
                   rw [wrap_in (p - 16) (by omega) (by omega)]
                   refine (unhide DC va lo (p - 16) _ ?_ ?_ ?_ ?_).mono ?_
                   exact (unhide VA).heap (by rfl)
                   exact unhide LOW
                   omega
                   omega
                   rintro e wb ⟨dn, dm, N1, M1, rfl, rb1, rb2, hbb, eN, eM⟩
                   have RB1 := hide rb1
                   have RB2 := hide rb2
                   have FB := hide (((unhide FA).heap (by rfl)).below hbb)
                   have fb0 := (unhide FB).c0
                   have fb1 := (unhide FB).c1
                   have BB := hide (below_up (by exact ⟨(unhide BA).os, (unhide BA).tape, (unhide BA).output, (unhide BA).size, (unhide BA).block⟩) hbb)
                   have EN1 := hide eN
                   have EM1 := hide eM
                   clear rb1 rb2 hbb eN eM)
                | (go_at_call 156
                   have LM := hide (lims3 (N := lo) (q := p - 16) mm64 kk1 kk2 (unhide LOW) (by omega) (by omega) (unhide EA) (unhide ED) (unhide EN1) (unhide EM1))
                   refine (unhide BE _ _ _ _ N1 M1 A D _ ?_ ?_ ?_ ?_ ?_ ?_ ?_ ?_ ?_).mono ?_
                   exact (unhide RB1).heap (by rfl)
                   exact (unhide RB2).heap (by rfl)
                   exact (unhide FB).rn.heap (by rfl)
                   exact (unhide FB).rm.heap (by rfl)
                   exact (unhide LM).1
                   exact (unhide LM).2.2.1
                   exact (unhide LM).2.2.2.1
                   exact (unhide LM).2.2.2.2.1
                   exact (unhide LM).2.2.2.2.2
                   rintro e wc ⟨rfl, hbc⟩
                   have FC := hide (((unhide FB).heap (by rfl)).below hbc)
                   have fc0 := (unhide FC).c0
                   have fc1 := (unhide FC).c1
                   have BC := hide (below_up (by exact ⟨(unhide BB).os, (unhide BB).tape, (unhide BB).output, (unhide BB).size, (unhide BB).block⟩) hbc)
                   have DX := hide (below_x (N := lo) (q := p - 16) hc (unhide hmv2) (unhide hkv2) (unhide EA) (unhide ED) (unhide EN1) (unhide EM1))
                   clear hbc LM))
              generalize hbm : decide (N1 * D < A * M1) = bm at *
              have MORE : Hid (bm = true ↔ lo * 10 ^ (p - 16).toNat * 2 ^ c < VN v * 10 ^ (-(p - 16)).toNat) := (unhide DX).2
              exact unhide RE4 bm _ _ _ _ _ _ _ _ _ _ _ _ _ _ _ _ _ _ _ _ _ _ _ _ _ _ _ _ _ _ _ _ _ _ _ _ _ _ _ _ _ _ _ _ _ _ _ _ _ _ _ _ _ _ _ _ _ _ _ _ _ _ _ _ _ _ _ _ _ _ _ _ _ _ _ _ _ _ _ _ _ _ _ _ _ _ _ _ _ _ _ _ _ _ _ _ _ _ _ _ _ _ _ _ _ _ _ _ _ _ _ _ _ _ _ _ _ _ _ _ _ _ _ _ _ _ _ _ _ _ _ _ _ _ _ _ _ _ _ _ _ _ _ _ _ _ _ _ _ _ _ _ _ _ _ _ _ _ _ _ _ _ _ _ _ _ _ _ _ _ _ _ _ _ _ _ _ _ _ _ _ _ _ MORE FC BC

    clear hK3
    have RE2 := hide REST2
    clear REST2
    by_cases k0 : 0 ≤ kk + 52
    · have S0 := start_le hc (unhide HONE) (unhide hkv2) (by omega) (by omega)
      have es : startP (kk + 52) = (kk + 52) * 30103 / 100000 - 2 := by unfold startP; rw [if_pos k0]
      rw [es] at S0
      have S1 := hide S0
      clear S0 es
      go_wp2_with fail
      exact unhide RE2 _ _ _ _ _ _ _ _ _ _ _ _ _ _ _ _ _ _ _ _ _ _ _ _ _ _ _ _ _ _ _ _ _ _ _ _ _ _ _ _ _ _ _ _ _ _ _ _ _ _ _ _ _ _ _ _ _ _ _ _ _ _ _ _ _ _ _ _ _ _ _ _ _ _ _ _ _ _ _ _ _ _ _ _ _ _ _ _ _ _ _ _ _ _ _ _ _ _ _ _ _ _ _ _ _ _ _ _ _ _ _ _ _ _ _ _ _ _ _ _ _ _ _ _ _ _ _ _ _ _ _ _ _ _ _ _ _ _ _ _ _ _ _ _ _ _ _ _ _ _ _ _ _ _ _ _ _ _ _ _ _ _ _ _ _ _ _ _ _ _ _ _ _ _ _ _ _ _ _ _ _ _ _ (unhide S1).1 (unhide S1).2.1 (unhide S1).2.2
    · by_cases k1 : -1074 < kk
      · have S0 := start_le hc (unhide HONE) (unhide hkv2) k1 (by omega)
        have es : startP (kk + 52) = ((kk + 52) * 30103).tdiv 100000 - 3 := by unfold startP; rw [if_neg k0]
        have ew : wrap64 (((kk + 52) * 30103).tdiv 100000 - 3) = startP (kk + 52) := by
          rw [← es]
          unfold wrap64
          omega
        have S1 := hide S0
        have EW := hide ew
        clear S0 es ew
        go_wp2_with fail
        rw [unhide EW]
        exact unhide RE2 _ _ _ _ _ _ _ _ _ _ _ _ _ _ _ _ _ _ _ _ _ _ _ _ _ _ _ _ _ _ _ _ _ _ _ _ _ _ _ _ _ _ _ _ _ _ _ _ _ _ _ _ _ _ _ _ _ _ _ _ _ _ _ _ _ _ _ _ _ _ _ _ _ _ _ _ _ _ _ _ _ _ _ _ _ _ _ _ _ _ _ _ _ _ _ _ _ _ _ _ _ _ _ _ _ _ _ _ _ _ _ _ _ _ _ _ _ _ _ _ _ _ _ _ _ _ _ _ _ _ _ _ _ _ _ _ _ _ _ _ _ _ _ _ _ _ _ _ _ _ _ _ _ _ _ _ _ _ _ _ _ _ _ _ _ _ _ _ _ _ _ _ _ _ _ _ _ _ _ _ _ _ _ (unhide S1).1 (unhide S1).2.1 (unhide S1).2.2
      · have S1 : Hid (LeX c v one (-330)) := start_sub hc (unhide HONE) (unhide V).1
        go_wp2_with fail
        exact unhide RE2 (-330) _ _ _ _ _ _ _ _ _ _ _ _ _ _ _ _ _ _ _ _ _ _ _ _ _ _ _ _ _ _ _ _ _ _ _ _ _ _ _ _ _ _ _ _ _ _ _ _ _ _ _ _ _ _ _ _ _ _ _ _ _ _ _ _ _ _ _ _ _ _ _ _ _ _ _ _ _ _ _ _ _ _ _ _ _ _ _ _ _ _ _ _ _ _ _ _ _ _ _ _ _ _ _ _ _ _ _ _ _ _ _ _ _ _ _ _ _ _ _ _ _ _ _ _ _ _ _ _ _ _ _ _ _ _ _ _ _ _ _ _ _ _ _ _ _ _ _ _ _ _ _ _ _ _ _ _ _ _ _ _ _ _ _ _ _ _ _ _ _ _ _ _ _ _ _ _ _ _ _ _ _ _ (by omega) (by omega) S1

  clear hK1
  have RE1 := hide REST1
  clear REST1
  cases neg
  · have hz1 : z = (v : Int) := by rw [← unhide Z]; simp [sgn]
    subst hz1
    clear Z
    go_wp2_with fail
    exact unhide RE1 [] _ _ _ _ _ _ _ _ _ _ _ _ _ _ _ _ _ _ _ _ _ _ _ _ _ _ _ _ _ _ _ _ _ _ _ _ _ _ _ _ _ _ _ _ _ _ _ _ _ _ _ _ _ _ _ _ _ _ _ _ _ _ _ _ _ _ _ _ _ _ _ _ _ _ _ _ _ _ _ _ _ _ _ _ _ _ _ _ _ _ _ _ _ _ _ _ _ _ _ _ _ _ _ _ _ _ _ _ _ _ _ _ _ _ _ _ _ _ _ _ _ _ _ _ _ _ _ _ _ _ _ _ _ _ _ _ _ _ _ _ _ _ _ _ _ _ _ _ _ _ _ _ _ _ _ _ _ _ _ _ _ _ _ _ _ _ _ _ _ _ _ _ _ _ _ _ _ _ _ _ _ _ _ _ _ _ (hide rfl)
  · have hz1 : (9223372036854775808 : Int) ≤ z := by rw [← unhide Z]; simp [sgn]; omega
    have hz2 : z - 9223372036854775808 = (v : Int) := by rw [← unhide Z]; simp [sgn]; omega
    clear Z
    go_wp2_with fail
    exact unhide RE1 [45] _ _ _ _ _ _ _ _ _ _ _ _ _ _ _ _ _ _ _ _ _ _ _ _ _ _ _ _ _ _ _ _ _ _ _ _ _ _ _ _ _ _ _ _ _ _ _ _ _ _ _ _ _ _ _ _ _ _ _ _ _ _ _ _ _ _ _ _ _ _ _ _ _ _ _ _ _ _ _ _ _ _ _ _ _ _ _ _ _ _ _ _ _ _ _ _ _ _ _ _ _ _ _ _ _ _ _ _ _ _ _ _ _ _ _ _ _ _ _ _ _ _ _ _ _ _ _ _ _ _ _ _ _ _ _ _ _ _ _ _ _ _ _ _ _ _ _ _ _ _ _ _ _ _ _ _ _ _ _ _ _ _ _ _ _ _ _ _ _ _ _ _ _ _ _ _ _ _ _ _ _ _ _ _ _ _ (hide rfl)
end Go.Proofs.YtgekdmjneogdoaaGreatDoor
