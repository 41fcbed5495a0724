import Derived.Test.YtgekdmjneogdoaaGreatDoorYChR3
namespace Go.Proofs.YtgekdmjneogdoaaGreatDoor
open Go.RowKit

theorem RS.setL {K : Nat → Prop} {w w1 : World} {z q pos : Nat} {s : ByteArray} {t : Tr} (h : RS K w w1 z q s pos t) (F : FixR K w z q) (L : Nat) :
    RS K w (w1.setCell ⟨q, 3, none⟩ (.int .i64 L)) z q s pos { t with L := L } := by
  have h3 : Kept K w1 (w1.setCell ⟨q, 3, none⟩ (.int .i64 L)) := (Kept.refl K w1).setCell F.nq _
  obtain ⟨ty, h1⟩ := h.rdr
  obtain ⟨ty2, h2⟩ := h.tr
  refine ⟨⟨ty, ?_⟩, ⟨ty2, ?_⟩, h.kept.trans h3, h.tabs.kept F.G h3, h.pos⟩
  · rw [Below.heap_setCell _ _ _ _ F.zq]; exact h1
  · have e1 := heap_setCell_same w1 q 3 _ ty2 (.int .i64 L) h2
    simpa using e1

theorem RS.setM {K : Nat → Prop} {w w1 : World} {z q pos : Nat} {s : ByteArray} {t : Tr} (h : RS K w w1 z q s pos t) (F : FixR K w z q) (m : Nat) :
    RS K w (w1.setCell ⟨q, 4, none⟩ (.int .i64 ((m : Int) + 1))) z q s pos { t with M := m + 1 } := by
  have h3 : Kept K w1 (w1.setCell ⟨q, 4, none⟩ (.int .i64 ((m : Int) + 1))) := (Kept.refl K w1).setCell F.nq _
  obtain ⟨ty, h1⟩ := h.rdr
  obtain ⟨ty2, h2⟩ := h.tr
  refine ⟨⟨ty, ?_⟩, ⟨ty2, ?_⟩, h.kept.trans h3, h.tabs.kept F.G h3, h.pos⟩
  · rw [Below.heap_setCell _ _ _ _ F.zq]; exact h1
  · have e1 := heap_setCell_same w1 q 4 _ ty2 (.int .i64 ((m : Int) + 1)) h2
    simpa using e1

set_option maxRecDepth 20000 in
set_option maxHeartbeats 1600000 in
theorem val_bad5 {K : Nat → Prop} {w w1 : World} {z q pos : Nat} {s : ByteArray} {t : Tr} (h : RS K w w1 z q s pos t) (F : FixR K w z q) (hb : pos ≤ 800000) (hl : pos + 1 ≤ 8 * s.size) (h1 : bval ((bitsOf s pos).take 1) = 1) (hl2 : pos + 1 + 1 ≤ 8 * s.size) (h2 : bval ((bitsOf s (pos + 1)).take 1) = 1)
    (hl5 : 8 * s.size < pos + 1 + 1 + 5) :
    Calls Tryz.prog 85 #[.pointer (some ⟨q, 0, none⟩), .pointer (some ⟨z, 0, none⟩)] w1 fun e w' => e = .panicked [few] ∧ Kept K w w' := by
  have HR := h.readOk F 1 (by omega) (by omega) hl
  rw [h1] at HR
  have HR := hide HR
  have HF := hide F
  have H2 := hide h2
  clear h F h1 h2
  go_enter Tryz.func85, Tryz.ntmps85
  go_wp2_with fail
  refine (unhide HR).mono ?_
  rintro e w2 ⟨rfl, hS⟩
  have HR2 := hS.readOk (unhide HF) 1 (by omega) (by omega) hl2
  rw [unhide H2] at HR2
  have HR2 := hide HR2
  clear hS
  go_wp2_with fail
  refine (unhide HR2).mono ?_
  rintro e w3 ⟨rfl, hS⟩
  have HR5 := hide (hS.readBad (unhide HF) 5 (by omega) (by omega) hl5)
  clear hS
  go_wp2_with fail
  refine (unhide HR5).mono ?_
  rintro e w5 ⟨rfl, hk5⟩
  go_wp2_with fail
  simp only [bodyPost]
  exact ⟨trivial, trivial, hk5⟩

set_option maxRecDepth 20000 in
set_option maxHeartbeats 1600000 in
theorem val_bad6 {K : Nat → Prop} {w w1 : World} {z q pos : Nat} {s : ByteArray} {t : Tr} (h : RS K w w1 z q s pos t) (F : FixR K w z q) (hb : pos ≤ 800000) (hl : pos + 1 ≤ 8 * s.size) (h1 : bval ((bitsOf s pos).take 1) = 1) (hl2 : pos + 1 + 1 ≤ 8 * s.size) (h2 : bval ((bitsOf s (pos + 1)).take 1) = 1)
    (L : Nat) (hl5 : pos + 1 + 1 + 5 ≤ 8 * s.size) (h5 : bval ((bitsOf s (pos + 1 + 1)).take 5) = L) (hl6 : 8 * s.size < pos + 1 + 1 + 5 + 6) :
    Calls Tryz.prog 85 #[.pointer (some ⟨q, 0, none⟩), .pointer (some ⟨z, 0, none⟩)] w1 fun e w' => e = .panicked [few] ∧ Kept K w w' := by
  have HR := h.readOk F 1 (by omega) (by omega) hl
  rw [h1] at HR
  have HR := hide HR
  have HF := hide F
  have H2 := hide h2
  clear h F h1 h2
  go_enter Tryz.func85, Tryz.ntmps85
  go_wp2_with fail
  refine (unhide HR).mono ?_
  rintro e w2 ⟨rfl, hS⟩
  have HR2 := hS.readOk (unhide HF) 1 (by omega) (by omega) hl2
  rw [unhide H2] at HR2
  have HR2 := hide HR2
  clear hS
  go_wp2_with fail
  refine (unhide HR2).mono ?_
  rintro e w3 ⟨rfl, hS⟩
  have HR5 := hS.readOk (unhide HF) 5 (by omega) (by omega) hl5
  rw [h5] at HR5
  have HR5 := hide HR5
  obtain ⟨⟨_, _, _, c3, _⟩, hfz, hqs⟩ := hS.tr.cells
  have f3 := hfz 3
  have hL32 : L < 32 := by have := take_lt (natsOf s) (pos + 1 + 1) 5; rw [h5] at this; simpa using this
  clear hfz hS h5 c3 f3 hqs
  go_wp2_with fail
  refine (unhide HR5).mono ?_
  rintro e w5 ⟨rfl, hS⟩
  have HS := hide hS
  obtain ⟨⟨_, _, _, c3, _⟩, hfz, hqs⟩ := hS.tr.cells
  have f3 := hfz 3
  clear hfz hS
  have HR6 := hide (((unhide HS).setL (unhide HF) L).readBad (unhide HF) 6 (by omega) (by omega) hl6)
  go_wp2_with fail
  refine (unhide HR6).mono ?_
  rintro e w6 ⟨rfl, hk6⟩
  go_wp2_with fail
  simp only [bodyPost]
  exact ⟨trivial, trivial, hk6⟩

set_option maxRecDepth 20000 in
set_option maxHeartbeats 1600000 in
theorem val_wide {K : Nat → Prop} {w w1 : World} {z q pos : Nat} {s : ByteArray} {t : Tr} (h : RS K w w1 z q s pos t) (F : FixR K w z q) (hb : pos ≤ 800000) (hl : pos + 1 ≤ 8 * s.size) (h1 : bval ((bitsOf s pos).take 1) = 1) (hl2 : pos + 1 + 1 ≤ 8 * s.size) (h2 : bval ((bitsOf s (pos + 1)).take 1) = 1)
    (L : Nat) (hl5 : pos + 1 + 1 + 5 ≤ 8 * s.size) (h5 : bval ((bitsOf s (pos + 1 + 1)).take 5) = L) (m : Nat) (hl6 : pos + 1 + 1 + 5 + 6 ≤ 8 * s.size) (h6 : bval ((bitsOf s (pos + 1 + 1 + 5)).take 6) = m) (hw : 64 < L + (m + 1)) :
    Calls Tryz.prog 85 #[.pointer (some ⟨q, 0, none⟩), .pointer (some ⟨z, 0, none⟩)] w1 fun e w' => e = .panicked [few] ∧ Kept K w w' := by
  have HR := h.readOk F 1 (by omega) (by omega) hl
  rw [h1] at HR
  have HR := hide HR
  have HF := hide F
  have H2 := hide h2
  clear h F h1 h2
  go_enter Tryz.func85, Tryz.ntmps85
  go_wp2_with fail
  refine (unhide HR).mono ?_
  rintro e w2 ⟨rfl, hS⟩
  have HR2 := hS.readOk (unhide HF) 1 (by omega) (by omega) hl2
  rw [unhide H2] at HR2
  have HR2 := hide HR2
  clear hS
  go_wp2_with fail
  refine (unhide HR2).mono ?_
  rintro e w3 ⟨rfl, hS⟩
  have HR5 := hS.readOk (unhide HF) 5 (by omega) (by omega) hl5
  rw [h5] at HR5
  have HR5 := hide HR5
  obtain ⟨⟨_, _, _, c3, _⟩, hfz, hqs⟩ := hS.tr.cells
  have f3 := hfz 3
  have hL32 : L < 32 := by have := take_lt (natsOf s) (pos + 1 + 1) 5; rw [h5] at this; simpa using this
  clear hfz hS h5 c3 f3 hqs
  go_wp2_with fail
  refine (unhide HR5).mono ?_
  rintro e w5 ⟨rfl, hS⟩
  have HS := hide hS
  obtain ⟨⟨_, _, _, c3, _⟩, hfz, hqs⟩ := hS.tr.cells
  have f3 := hfz 3
  clear hfz hS
  have hS6 := (unhide HS).setL (unhide HF) L
  have HR6 := hS6.readOk (unhide HF) 6 (by omega) (by omega) hl6
  rw [h6] at HR6
  have HR6 := hide HR6
  have hm64 : m < 64 := by have := take_lt (natsOf s) (pos + 1 + 1 + 5) 6; rw [h6] at this; simpa using this
  clear hS6 h6 HS
  go_wp2_with fail
  refine (unhide HR6).mono ?_
  rintro e w6 ⟨rfl, hS⟩
  have HS := hide hS
  clear c3 f3 hqs
  obtain ⟨⟨_, _, _, c3, c4⟩, hfz, hqs⟩ := hS.tr.cells
  have f4 := hfz 4
  clear hfz hS
  simp only at c3
  have hS7 := (unhide HS).setM (unhide HF) m
  have H7 := hide hS7
  clear hS7
  have HB := fun w => behind_any L (m + 1) w (by omega) (by omega)
  have em : ((m + 1 : Nat) : Int) = (m : Int) + 1 := by omega
  rw [em] at HB
  have HB := hide HB
  clear em
  have hneg : 64 - (L : Int) - ((m : Int) + 1) < 0 := by omega
  go_wp2_with fail
  refine (unhide HB _).mono ?_
  rintro e w8 ⟨rfl, o, hw8⟩
  have hk8 := ((unhide H7).below (unhide HF) ((Below.refl _ _).alloc (Nat.le_refl _) o)).kept
  rw [← hw8] at hk8
  clear hw8
  go_wp2_with fail
  simp only [bodyPost]
  exact ⟨trivial, trivial, hk8⟩

set_option maxRecDepth 20000 in
set_option maxHeartbeats 1600000 in
theorem val_new_bad {K : Nat → Prop} {w w1 : World} {z q pos : Nat} {s : ByteArray} {t : Tr} (h : RS K w w1 z q s pos t) (F : FixR K w z q) (hb : pos ≤ 800000) (hl : pos + 1 ≤ 8 * s.size) (h1 : bval ((bitsOf s pos).take 1) = 1) (hl2 : pos + 1 + 1 ≤ 8 * s.size) (h2 : bval ((bitsOf s (pos + 1)).take 1) = 1)
    (L : Nat) (hl5 : pos + 1 + 1 + 5 ≤ 8 * s.size) (h5 : bval ((bitsOf s (pos + 1 + 1)).take 5) = L) (m : Nat) (hl6 : pos + 1 + 1 + 5 + 6 ≤ 8 * s.size) (h6 : bval ((bitsOf s (pos + 1 + 1 + 5)).take 6) = m) (M b : Nat) (hM : m + 1 = M) (hLM : L + M + b = 64) (hl3 : 8 * s.size < pos + 1 + 1 + 5 + 6 + M) :
    Calls Tryz.prog 85 #[.pointer (some ⟨q, 0, none⟩), .pointer (some ⟨z, 0, none⟩)] w1 fun e w' => e = .panicked [few] ∧ Kept K w w' := by
  have HR := h.readOk F 1 (by omega) (by omega) hl
  rw [h1] at HR
  have HR := hide HR
  have HF := hide F
  have H2 := hide h2
  clear h F h1 h2
  go_enter Tryz.func85, Tryz.ntmps85
  go_wp2_with fail
  refine (unhide HR).mono ?_
  rintro e w2 ⟨rfl, hS⟩
  have HR2 := hS.readOk (unhide HF) 1 (by omega) (by omega) hl2
  rw [unhide H2] at HR2
  have HR2 := hide HR2
  clear hS
  go_wp2_with fail
  refine (unhide HR2).mono ?_
  rintro e w3 ⟨rfl, hS⟩
  have HR5 := hS.readOk (unhide HF) 5 (by omega) (by omega) hl5
  rw [h5] at HR5
  have HR5 := hide HR5
  obtain ⟨⟨_, _, _, c3, _⟩, hfz, hqs⟩ := hS.tr.cells
  have f3 := hfz 3
  have hL32 : L < 32 := by have := take_lt (natsOf s) (pos + 1 + 1) 5; rw [h5] at this; simpa using this
  clear hfz hS h5 c3 f3 hqs
  go_wp2_with fail
  refine (unhide HR5).mono ?_
  rintro e w5 ⟨rfl, hS⟩
  have HS := hide hS
  obtain ⟨⟨_, _, _, c3, _⟩, hfz, hqs⟩ := hS.tr.cells
  have f3 := hfz 3
  clear hfz hS
  have hS6 := (unhide HS).setL (unhide HF) L
  have HR6 := hS6.readOk (unhide HF) 6 (by omega) (by omega) hl6
  rw [h6] at HR6
  have HR6 := hide HR6
  have hm64 : m < 64 := by have := take_lt (natsOf s) (pos + 1 + 1 + 5) 6; rw [h6] at this; simpa using this
  clear hS6 h6 HS
  go_wp2_with fail
  refine (unhide HR6).mono ?_
  rintro e w6 ⟨rfl, hS⟩
  have HS := hide hS
  clear c3 f3 hqs
  obtain ⟨⟨_, _, _, c3, c4⟩, hfz, hqs⟩ := hS.tr.cells
  have f4 := hfz 4
  clear hfz hS
  simp only at c3
  have hS7 := (unhide HS).setM (unhide HF) m
  have H7 := hide hS7
  clear hS7
  have HBm := fun w => behind_any L (m + 1) w (by omega) (by omega)
  have em : ((m + 1 : Nat) : Int) = (m : Int) + 1 := by omega
  rw [em] at HBm
  have hb3 : 64 - (L : Int) - ((m : Int) + 1) = (b : Int) := by omega
  rw [hb3] at HBm
  have HBm := hide HBm
  clear em hb3
  have hL64 : L ≤ 64 := by omega
  have hM64 : M ≤ 64 := by omega
  have HB := hide (fun w => behind_any L M w hL64 hM64)
  have hb2 : 64 - (L : Int) - M = (b : Int) := by omega
  rw [hb2] at HB
  have HM := hide hM
  clear hM
  go_wp2_with fail
  refine (unhide HBm _).mono ?_
  rintro e w4 ⟨rfl, o, hw4⟩
  have hS4 := (unhide H7).below (unhide HF) ((Below.refl _ _).alloc (Nat.le_refl _) o)
  rw [← hw4, unhide HM] at hS4
  clear hw4 c3 c4 f4 hqs HS H7 HBm
  obtain ⟨⟨_, c1, _, c3, c4⟩, hfz, hqs⟩ := hS4.tr.cells
  have f1 := hfz 1
  clear hfz
  try (simp only at c1 c3 c4)
  have hb0 : ¬ (b : Int) < 0 := by omega
  have HR3 := hide (hS4.drew.readBad (unhide HF) M hM64 (by omega) hl3)
  clear hS4
  go_wp2_with fail
  go_region_dies
  all_goals
    refine (unhide HR3).mono ?_
    rintro e w5 ⟨rfl, hk5⟩
    exact ⟨rfl, rfl, hk5⟩
end Go.Proofs.YtgekdmjneogdoaaGreatDoor
