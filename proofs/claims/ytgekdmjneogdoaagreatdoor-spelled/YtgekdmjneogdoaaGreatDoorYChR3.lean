import Derived.Test.YtgekdmjneogdoaaGreatDoorYChR2
namespace Go.Proofs.YtgekdmjneogdoaaGreatDoor
open Go.RowKit

theorem RS.below {K : Nat → Prop} {w w1 w' : World} {z q pos : Nat} {s : ByteArray} {t : Tr} (h : RS K w w1 z q s pos t) (F : FixR K w z q) (hb : Below w1.heap.size w1 w') : RS K w w' z q s pos t := by
  have hk : Kept (fun k => k < w1.heap.size) w1 w' := Kept.of_below hb
  have h3 : Kept K w1 w' := hk.sub (fun k hk => Nat.lt_of_lt_of_le (F.inK k hk) h.kept.size)
  obtain ⟨ty, h2⟩ := h.tr
  exact ⟨h.rdr.kept h.rdr.size hk, ⟨ty, (hk.block q (Array.getElem?_eq_some_iff.1 h2).1).trans h2⟩, h.kept.trans h3, h.tabs.kept F.G h3, h.pos⟩

theorem RS.setV {K : Nat → Prop} {w w1 : World} {z q pos : Nat} {s : ByteArray} {t : Tr} (h : RS K w w1 z q s pos t) (F : FixR K w z q) (V : Nat) :
    RS K w (w1.setCell ⟨q, 1, none⟩ (.int .u64 V)) z q s pos { t with V := V } := by
  have h3 : Kept K w1 (w1.setCell ⟨q, 1, none⟩ (.int .u64 V)) := (Kept.refl K w1).setCell F.nq _
  obtain ⟨ty, h1⟩ := h.rdr
  refine ⟨⟨ty, ?_⟩, h.tr.setV V, h.kept.trans h3, h.tabs.kept F.G h3, h.pos⟩
  rw [Below.heap_setCell _ _ _ _ F.zq]; exact h1

set_option maxRecDepth 20000 in
set_option maxHeartbeats 1600000 in
theorem val_none {K : Nat → Prop} {w w1 : World} {z q pos : Nat} {s : ByteArray} {t : Tr} (h : RS K w w1 z q s pos t) (F : FixR K w z q) (hb : pos ≤ 800000) (hl : 8 * s.size < pos + 1) :
    Calls Tryz.prog 85 #[.pointer (some ⟨q, 0, none⟩), .pointer (some ⟨z, 0, none⟩)] w1 fun e w' => e = .panicked [few] ∧ Kept K w w' := by
  have HR := hide (h.readBad F 1 (by omega) (by omega) hl)
  clear h F
  go_enter Tryz.func85, Tryz.ntmps85
  go_wp2_with fail
  refine (unhide HR).mono ?_
  rintro e w2 ⟨rfl, hk⟩
  go_wp2_with fail
  simp only [bodyPost]
  exact ⟨trivial, trivial, hk⟩

set_option maxRecDepth 20000 in
set_option maxHeartbeats 1600000 in
theorem val_zero {K : Nat → Prop} {w w1 : World} {z q pos : Nat} {s : ByteArray} {t : Tr} (h : RS K w w1 z q s pos t) (F : FixR K w z q) (hb : pos ≤ 800000) (hl : pos + 1 ≤ 8 * s.size) (h0 : bval ((bitsOf s pos).take 1) = 0) :
    Calls Tryz.prog 85 #[.pointer (some ⟨q, 0, none⟩), .pointer (some ⟨z, 0, none⟩)] w1 fun e w' => e = .returned (.tuple #[]) ∧ RS K w w' z q s (pos + 1) t := by
  have HR := h.readOk F 1 (by omega) (by omega) hl
  rw [h0] at HR
  have HR := hide HR
  clear h F h0
  go_enter Tryz.func85, Tryz.ntmps85
  go_wp2_with fail
  refine (unhide HR).mono ?_
  rintro e w2 ⟨rfl, hS⟩
  have HS := hide hS
  clear hS
  go_wp2_with fail
  first | go_end0 | refine bodyPost_ret (results_none rfl _ _ _) rfl ?_
  exact ⟨rfl, unhide HS⟩

set_option maxRecDepth 20000 in
set_option maxHeartbeats 1600000 in
theorem val_none2 {K : Nat → Prop} {w w1 : World} {z q pos : Nat} {s : ByteArray} {t : Tr} (h : RS K w w1 z q s pos t) (F : FixR K w z q) (hb : pos ≤ 800000) (hl : pos + 1 ≤ 8 * s.size) (h1 : bval ((bitsOf s pos).take 1) = 1) (hl2 : 8 * s.size < pos + 1 + 1) :
    Calls Tryz.prog 85 #[.pointer (some ⟨q, 0, none⟩), .pointer (some ⟨z, 0, none⟩)] w1 fun e w' => e = .panicked [few] ∧ Kept K w w' := by
  have HR := h.readOk F 1 (by omega) (by omega) hl
  rw [h1] at HR
  have HR := hide HR
  have HF := hide F
  clear h F h1
  go_enter Tryz.func85, Tryz.ntmps85
  go_wp2_with fail
  refine (unhide HR).mono ?_
  rintro e w2 ⟨rfl, hS⟩
  have HR2 := hide (hS.readBad (unhide HF) 1 (by omega) (by omega) hl2)
  clear hS
  go_wp2_with fail
  refine (unhide HR2).mono ?_
  rintro e w3 ⟨rfl, hk⟩
  go_wp2_with fail
  simp only [bodyPost]
  exact ⟨trivial, trivial, hk⟩

set_option maxRecDepth 20000 in
set_option maxHeartbeats 1600000 in
theorem val_old {K : Nat → Prop} {w w1 : World} {z q pos : Nat} {s : ByteArray} {t : Tr} (h : RS K w w1 z q s pos t) (F : FixR K w z q) (hb : pos ≤ 800000) (hl : pos + 1 ≤ 8 * s.size) (h1 : bval ((bitsOf s pos).take 1) = 1) (hl2 : pos + 1 + 1 ≤ 8 * s.size) (h2 : bval ((bitsOf s (pos + 1)).take 1) = 0)
    (b : Nat) (hLM : t.L + t.M + b = 64) (hl3 : pos + 1 + 1 + t.M ≤ 8 * s.size) (hV : t.V < 18446744073709551616) (x V : Nat) (hx : bval ((bitsOf s (pos + 1 + 1)).take t.M) = x) (hVx : t.V ^^^ (x * 2 ^ b % 18446744073709551616) = V) :
    Calls Tryz.prog 85 #[.pointer (some ⟨q, 0, none⟩), .pointer (some ⟨z, 0, none⟩)] w1 fun e w' => e = .returned (.tuple #[]) ∧ RS K w w' z q s (pos + 1 + 1 + t.M) { t with V := V } := by
  have HR := h.readOk F 1 (by omega) (by omega) hl
  rw [h1] at HR
  have HR := hide HR
  have HF := hide F
  have H2 := hide h2
  clear h F h1 h2
  go_enter Tryz.func85, Tryz.ntmps85
  go_wp2_with fail
  refine (unhide HR).mono ?_
  rintro e w2 ⟨rfl, hS⟩
  have HR2 := hS.readOk (unhide HF) 1 (by omega) (by omega) hl2
  rw [unhide H2] at HR2
  have HR2 := hide HR2
  clear hS
  go_wp2_with fail
  refine (unhide HR2).mono ?_
  rintro e w3 ⟨rfl, hS⟩
  have HS := hide hS
  obtain ⟨⟨_, c1, _, c3, c4⟩, hfz, hqs⟩ := hS.tr.cells
  have f1 := hfz 1
  clear hfz hS
  try (simp only at c1 c3 c4)
  have hL64 : t.L ≤ 64 := by omega
  have hM64 : t.M ≤ 64 := by omega
  have HB := hide (fun w => behind_any t.L t.M w hL64 hM64)
  have hb2 : 64 - (t.L : Int) - t.M = (b : Int) := by omega
  rw [hb2] at HB
  go_wp2_with fail
  refine (unhide HB _).mono ?_
  rintro e w4 ⟨rfl, o, hw4⟩
  have hS4 := (unhide HS).below (unhide HF) ((Below.refl _ _).alloc (Nat.le_refl _) o)
  rw [← hw4] at hS4
  clear hw4 c1 c3 c4 f1 hqs HS
  obtain ⟨⟨_, c1, _, c3, c4⟩, hfz, hqs⟩ := hS4.tr.cells
  have f1 := hfz 1
  clear hfz
  try (simp only at c1 c3 c4)
  have hb0 : ¬ (b : Int) < 0 := by omega
  have HR3 := hS4.drew.readOk (unhide HF) t.M hM64 (by omega) hl3
  rw [hx] at HR3
  have HR3 := hide HR3
  have hx64 : x < 18446744073709551616 := hx ▸ take64 s (pos + 1 + 1) t.M hM64
  clear hS4 hx
  obtain ⟨y, hy⟩ : ∃ y, x * 2 ^ b % 18446744073709551616 = y := ⟨_, rfl⟩
  have eS : IntKind.u64.wrap ((x : Int) * 2 ^ b) = (y : Int) := by rw [shl_nat, hy]
  rw [hy] at hVx
  have hy64 : y < 18446744073709551616 := by omega
  have eX : bits BinOp.xor IntKind.u64 (t.V : Int) (y : Int) = (V : Int) := by rw [u64_xor_nat _ _ hV hy64, hVx]
  clear hVx hy hy64
  go_wp2_with fail
  go_region_with (first | (go_at_call 83; refine (unhide HR3).mono ?_; rintro e w5 ⟨rfl, hS5⟩; obtain ⟨⟨_, k1, _, k3, k4⟩, kf, kq⟩ := hS5.tr.cells; have kf1 := kf 1; clear kf; (try (simp only at k1 k3 k4)); have HS5 := hide hS5; clear hS5) | (go_at_call 141; refine (unhide HB _).mono ?_; rintro e w' ⟨rfl, o2, rfl⟩))
  all_goals
    clear c1 c3 c4 f1 hqs k1 k3 k4 kf1 kq eS eX
    go_wp2_with fail
    go_end0
    exact ⟨rfl, ((unhide HS5).setV (unhide HF) V).below (unhide HF) ((Below.refl _ _).alloc (Nat.le_refl _) _)⟩

set_option maxRecDepth 20000 in
set_option maxHeartbeats 1600000 in
theorem val_old_bad {K : Nat → Prop} {w w1 : World} {z q pos : Nat} {s : ByteArray} {t : Tr} (h : RS K w w1 z q s pos t) (F : FixR K w z q) (hb : pos ≤ 800000) (hl : pos + 1 ≤ 8 * s.size) (h1 : bval ((bitsOf s pos).take 1) = 1) (hl2 : pos + 1 + 1 ≤ 8 * s.size) (h2 : bval ((bitsOf s (pos + 1)).take 1) = 0)
    (b : Nat) (hLM : t.L + t.M + b = 64) (hl3 : 8 * s.size < pos + 1 + 1 + t.M) :
    Calls Tryz.prog 85 #[.pointer (some ⟨q, 0, none⟩), .pointer (some ⟨z, 0, none⟩)] w1 fun e w' => e = .panicked [few] ∧ Kept K w w' := by
  have HR := h.readOk F 1 (by omega) (by omega) hl
  rw [h1] at HR
  have HR := hide HR
  have HF := hide F
  have H2 := hide h2
  clear h F h1 h2
  go_enter Tryz.func85, Tryz.ntmps85
  go_wp2_with fail
  refine (unhide HR).mono ?_
  rintro e w2 ⟨rfl, hS⟩
  have HR2 := hS.readOk (unhide HF) 1 (by omega) (by omega) hl2
  rw [unhide H2] at HR2
  have HR2 := hide HR2
  clear hS
  go_wp2_with fail
  refine (unhide HR2).mono ?_
  rintro e w3 ⟨rfl, hS⟩
  have HS := hide hS
  obtain ⟨⟨_, c1, _, c3, c4⟩, hfz, hqs⟩ := hS.tr.cells
  have f1 := hfz 1
  clear hfz hS
  try (simp only at c1 c3 c4)
  have hL64 : t.L ≤ 64 := by omega
  have hM64 : t.M ≤ 64 := by omega
  have HB := hide (fun w => behind_any t.L t.M w hL64 hM64)
  have hb2 : 64 - (t.L : Int) - t.M = (b : Int) := by omega
  rw [hb2] at HB
  go_wp2_with fail
  refine (unhide HB _).mono ?_
  rintro e w4 ⟨rfl, o, hw4⟩
  have hS4 := (unhide HS).below (unhide HF) ((Below.refl _ _).alloc (Nat.le_refl _) o)
  rw [← hw4] at hS4
  clear hw4 c1 c3 c4 f1 hqs HS
  obtain ⟨⟨_, c1, _, c3, c4⟩, hfz, hqs⟩ := hS4.tr.cells
  have f1 := hfz 1
  clear hfz
  try (simp only at c1 c3 c4)
  have hb0 : ¬ (b : Int) < 0 := by omega
  have HR3 := hide (hS4.drew.readBad (unhide HF) t.M hM64 (by omega) hl3)
  clear hS4
  go_wp2_with fail
  go_region_dies
  all_goals
    refine (unhide HR3).mono ?_
    rintro e w5 ⟨rfl, hk5⟩
    exact ⟨rfl, rfl, hk5⟩
end Go.Proofs.YtgekdmjneogdoaaGreatDoor
