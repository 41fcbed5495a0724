import Derived.Test.YtgekdmjneogdoaaGreatDoorYChR4
namespace Go.Proofs.YtgekdmjneogdoaaGreatDoor
open Go.RowKit

set_option maxRecDepth 20000 in
set_option maxHeartbeats 1600000 in
theorem val_new {K : Nat → Prop} {w w1 : World} {z q pos : Nat} {s : ByteArray} {t : Tr} (h : RS K w w1 z q s pos t) (F : FixR K w z q) (hb : pos ≤ 800000) (hl : pos + 1 ≤ 8 * s.size) (h1 : bval ((bitsOf s pos).take 1) = 1) (hl2 : pos + 1 + 1 ≤ 8 * s.size) (h2 : bval ((bitsOf s (pos + 1)).take 1) = 1)
    (L : Nat) (hl5 : pos + 1 + 1 + 5 ≤ 8 * s.size) (h5 : bval ((bitsOf s (pos + 1 + 1)).take 5) = L) (m : Nat) (hl6 : pos + 1 + 1 + 5 + 6 ≤ 8 * s.size) (h6 : bval ((bitsOf s (pos + 1 + 1 + 5)).take 6) = m) (M b : Nat) (hM : m + 1 = M) (hLM : L + M + b = 64) (hl3 : pos + 1 + 1 + 5 + 6 + M ≤ 8 * s.size) (hV : t.V < 18446744073709551616) (x V : Nat) (hx : bval ((bitsOf s (pos + 1 + 1 + 5 + 6)).take M) = x) (hVx : t.V ^^^ (x * 2 ^ b % 18446744073709551616) = V) :
    Calls Tryz.prog 85 #[.pointer (some ⟨q, 0, none⟩), .pointer (some ⟨z, 0, none⟩)] w1 fun e w' => e = .returned (.tuple #[]) ∧ RS K w w' z q s (pos + 1 + 1 + 5 + 6 + M) { t with V := V, L := L, M := M } := by
  have HR := h.readOk F 1 (by omega) (by omega) hl
  rw [h1] at HR
  have HR := hide HR
  have HF := hide F
  have H2 := hide h2
  clear h F h1 h2
  go_enter Tryz.func85, Tryz.ntmps85
  go_wp2_with fail
  refine (unhide HR).mono ?_
  rintro e w2 ⟨rfl, hS⟩
  have HR2 := hS.readOk (unhide HF) 1 (by omega) (by omega) hl2
  rw [unhide H2] at HR2
  have HR2 := hide HR2
  clear hS
  go_wp2_with fail
  refine (unhide HR2).mono ?_
  rintro e w3 ⟨rfl, hS⟩
  have HR5 := hS.readOk (unhide HF) 5 (by omega) (by omega) hl5
  rw [h5] at HR5
  have HR5 := hide HR5
  obtain ⟨⟨_, _, _, c3, _⟩, hfz, hqs⟩ := hS.tr.cells
  have f3 := hfz 3
  have hL32 : L < 32 := by have := take_lt (natsOf s) (pos + 1 + 1) 5; rw [h5] at this; simpa using this
  clear hfz hS h5 c3 f3 hqs
  go_wp2_with fail
  refine (unhide HR5).mono ?_
  rintro e w5 ⟨rfl, hS⟩
  have HS := hide hS
  obtain ⟨⟨_, _, _, c3, _⟩, hfz, hqs⟩ := hS.tr.cells
  have f3 := hfz 3
  clear hfz hS
  have hS6 := (unhide HS).setL (unhide HF) L
  have HR6 := hS6.readOk (unhide HF) 6 (by omega) (by omega) hl6
  rw [h6] at HR6
  have HR6 := hide HR6
  have hm64 : m < 64 := by have := take_lt (natsOf s) (pos + 1 + 1 + 5) 6; rw [h6] at this; simpa using this
  clear hS6 h6 HS
  go_wp2_with fail
  refine (unhide HR6).mono ?_
  rintro e w6 ⟨rfl, hS⟩
  have HS := hide hS
  clear c3 f3 hqs
  obtain ⟨⟨_, _, _, c3, c4⟩, hfz, hqs⟩ := hS.tr.cells
  have f4 := hfz 4
  clear hfz hS
  simp only at c3
  have hS7 := (unhide HS).setM (unhide HF) m
  have H7 := hide hS7
  clear hS7
  have HBm := fun w => behind_any L (m + 1) w (by omega) (by omega)
  have em : ((m + 1 : Nat) : Int) = (m : Int) + 1 := by omega
  rw [em] at HBm
  have hb3 : 64 - (L : Int) - ((m : Int) + 1) = (b : Int) := by omega
  rw [hb3] at HBm
  have HBm := hide HBm
  clear em hb3
  have hL64 : L ≤ 64 := by omega
  have hM64 : M ≤ 64 := by omega
  have HB := hide (fun w => behind_any L M w hL64 hM64)
  have hb2 : 64 - (L : Int) - M = (b : Int) := by omega
  rw [hb2] at HB
  have HM := hide hM
  clear hM
  go_wp2_with fail
  refine (unhide HBm _).mono ?_
  rintro e w4 ⟨rfl, o, hw4⟩
  have hS4 := (unhide H7).below (unhide HF) ((Below.refl _ _).alloc (Nat.le_refl _) o)
  rw [← hw4, unhide HM] at hS4
  clear hw4 c3 c4 f4 hqs HS H7 HBm
  obtain ⟨⟨_, c1, _, c3, c4⟩, hfz, hqs⟩ := hS4.tr.cells
  have f1 := hfz 1
  clear hfz
  try (simp only at c1 c3 c4)
  have hb0 : ¬ (b : Int) < 0 := by omega
  have HR3 := hS4.drew.readOk (unhide HF) M hM64 (by omega) hl3
  rw [hx] at HR3
  have HR3 := hide HR3
  have hx64 : x < 18446744073709551616 := hx ▸ take64 s (pos + 1 + 1 + 5 + 6) M hM64
  clear hS4 hx
  obtain ⟨y, hy⟩ : ∃ y, x * 2 ^ b % 18446744073709551616 = y := ⟨_, rfl⟩
  have eS : IntKind.u64.wrap ((x : Int) * 2 ^ b) = (y : Int) := by rw [shl_nat, hy]
  rw [hy] at hVx
  have hy64 : y < 18446744073709551616 := by omega
  have eX : bits BinOp.xor IntKind.u64 (t.V : Int) (y : Int) = (V : Int) := by rw [u64_xor_nat _ _ hV hy64, hVx]
  clear hVx hy hy64
  go_wp2_with fail
  go_region_with (first | (go_at_call 83; refine (unhide HR3).mono ?_; rintro e w5 ⟨rfl, hS5⟩; obtain ⟨⟨_, k1, _, k3, k4⟩, kf, kq⟩ := hS5.tr.cells; have kf1 := kf 1; clear kf; (try (simp only at k1 k3 k4)); have HS5 := hide hS5; clear hS5) | (go_at_call 141; refine (unhide HB _).mono ?_; rintro e w' ⟨rfl, o2, rfl⟩))
  all_goals
    clear c1 c3 c4 f1 hqs k1 k3 k4 kf1 kq eS eX
    go_wp2_with fail
    go_end0
    exact ⟨rfl, ((unhide HS5).setV (unhide HF) V).below (unhide HF) ((Below.refl _ _).alloc (Nat.le_refl _) _)⟩
end Go.Proofs.YtgekdmjneogdoaaGreatDoor
