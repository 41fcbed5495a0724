import Derived.Test.YtgekdmjneogdoabGreatDoorHParse2
namespace Go.Proofs.YtgekdmjneogdoabGreatDoor
open Go.RowKit

set_option maxRecDepth 20000 in
set_option maxHeartbeats 400000 in
theorem div_core (u a b c d : Nat) (w : World) (h1 : (u : Int) / 10 = (a : Int)) (h2 : bits BinOp.and IntKind.u64 (u : Int) 1 = (b : Int)) (h3 : bits BinOp.or IntKind.u64 (a : Int) (b : Int) = (c : Int))
    (h4 : bits BinOp.or IntKind.u64 (c : Int) (((u : Int) % 10 != 0).toNat : Int) = (d : Int)) (h5 : IntKind.u64.wrap (a : Int) = (a : Int)) :
    Calls Tryz.prog 251 #[.int .u64 u, .int .u64 10] w fun e w' => e = .returned (.int .u64 d) ∧ ∃ n, w' = w.drewN n := by
  go_enter Tryz.func251, Tryz.ntmps251
  go_wp2_with fail
  go_quiet ((go_at_call 278; exact Calls.quiet_of_same (bool2r_any _ _)))
  go_wp2_with fail
  go_ret
  exact ⟨rfl, _, rfl⟩

def divN (u : Nat) : Nat := (u / 10 ||| u % 2) ||| (decide (u % 10 ≠ 0)).toNat

theorem divN_le (u : Nat) : divN u ≤ u / 10 + 2 := by
  unfold divN
  have h1 := or1_le (u / 10) (u % 2) (by omega)
  have h2 := or1_le (u / 10 ||| u % 2) (decide (u % 10 ≠ 0)).toNat (Bool.toNat_le _)
  omega

theorem div_any (u : Nat) (w : World) (hu : u < 18446744073709551616) :
    Calls Tryz.prog 251 #[.int .u64 u, .int .u64 10] w fun e w' => e = .returned (.int .u64 (divN u)) ∧ ∃ n, w' = w.drewN n := by
  have hb := or1_le (u / 10) (u % 2) (by omega)
  have e : (((u : Int) % 10 != 0).toNat : Int) = (((decide (u % 10 ≠ 0)).toNat : Nat) : Int) := by
    by_cases h : u % 10 = 0
    · have : ((u : Int) % 10 != 0) = false := by rw [bne_eq_false_iff_eq]; omega
      rw [this]; simp [h]
    · have : ((u : Int) % 10 != 0) = true := by rw [bne_iff_ne]; omega
      rw [this]; simp [h]
  have ht : (decide (u % 10 ≠ 0)).toNat ≤ 1 := Bool.toNat_le _
  exact div_core u (u / 10) (u % 2) (u / 10 ||| u % 2) (divN u) w (by omega) (and1 u hu) (u64_or_nat _ _ (by omega) (by omega)) (by rw [e]; exact u64_or_nat _ _ (by omega) (by omega)) (by rw [IntKind.wrap_u64]; omega)

set_option maxRecDepth 20000 in
set_option maxHeartbeats 1000000 in
theorem fixed_core (m n i hi lo s u t : Nat) (e p lp prec : Int) (w : World) (hm : m < 18446744073709551616) (hn1 : 1 ≤ n) (hn2 : n ≤ 18) (he1 : -1200 ≤ e) (he2 : e ≤ 1200)
    (hp : (n : Int) - 1 - (e + 63) * 78913 / 262144 = p) (hpi : p + 348 = (i : Int)) (hi2 : i < 696) (hlp : p * 108853 / 32768 = lp) (hs : -(e + lp + 3) = s) (hs64 : s < 64)
    (hu : uscaleN m hi lo s = u) (hub : u < 4611686018427387904) (ht1 : 1 ≤ t) (ht2 : t < 4611686018427387904) (hh : hi < 18446744073709551616) (hl : lo < 18446744073709551616)
    (c0 : w.cell? ⟨10, i * 2, none⟩ = some (.int .u64 hi)) (c1 : w.cell? ⟨10, i * 2 + 1, none⟩ = some (.int .u64 lo)) (hz : 10 < w.heap.size)
    (c2 : w.cell? ⟨6, n, none⟩ = some (.int .u64 t)) :
    Calls Tryz.prog 209 #[.int .u64 m, .int .i64 e, .int .i64 n, .int .i64 prec, .int .u8 101] w fun z w' =>
      z = .returned (.tuple (if 4 * t - 2 ≤ u then #[.int .u64 ((divN u + 1 + divN u / 4 % 2) / 4 : Nat), .int .i64 (-(p - 1))] else #[.int .u64 ((u + 1 + u / 4 % 2) / 4 : Nat), .int .i64 (-p)])) ∧ Below w.heap.size w w' := by
  have hp1 : -700 ≤ p := by omega
  have hp2 : p ≤ 700 := by omega
  have hlp1 : -2000 ≤ lp := by omega
  have hlp2 : lp ≤ 2000 := by omega
  have L1 := log10Pow2_any (e + 63) w (by omega) (by omega)
  have L2 := fun w => log2Pow10_any p w (by omega) (by omega)
  rw [hlp] at L2
  have L3 := prescale_new hi lo i e p lp w hpi (by omega) (by omega) (by omega) (by omega) hi2 c0 c1 hz
  rw [hs] at L3
  have hz7 : 6 < w.heap.size := by omega
  have d2 : ∀ o, (w.alloc o).cell? ⟨6, n, none⟩ = some (.int .u64 t) := fun o => by rw [World.cell?_alloc_past _ _ _ hz7]; exact c2
  have H1 := hide L1
  have H2 := hide L2
  have H3 := hide L3
  have Hs := hide hs
  have Hlp := hide hlp
  have Hpi := hide hpi
  clear L1 L2 L3 hs hlp hpi
  have HU : Hid (∀ w, Calls Tryz.prog 250 #[.int .u64 t] w fun e w' => e = .returned (.int .u64 (4 * t - 2 : Nat)) ∧ w' = w) := fun w => unmin_any t w ht2 ht1
  generalize 4 * t - 2 = t4 at *
  by_cases hbig : t4 ≤ u
  · have hb1 : (t4 : Int) ≤ (u : Int) := by omega
    have hdv := divN_le u
    rw [if_pos hbig]
    obtain ⟨r, hr⟩ : ∃ r, (divN u + 1 + divN u / 4 % 2) / 4 = r := ⟨_, rfl⟩
    rw [hr]
    have Hr := hide hr
    clear hr
    go_enter Tryz.func209, Tryz.ntmps209
    go_wp2_with fail
    refine (unhide H1).mono ?_
    rintro x w1 ⟨rfl, hw⟩; rw [hw]; clear hw w1
    go_wp2_with fail
    refine (unhide H2 _).mono ?_
    rintro x w1 ⟨rfl, hw⟩; rw [hw]; clear hw w1
    go_wp2_with fail
    refine (unhide H3).mono ?_
    rintro x w1 ⟨rfl, hw⟩; rw [hw]; clear hw w1
    go_wp2_with fail
    refine (uscale_any m hi lo s w.heap.size _ hm hh hl hs64 (by simp) (by simp) (by simp)).mono ?_
    rintro x w2 ⟨rfl, nn, rfl⟩
    rw [hu]
    go_wp2_with fail
    refine (unhide HU _).mono ?_
    rintro x w1 ⟨rfl, hw⟩; rw [hw]; clear hw w1
    go_wp2_with fail
    refine (div_any u _ (by omega)).mono ?_
    rintro x w3 ⟨rfl, n3, rfl⟩
    go_wp2_with fail
    refine (round_any (divN u) _ (by omega)).mono ?_
    rintro x w1 ⟨rfl, hw⟩; rw [hw]; clear hw w1
    rw [unhide Hr]
    go_wp2_with fail
    go_ret2
    exact ⟨rfl, below_drewN ((Below.refl _ _).alloc (Nat.le_refl _) _) _⟩
  · have hb1 : ¬ (t4 : Int) ≤ (u : Int) := by omega
    rw [if_neg hbig]
    obtain ⟨r, hr⟩ : ∃ r, (u + 1 + u / 4 % 2) / 4 = r := ⟨_, rfl⟩
    rw [hr]
    have Hr := hide hr
    clear hr
    go_enter Tryz.func209, Tryz.ntmps209
    go_wp2_with fail
    refine (unhide H1).mono ?_
    rintro x w1 ⟨rfl, hw⟩; rw [hw]; clear hw w1
    go_wp2_with fail
    refine (unhide H2 _).mono ?_
    rintro x w1 ⟨rfl, hw⟩; rw [hw]; clear hw w1
    go_wp2_with fail
    refine (unhide H3).mono ?_
    rintro x w1 ⟨rfl, hw⟩; rw [hw]; clear hw w1
    go_wp2_with fail
    refine (uscale_any m hi lo s w.heap.size _ hm hh hl hs64 (by simp) (by simp) (by simp)).mono ?_
    rintro x w2 ⟨rfl, nn, rfl⟩
    rw [hu]
    go_wp2_with fail
    refine (unhide HU _).mono ?_
    rintro x w1 ⟨rfl, hw⟩; rw [hw]; clear hw w1
    go_wp2_with fail
    refine (round_any u _ (by omega)).mono ?_
    rintro x w1 ⟨rfl, hw⟩; rw [hw]; clear hw w1
    rw [unhide Hr]
    go_wp2_with fail
    go_ret2
    exact ⟨rfl, below_drewN ((Below.refl _ _).alloc (Nat.le_refl _) _) _⟩
end Go.Proofs.YtgekdmjneogdoabGreatDoor
