import Derived.Test.YtgekdmjneogdoaaGreatDoorXTabs
namespace Go.Proofs.YtgekdmjneogdoaaGreatDoor
open Go.RowKit

set_option maxRecDepth 20000 in
set_option maxHeartbeats 800000 in
theorem parse64_zero (d b i hi lo sg : Nat) (s lp E : Int) (w : World) (hd : d < 18446744073709551616) (hb : Lib.bitLen d = b) (hb1 : 1 ≤ b) (hb2 : b ≤ 64)
    (hi2 : i < 696) (hlp : ((i : Int) - 348) * 108853 / 32768 = lp) (hE : min 1074 (53 - (b : Int) - lp) = E) (hs : -(E - (64 - (b : Int)) + lp + 3) = s) (hs64 : 64 ≤ s)
    (hor : bits BinOp.or IntKind.u64 (sg : Int) 0 = (sg : Int))
    (c0 : w.cell? ⟨10, i * 2, none⟩ = some (.int .u64 hi)) (c1 : w.cell? ⟨10, i * 2 + 1, none⟩ = some (.int .u64 lo)) (hz : 10 < w.heap.size) :
    Calls Tryz.prog 285 #[.int .u64 d, .int .i64 ((i : Int) - 348), .int .u64 sg] w fun z w' => z = .returned (.tuple #[.float .f64 sg, .nilIface]) ∧ Below w.heap.size w w' := by
  have L1 : ∀ w, Calls Tryz.prog 223 #[.int .u64 (d : Int)] w fun e w' => e = .returned (.int .i64 (b : Int)) ∧ w' = w := fun w => by
    have := Tryz.bits_Len64 (d : Int) w (by omega) (by omega); rw [Int.toNat_natCast, hb] at this; exact this
  have L2 : ∀ w, Calls Tryz.prog 259 #[.int .i64 ((i : Int) - 348)] w fun e w' => e = .returned (.int .i64 lp) ∧ w' = w := fun w => by
    have := log2Pow10_any ((i : Int) - 348) w (by omega) (by omega); rw [hlp] at this; exact this
  have hlp1 : -1200 ≤ lp := by omega
  have hlp2 : lp ≤ 1200 := by omega
  have L3 := prescale_new hi lo i (E - (64 - (b : Int))) ((i : Int) - 348) lp w (by omega) (by omega) (by omega) (by omega) (by omega) hi2 c0 c1 hz
  have H1 := hide L1
  have H2 := hide L2
  rw [hs] at L3
  have H3 := hide L3
  have Hlp := hide hlp
  have Hs := hide hs
  have Hb := hide hb
  clear L1 L2 L3 hlp hs hb
  have hfb := frombits_run
  go_enter Tryz.func285, Tryz.ntmps285
  go_wp2_with fail
  refine (unhide H1 _).mono ?_
  rintro e w' ⟨rfl, rfl⟩
  go_wp2_with fail
  refine (unhide H2 _).mono ?_
  rintro e w' ⟨rfl, rfl⟩
  go_wp2_with fail
  refine (unhide H3).mono ?_
  rintro e w1 ⟨rfl, rfl⟩
  go_wp2_with fail
  go_ret2
  exact ⟨rfl, (Below.refl _ _).alloc (Nat.le_refl _) _⟩

theorem or0 (u : Nat) (h : u < 18446744073709551616) : bits BinOp.or IntKind.u64 (u : Int) 0 = (u : Int) := by
  have := u64_or_nat u 0 h (by omega); simpa using this

theorem parse64_any (d sg : Nat) (p : Int) (w : World) (ht : Tabs w) (hd : d < 18446744073709551616) (hd1 : 1 ≤ d) (hp1 : -348 ≤ p) (hp2 : p ≤ 347) (hsg : sg < 18446744073709551616) :
    Calls Tryz.prog 285 #[.int .u64 d, .int .i64 p, .int .u64 sg] w fun z w' => z = .returned (.tuple #[.float .f64 (parseN d p sg).1, errV (parseN d p sg).2 1]) ∧ Below w.heap.size w w' := by
  obtain ⟨i, hi⟩ : ∃ i : Nat, p = (i : Int) - 348 := ⟨(p + 348).toNat, by omega⟩
  have hi2 : i < 696 := by omega
  obtain ⟨q1, q2, q3, q4⟩ := bitLen_bounds d hd hd1
  have hx := shift_lt d _ q1 q2
  have hpi : (p + 348).toNat = i := by omega
  obtain ⟨l1, l2⟩ := pow_lt i hi2
  obtain ⟨c0, c1⟩ := ht.pow i hi2
  unfold parseN
  simp only [hpi]
  rw [hi]
  by_cases hs : 64 ≤ -(min 1074 (53 - (Lib.bitLen d : Int) - ((i : Int) - 348) * 108853 / 32768) - (64 - (Lib.bitLen d : Int)) + ((i : Int) - 348) * 108853 / 32768 + 3)
  · rw [if_pos hs]
    exact parse64_zero d _ i _ _ sg _ _ _ w hd rfl q4 q2 hi2 rfl rfl rfl hs (or0 sg hsg) c0 c1 ht.size
  · rw [if_neg hs]
    have hs8 : 8 ≤ -(min 1074 (53 - (Lib.bitLen d : Int) - ((i : Int) - 348) * 108853 / 32768) - (64 - (Lib.bitLen d : Int)) + ((i : Int) - 348) * 108853 / 32768 + 3) := by omega
    have hu := uscaleN_lt (d * 2 ^ (64 - Lib.bitLen d)) (powHi i) (powLo i) (-(min 1074 (53 - (Lib.bitLen d : Int) - ((i : Int) - 348) * 108853 / 32768) - (64 - (Lib.bitLen d : Int)) + ((i : Int) - 348) * 108853 / 32768 + 3)).toNat hx l1 (by omega)
    have hsn : -(min 1074 (53 - (Lib.bitLen d : Int) - ((i : Int) - 348) * 108853 / 32768) - (64 - (Lib.bitLen d : Int)) + ((i : Int) - 348) * 108853 / 32768 + 3) = (((-(min 1074 (53 - (Lib.bitLen d : Int) - ((i : Int) - 348) * 108853 / 32768) - (64 - (Lib.bitLen d : Int)) + ((i : Int) - 348) * 108853 / 32768 + 3)).toNat : Nat) : Int) := by omega
    generalize hS : (-(min 1074 (53 - (Lib.bitLen d : Int) - ((i : Int) - 348) * 108853 / 32768) - (64 - (Lib.bitLen d : Int)) + ((i : Int) - 348) * 108853 / 32768 + 3)).toNat = s at *
    have hs64 : s < 64 := by omega
    generalize huu : uscaleN (d * 2 ^ (64 - Lib.bitLen d)) (powHi i) (powLo i) s = u at *
    have ht2 : (decide ((36028797018963966 : Int) ≤ (u : Int))).toNat = (decide (36028797018963966 ≤ u)).toNat := by
      congr 1; by_cases h : 36028797018963966 ≤ u
      · simp [h]; omega
      · simp [h]; omega
    have htb : (decide (36028797018963966 ≤ u)).toNat ≤ 1 := Bool.toNat_le _
    generalize (decide (36028797018963966 ≤ u)).toNat = t at *
    have hv1 : u / 2 ^ t ≤ u := Nat.div_le_self _ _
    have hv := or1_le (u / 2 ^ t) (u % 2) (by omega)
    have hxx : IntKind.u64.wrap ((d : Int) * 2 ^ (64 - Lib.bitLen d)) = ((d * 2 ^ (64 - Lib.bitLen d) : Nat) : Int) := by
      rw [shl_nat, Nat.mod_eq_of_lt hx]
    have hr : (u / 2 ^ t ||| u % 2) < 18446744073709551000 := by omega
    have hm2 : sg ||| ((u / 2 ^ t ||| u % 2) + 1 + (u / 2 ^ t ||| u % 2) / 4 % 2) / 4 < 18446744073709551616 := Nat.or_lt_two_pow (n := 64) hsg (by omega)
    exact parse64_small d _ i _ _ sg _ s _ _ _ w hd rfl q4 q2 hi2 rfl rfl hsn hs64 hxx hx u t huu ht2 htb _ _ _ _ (shr_nat u t) (and1 u (by omega)) (u64_or_nat _ _ (by omega) (by omega)) hr rfl (u64_or_nat _ _ hsg (by omega)) hm2 l1 l2 c0 c1 ht.size
end Go.Proofs.YtgekdmjneogdoaaGreatDoor

namespace Go.Proofs.YtgekdmjneogdoaaGreatDoor
open Go.RowKit

set_option maxRecDepth 20000 in
set_option maxHeartbeats 400000 in
theorem div_core (u a b c d : Nat) (w : World) (h1 : (u : Int) / 10 = (a : Int)) (h2 : bits BinOp.and IntKind.u64 (u : Int) 1 = (b : Int)) (h3 : bits BinOp.or IntKind.u64 (a : Int) (b : Int) = (c : Int))
    (h4 : bits BinOp.or IntKind.u64 (c : Int) (((u : Int) % 10 != 0).toNat : Int) = (d : Int)) (h5 : IntKind.u64.wrap (a : Int) = (a : Int)) :
    Calls Tryz.prog 266 #[.int .u64 u, .int .u64 10] w fun e w' => e = .returned (.int .u64 d) ∧ ∃ n, w' = w.drewN n := by
  go_enter Tryz.func266, Tryz.ntmps266
  go_wp2_with fail
  go_quiet ((go_at_call 294; exact Calls.quiet_of_same (bool2r_any _ _)))
  go_wp2_with fail
  go_ret
  exact ⟨rfl, _, rfl⟩

def divN (u : Nat) : Nat := (u / 10 ||| u % 2) ||| (decide (u % 10 ≠ 0)).toNat

theorem divN_le (u : Nat) : divN u ≤ u / 10 + 2 := by
  unfold divN
  have h1 := or1_le (u / 10) (u % 2) (by omega)
  have h2 := or1_le (u / 10 ||| u % 2) (decide (u % 10 ≠ 0)).toNat (Bool.toNat_le _)
  omega

theorem div_any (u : Nat) (w : World) (hu : u < 18446744073709551616) :
    Calls Tryz.prog 266 #[.int .u64 u, .int .u64 10] w fun e w' => e = .returned (.int .u64 (divN u)) ∧ ∃ n, w' = w.drewN n := by
  have hb := or1_le (u / 10) (u % 2) (by omega)
  have e : (((u : Int) % 10 != 0).toNat : Int) = (((decide (u % 10 ≠ 0)).toNat : Nat) : Int) := by
    by_cases h : u % 10 = 0
    · have : ((u : Int) % 10 != 0) = false := by rw [bne_eq_false_iff_eq]; omega
      rw [this]; simp [h]
    · have : ((u : Int) % 10 != 0) = true := by rw [bne_iff_ne]; omega
      rw [this]; simp [h]
  have ht : (decide (u % 10 ≠ 0)).toNat ≤ 1 := Bool.toNat_le _
  exact div_core u (u / 10) (u % 2) (u / 10 ||| u % 2) (divN u) w (by omega) (and1 u hu) (u64_or_nat _ _ (by omega) (by omega)) (by rw [e]; exact u64_or_nat _ _ (by omega) (by omega)) (by rw [IntKind.wrap_u64]; omega)

set_option maxRecDepth 20000 in
set_option maxHeartbeats 1000000 in
theorem fixed_core (m n i hi lo s u t : Nat) (e p lp prec : Int) (w : World) (hm : m < 18446744073709551616) (hn1 : 1 ≤ n) (hn2 : n ≤ 18) (he1 : -1200 ≤ e) (he2 : e ≤ 1200)
    (hp : (n : Int) - 1 - (e + 63) * 78913 / 262144 = p) (hpi : p + 348 = (i : Int)) (hi2 : i < 696) (hlp : p * 108853 / 32768 = lp) (hs : -(e + lp + 3) = s) (hs64 : s < 64)
    (hu : uscaleN m hi lo s = u) (hub : u < 4611686018427387904) (ht1 : 1 ≤ t) (ht2 : t < 4611686018427387904) (hh : hi < 18446744073709551616) (hl : lo < 18446744073709551616)
    (c0 : w.cell? ⟨10, i * 2, none⟩ = some (.int .u64 hi)) (c1 : w.cell? ⟨10, i * 2 + 1, none⟩ = some (.int .u64 lo)) (hz : 10 < w.heap.size)
    (c2 : w.cell? ⟨6, n, none⟩ = some (.int .u64 t)) :
    Calls Tryz.prog 227 #[.int .u64 m, .int .i64 e, .int .i64 n, .int .i64 prec, .int .u8 101] w fun z w' =>
      z = .returned (.tuple (if 4 * t - 2 ≤ u then #[.int .u64 ((divN u + 1 + divN u / 4 % 2) / 4 : Nat), .int .i64 (-(p - 1))] else #[.int .u64 ((u + 1 + u / 4 % 2) / 4 : Nat), .int .i64 (-p)])) ∧ Below w.heap.size w w' := by
  have hp1 : -700 ≤ p := by omega
  have hp2 : p ≤ 700 := by omega
  have hlp1 : -2000 ≤ lp := by omega
  have hlp2 : lp ≤ 2000 := by omega
  have L1 := log10Pow2_any (e + 63) w (by omega) (by omega)
  have L2 := fun w => log2Pow10_any p w (by omega) (by omega)
  rw [hlp] at L2
  have L3 := prescale_new hi lo i e p lp w hpi (by omega) (by omega) (by omega) (by omega) hi2 c0 c1 hz
  rw [hs] at L3
  have hz7 : 6 < w.heap.size := by omega
  have d2 : ∀ o, (w.alloc o).cell? ⟨6, n, none⟩ = some (.int .u64 t) := fun o => by rw [World.cell?_alloc_past _ _ _ hz7]; exact c2
  have H1 := hide L1
  have H2 := hide L2
  have H3 := hide L3
  have Hs := hide hs
  have Hlp := hide hlp
  have Hpi := hide hpi
  clear L1 L2 L3 hs hlp hpi
  have HU : Hid (∀ w, Calls Tryz.prog 265 #[.int .u64 t] w fun e w' => e = .returned (.int .u64 (4 * t - 2 : Nat)) ∧ w' = w) := fun w => unmin_any t w ht2 ht1
  generalize 4 * t - 2 = t4 at *
  by_cases hbig : t4 ≤ u
  · have hb1 : (t4 : Int) ≤ (u : Int) := by omega
    have hdv := divN_le u
    rw [if_pos hbig]
    obtain ⟨r, hr⟩ : ∃ r, (divN u + 1 + divN u / 4 % 2) / 4 = r := ⟨_, rfl⟩
    rw [hr]
    have Hr := hide hr
    clear hr
    go_enter Tryz.func227, Tryz.ntmps227
    go_wp2_with fail
    refine (unhide H1).mono ?_
    rintro x w1 ⟨rfl, hw⟩; rw [hw]; clear hw w1
    go_wp2_with fail
    refine (unhide H2 _).mono ?_
    rintro x w1 ⟨rfl, hw⟩; rw [hw]; clear hw w1
    go_wp2_with fail
    refine (unhide H3).mono ?_
    rintro x w1 ⟨rfl, hw⟩; rw [hw]; clear hw w1
    go_wp2_with fail
    refine (uscale_any m hi lo s w.heap.size _ hm hh hl hs64 (by simp) (by simp) (by simp)).mono ?_
    rintro x w2 ⟨rfl, nn, rfl⟩
    rw [hu]
    go_wp2_with fail
    refine (unhide HU _).mono ?_
    rintro x w1 ⟨rfl, hw⟩; rw [hw]; clear hw w1
    go_wp2_with fail
    refine (div_any u _ (by omega)).mono ?_
    rintro x w3 ⟨rfl, n3, rfl⟩
    go_wp2_with fail
    refine (round_any (divN u) _ (by omega)).mono ?_
    rintro x w1 ⟨rfl, hw⟩; rw [hw]; clear hw w1
    rw [unhide Hr]
    go_wp2_with fail
    go_ret2
    exact ⟨rfl, below_drewN ((Below.refl _ _).alloc (Nat.le_refl _) _) _⟩
  · have hb1 : ¬ (t4 : Int) ≤ (u : Int) := by omega
    rw [if_neg hbig]
    obtain ⟨r, hr⟩ : ∃ r, (u + 1 + u / 4 % 2) / 4 = r := ⟨_, rfl⟩
    rw [hr]
    have Hr := hide hr
    clear hr
    go_enter Tryz.func227, Tryz.ntmps227
    go_wp2_with fail
    refine (unhide H1).mono ?_
    rintro x w1 ⟨rfl, hw⟩; rw [hw]; clear hw w1
    go_wp2_with fail
    refine (unhide H2 _).mono ?_
    rintro x w1 ⟨rfl, hw⟩; rw [hw]; clear hw w1
    go_wp2_with fail
    refine (unhide H3).mono ?_
    rintro x w1 ⟨rfl, hw⟩; rw [hw]; clear hw w1
    go_wp2_with fail
    refine (uscale_any m hi lo s w.heap.size _ hm hh hl hs64 (by simp) (by simp) (by simp)).mono ?_
    rintro x w2 ⟨rfl, nn, rfl⟩
    rw [hu]
    go_wp2_with fail
    refine (unhide HU _).mono ?_
    rintro x w1 ⟨rfl, hw⟩; rw [hw]; clear hw w1
    go_wp2_with fail
    refine (round_any u _ (by omega)).mono ?_
    rintro x w1 ⟨rfl, hw⟩; rw [hw]; clear hw w1
    rw [unhide Hr]
    go_wp2_with fail
    go_ret2
    exact ⟨rfl, below_drewN ((Below.refl _ _).alloc (Nat.le_refl _) _) _⟩
end Go.Proofs.YtgekdmjneogdoaaGreatDoor

namespace Go.Proofs.YtgekdmjneogdoaaGreatDoor
open Go.RowKit

set_option maxRecDepth 20000 in
set_option maxHeartbeats 400000 in
theorem special_digit (s : ByteArray) (w : World) (h0 : 0 < s.size) (hm : s.size ≤ 9223372036854775807) (c1 : 48 ≤ (s[0].toNat : Int)) (c2 : (s[0].toNat : Int) ≤ 57) :
    Calls Tryz.prog 273 #[.string s] w fun e w' => e = .returned (.tuple #[.float .f64 0, .int .i64 0, .bool false]) ∧ w' = w := by
  go_enter Tryz.func273, Tryz.ntmps273
  go_wp2_with fail
  go_ret3
  exact ⟨rfl, rfl⟩

set_option maxRecDepth 20000 in
set_option maxHeartbeats 400000 in
theorem common_digit (s : ByteArray) (w : World) (h0 : 0 < s.size) (hm : s.size ≤ 9223372036854775807) (c1 : 48 ≤ (s[0].toNat : Int)) (c2 : (s[0].toNat : Int) ≤ 57) :
    Calls Tryz.prog 296 #[.string s, .string ⟨#[105, 110, 102, 105, 110, 105, 116, 121]⟩] w fun e w' => e = .returned (.int .i64 0) ∧ w' = w := by
  go_enter Tryz.func296, Tryz.ntmps296
  have hmin : (0 : Int) < min 8 (s.size : Int) := by omega
  have hc : ((({ data := #[105, 110, 102, 105, 110, 105, 116, 121] } : ByteArray)[0]'(by decide)).toNat : Int) = 105 := rfl
  have hne : ((s[0].toNat : Int) != ((({ data := #[105, 110, 102, 105, 110, 105, 116, 121] } : ByteArray)[0]'(by decide)).toNat : Int)) = true := by rw [hc, bne_iff_ne]; omega
  clear hc
  go_wp2_with fail
  refine wp_loop_rounds 1 ?_
  rw [rounds_succ]
  go_wp2_with fail
  go_ret
  exact ⟨rfl, rfl⟩

set_option maxRecDepth 20000 in
set_option maxHeartbeats 400000 in
theorem special_minus (s : ByteArray) (w : World) (h0 : 1 < s.size) (hm : s.size ≤ 9223372036854775807) (c0 : (s[0].toNat : Int) = 45) (c1 : 48 ≤ (s[1].toNat : Int)) (c2 : (s[1].toNat : Int) ≤ 57) :
    Calls Tryz.prog 273 #[.string s] w fun e w' => e = .returned (.tuple #[.float .f64 0, .int .i64 0, .bool false]) ∧ w' = w := by
  have e1 : 0 < (s.extract 1 s.size).size := by rw [ByteArray.size_extract]; omega
  have e2 : (s.extract 1 s.size)[0] = s[1] := by rw [ByteArray.getElem_extract]
  have L1 := common_digit (s.extract 1 s.size) w e1 (by rw [ByteArray.size_extract]; omega) (by rw [e2]; exact c1) (by rw [e2]; exact c2)
  have H1 := hide L1
  clear L1 e1 e2
  go_enter Tryz.func273, Tryz.ntmps273
  go_wp2_with fail
  refine (unhide H1).mono ?_
  rintro e w' ⟨rfl, rfl⟩
  go_wp2_with fail
  go_ret3
  exact ⟨rfl, rfl⟩
end Go.Proofs.YtgekdmjneogdoaaGreatDoor
