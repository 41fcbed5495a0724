import Derived.Test.YtgekdmjneogdoabGreatDoorHTabs
namespace Go.Proofs.YtgekdmjneogdoabGreatDoor
open Go.RowKit

set_option maxRecDepth 20000 in
set_option maxHeartbeats 800000 in
theorem parse64_zero (d b i hi lo sg : Nat) (s lp E : Int) (w : World) (hd : d < 18446744073709551616) (hb : Lib.bitLen d = b) (hb1 : 1 ≤ b) (hb2 : b ≤ 64)
    (hi2 : i < 696) (hlp : ((i : Int) - 348) * 108853 / 32768 = lp) (hE : min 1074 (53 - (b : Int) - lp) = E) (hs : -(E - (64 - (b : Int)) + lp + 3) = s) (hs64 : 64 ≤ s)
    (hor : bits BinOp.or IntKind.u64 (sg : Int) 0 = (sg : Int))
    (c0 : w.cell? ⟨10, i * 2, none⟩ = some (.int .u64 hi)) (c1 : w.cell? ⟨10, i * 2 + 1, none⟩ = some (.int .u64 lo)) (hz : 10 < w.heap.size) :
    Calls Tryz.prog 275 #[.int .u64 d, .int .i64 ((i : Int) - 348), .int .u64 sg] w fun z w' => z = .returned (.tuple #[.float .f64 sg, .nilIface]) ∧ Below w.heap.size w w' := by
  have L1 : ∀ w, Calls Tryz.prog 205 #[.int .u64 (d : Int)] w fun e w' => e = .returned (.int .i64 (b : Int)) ∧ w' = w := fun w => by
    have := Tryz.bits_Len64 (d : Int) w (by omega) (by omega); rw [Int.toNat_natCast, hb] at this; exact this
  have L2 : ∀ w, Calls Tryz.prog 244 #[.int .i64 ((i : Int) - 348)] w fun e w' => e = .returned (.int .i64 lp) ∧ w' = w := fun w => by
    have := log2Pow10_any ((i : Int) - 348) w (by omega) (by omega); rw [hlp] at this; exact this
  have hlp1 : -1200 ≤ lp := by omega
  have hlp2 : lp ≤ 1200 := by omega
  have L3 := prescale_new hi lo i (E - (64 - (b : Int))) ((i : Int) - 348) lp w (by omega) (by omega) (by omega) (by omega) (by omega) hi2 c0 c1 hz
  have H1 := hide L1
  have H2 := hide L2
  rw [hs] at L3
  have H3 := hide L3
  have Hlp := hide hlp
  have Hs := hide hs
  have Hb := hide hb
  clear L1 L2 L3 hlp hs hb
  have hfb := frombits_run
  go_enter Tryz.func275, Tryz.ntmps275
  go_wp2_with fail
  refine (unhide H1 _).mono ?_
  rintro e w' ⟨rfl, rfl⟩
  go_wp2_with fail
  refine (unhide H2 _).mono ?_
  rintro e w' ⟨rfl, rfl⟩
  go_wp2_with fail
  refine (unhide H3).mono ?_
  rintro e w1 ⟨rfl, rfl⟩
  go_wp2_with fail
  go_ret2
  exact ⟨rfl, (Below.refl _ _).alloc (Nat.le_refl _) _⟩

theorem or0 (u : Nat) (h : u < 18446744073709551616) : bits BinOp.or IntKind.u64 (u : Int) 0 = (u : Int) := by
  have := u64_or_nat u 0 h (by omega); simpa using this

theorem parse64_any (d sg : Nat) (p : Int) (w : World) (ht : Tabs w) (hd : d < 18446744073709551616) (hd1 : 1 ≤ d) (hp1 : -348 ≤ p) (hp2 : p ≤ 347) (hsg : sg < 18446744073709551616) :
    Calls Tryz.prog 275 #[.int .u64 d, .int .i64 p, .int .u64 sg] w fun z w' => z = .returned (.tuple #[.float .f64 (parseN d p sg).1, errV (parseN d p sg).2 1]) ∧ Below w.heap.size w w' := by
  obtain ⟨i, hi⟩ : ∃ i : Nat, p = (i : Int) - 348 := ⟨(p + 348).toNat, by omega⟩
  have hi2 : i < 696 := by omega
  obtain ⟨q1, q2, q3, q4⟩ := bitLen_bounds d hd hd1
  have hx := shift_lt d _ q1 q2
  have hpi : (p + 348).toNat = i := by omega
  obtain ⟨l1, l2⟩ := pow_lt i hi2
  obtain ⟨c0, c1⟩ := ht.pow i hi2
  unfold parseN
  simp only [hpi]
  rw [hi]
  by_cases hs : 64 ≤ -(min 1074 (53 - (Lib.bitLen d : Int) - ((i : Int) - 348) * 108853 / 32768) - (64 - (Lib.bitLen d : Int)) + ((i : Int) - 348) * 108853 / 32768 + 3)
  · rw [if_pos hs]
    exact parse64_zero d _ i _ _ sg _ _ _ w hd rfl q4 q2 hi2 rfl rfl rfl hs (or0 sg hsg) c0 c1 ht.size
  · rw [if_neg hs]
    have hs8 : 8 ≤ -(min 1074 (53 - (Lib.bitLen d : Int) - ((i : Int) - 348) * 108853 / 32768) - (64 - (Lib.bitLen d : Int)) + ((i : Int) - 348) * 108853 / 32768 + 3) := by omega
    have hu := uscaleN_lt (d * 2 ^ (64 - Lib.bitLen d)) (powHi i) (powLo i) (-(min 1074 (53 - (Lib.bitLen d : Int) - ((i : Int) - 348) * 108853 / 32768) - (64 - (Lib.bitLen d : Int)) + ((i : Int) - 348) * 108853 / 32768 + 3)).toNat hx l1 (by omega)
    have hsn : -(min 1074 (53 - (Lib.bitLen d : Int) - ((i : Int) - 348) * 108853 / 32768) - (64 - (Lib.bitLen d : Int)) + ((i : Int) - 348) * 108853 / 32768 + 3) = (((-(min 1074 (53 - (Lib.bitLen d : Int) - ((i : Int) - 348) * 108853 / 32768) - (64 - (Lib.bitLen d : Int)) + ((i : Int) - 348) * 108853 / 32768 + 3)).toNat : Nat) : Int) := by omega
    generalize hS : (-(min 1074 (53 - (Lib.bitLen d : Int) - ((i : Int) - 348) * 108853 / 32768) - (64 - (Lib.bitLen d : Int)) + ((i : Int) - 348) * 108853 / 32768 + 3)).toNat = s at *
    have hs64 : s < 64 := by omega
    generalize huu : uscaleN (d * 2 ^ (64 - Lib.bitLen d)) (powHi i) (powLo i) s = u at *
    have ht2 : (decide ((36028797018963966 : Int) ≤ (u : Int))).toNat = (decide (36028797018963966 ≤ u)).toNat := by
      congr 1; by_cases h : 36028797018963966 ≤ u
      · simp [h]; omega
      · simp [h]; omega
    have htb : (decide (36028797018963966 ≤ u)).toNat ≤ 1 := Bool.toNat_le _
    generalize (decide (36028797018963966 ≤ u)).toNat = t at *
    have hv1 : u / 2 ^ t ≤ u := Nat.div_le_self _ _
    have hv := or1_le (u / 2 ^ t) (u % 2) (by omega)
    have hxx : IntKind.u64.wrap ((d : Int) * 2 ^ (64 - Lib.bitLen d)) = ((d * 2 ^ (64 - Lib.bitLen d) : Nat) : Int) := by
      rw [shl_nat, Nat.mod_eq_of_lt hx]
    have hr : (u / 2 ^ t ||| u % 2) < 18446744073709551000 := by omega
    have hm2 : sg ||| ((u / 2 ^ t ||| u % 2) + 1 + (u / 2 ^ t ||| u % 2) / 4 % 2) / 4 < 18446744073709551616 := Nat.or_lt_two_pow (n := 64) hsg (by omega)
    exact parse64_small d _ i _ _ sg _ s _ _ _ w hd rfl q4 q2 hi2 rfl rfl hsn hs64 hxx hx u t huu ht2 htb _ _ _ _ (shr_nat u t) (and1 u (by omega)) (u64_or_nat _ _ (by omega) (by omega)) hr rfl (u64_or_nat _ _ hsg (by omega)) hm2 l1 l2 c0 c1 ht.size
end Go.Proofs.YtgekdmjneogdoabGreatDoor
