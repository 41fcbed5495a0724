import Derived.Test.YtgekdmjneogdoaaGreatDoorXLeaf
import Derived.WalkSmall
namespace Go.Proofs.YtgekdmjneogdoaaGreatDoor
open Go.RowKit

theorem bit52 (m : Nat) (h : m < 18446744073709551616) : bits BinOp.and IntKind.u64 (m : Int) 4503599627370496 = ((m / 4503599627370496 % 2 * 4503599627370496 : Nat) : Int) := by
  have := u64_and_nat m 4503599627370496 h (by omega); rw [show (4503599627370496 : Nat) = 2 ^ 52 from rfl, nat_bit] at this; exact this
theorem bit63 (m : Nat) (h : m < 18446744073709551616) : bits BinOp.and IntKind.u64 (m : Int) 9223372036854775808 = ((m / 9223372036854775808 * 9223372036854775808 : Nat) : Int) := by
  have := u64_and_nat m 9223372036854775808 h (by omega); rw [show (9223372036854775808 : Nat) = 2 ^ 63 from rfl, nat_bit] at this
  rw [Nat.mod_eq_of_lt (show m / 2 ^ 63 < 2 by omega)] at this; exact this

theorem or_inf (q : Nat) (h : q < 18446744073709551616) : bits BinOp.or IntKind.u64 (q : Int) 9218868437227405312 = ((q ||| 9218868437227405312 : Nat) : Int) := by
  have := u64_or_nat q 9218868437227405312 h (by omega)
  simp only [Int.cast_ofNat_Int] at this; exact this
theorem andNot52 (m : Nat) (h : m < 18446744073709551616) : bits BinOp.andNot IntKind.u64 (m : Int) 4503599627370496 = ((m &&& 18442240474082181119 : Nat) : Int) := by
  have := u64_andNot_nat m 4503599627370496 h (by omega)
  simp only [Int.cast_ofNat_Int, Nat.reduceSub] at this; exact this

/-- what pack64 gives: the bits, and whether there is an error -/
def pk64N (m : Nat) (e : Int) : Nat × Bool :=
  if m / 4503599627370496 % 2 = 0 then (m, false)
  else if 972 ≤ e then ((m / 9223372036854775808 * 9223372036854775808) ||| 9218868437227405312, true)
  else ((m &&& 18442240474082181119) ||| ((1075 + e).toNat * 4503599627370496 % 18446744073709551616), false)

def errV (b : Bool) (n : Int) : Value := if b then .iface 247 (.int .i64 n) else .nilIface

theorem frombits_run (n : Int) (w : World) : Sem.run Tryz.prog (callFunc 283 #[.int .u64 n]) w = .ok (.value (.float .f64 n.toNat)) w := by kernel_rfl

set_option maxRecDepth 20000 in
set_option maxHeartbeats 400000 in
theorem pack64_a (m : Nat) (e : Int) (w : World) (hb : bits BinOp.and IntKind.u64 (m : Int) 4503599627370496 = 0) :
    Calls Tryz.prog 301 #[.int .u64 m, .int .i64 e] w fun r w' => r = .returned (.tuple #[.float .f64 m, .nilIface]) ∧ w' = w := by
  have hfb := frombits_run
  go_enter Tryz.func301, Tryz.ntmps301
  go_wp2
  go_ret2
  exact ⟨rfl, rfl⟩

set_option maxRecDepth 20000 in
set_option maxHeartbeats 400000 in
theorem pack64_b (m q r : Nat) (e : Int) (w : World) (hb : bits BinOp.and IntKind.u64 (m : Int) 4503599627370496 = 4503599627370496) (h3 : 972 ≤ e)
    (hb2 : bits BinOp.and IntKind.u64 (m : Int) 9223372036854775808 = (q : Int)) (ho : bits BinOp.or IntKind.u64 (q : Int) 9218868437227405312 = (r : Int)) :
    Calls Tryz.prog 301 #[.int .u64 m, .int .i64 e] w fun x w' => x = .returned (.tuple #[.float .f64 r, .iface 247 (.int .i64 1)]) ∧ w' = w := by
  have hfb := frombits_run
  go_enter Tryz.func301, Tryz.ntmps301
  go_wp2
  go_ret2
  exact ⟨rfl, rfl⟩

set_option maxRecDepth 20000 in
set_option maxHeartbeats 400000 in
theorem pack64_c (m q x r : Nat) (e : Int) (w : World) (hb : bits BinOp.and IntKind.u64 (m : Int) 4503599627370496 = 4503599627370496) (h2 : -1075 ≤ e) (h3 : e < 972)
    (hq : bits BinOp.andNot IntKind.u64 (m : Int) 4503599627370496 = (q : Int)) (hk : IntKind.u64.wrap ((1075 + e) * 4503599627370496) = (x : Int)) (ho : bits BinOp.or IntKind.u64 (q : Int) (x : Int) = (r : Int)) :
    Calls Tryz.prog 301 #[.int .u64 m, .int .i64 e] w fun x w' => x = .returned (.tuple #[.float .f64 r, .nilIface]) ∧ w' = w := by
  have hfb := frombits_run
  go_enter Tryz.func301, Tryz.ntmps301
  go_wp2
  go_ret2
  exact ⟨rfl, rfl⟩

theorem pack64_any (m : Nat) (e : Int) (w : World) (h1 : m < 18446744073709551616) (h2 : -1075 ≤ e) (h3 : e ≤ 3000) :
    Calls Tryz.prog 301 #[.int .u64 m, .int .i64 e] w fun r w' => r = .returned (.tuple #[.float .f64 (pk64N m e).1, errV (pk64N m e).2 1]) ∧ w' = w := by
  have hb := bit52 m h1
  unfold pk64N
  by_cases c1 : m / 4503599627370496 % 2 = 0
  · rw [if_pos c1]
    rw [c1, Nat.zero_mul] at hb
    exact pack64_a m e w hb
  · rw [if_neg c1]
    have c2 : m / 4503599627370496 % 2 = 1 := by omega
    rw [c2, Nat.one_mul, Int.cast_ofNat_Int] at hb
    by_cases c3 : 972 ≤ e
    · rw [if_pos c3]
      exact pack64_b m _ _ e w hb c3 (bit63 m h1) (or_inf _ (by omega))
    · rw [if_neg c3]
      have hq2 : m &&& 18442240474082181119 ≤ m := Nat.and_le_left
      exact pack64_c m _ _ _ e w hb h2 (by omega) (andNot52 m h1) (by rw [IntKind.wrap_u64]; omega) (u64_or_nat _ _ (by omega) (by omega))

set_option maxRecDepth 20000 in
set_option maxHeartbeats 400000 in
theorem prescale_new (hi lo i : Nat) (e p lp : Int) (w : World) (hi0 : p + 348 = (i : Int)) (g1 : -2000 ≤ e) (g2 : e ≤ 2000)  (g3 : -2000 ≤ lp) (g4 : lp ≤ 2000) (hi2 : i < 696)
    (c0 : w.cell? ⟨10, i * 2, none⟩ = some (.int .u64 hi)) (c1 : w.cell? ⟨10, i * 2 + 1, none⟩ = some (.int .u64 lo)) (hz : 10 < w.heap.size) :
    Calls Tryz.prog 258 #[.pointer (some ⟨w.heap.size, 0, none⟩), .int .i64 e, .int .i64 p, .int .i64 lp] (w.alloc (.cells #[.int .u64 0, .int .u64 0, .int .i64 0] 327)) fun x w' => x = .returned (.tuple #[]) ∧ w' = w.alloc (.cells #[.int .u64 hi, .int .u64 lo, .int .i64 (-(e + lp + 3))] 327) := by
  have hp : p = (i : Int) - 348 := by omega
  subst hp
  clear hi0
  have hne : ¬ (10 = w.heap.size) := by omega
  have d0 : ∀ o, (w.alloc o).cell? ⟨10, i * 2, none⟩ = some (.int .u64 hi) := fun o => by rw [World.cell?_alloc_past _ _ _ hz]; exact c0
  have d1 : ∀ o, (w.alloc o).cell? ⟨10, i * 2 + 1, none⟩ = some (.int .u64 lo) := fun o => by rw [World.cell?_alloc_past _ _ _ hz]; exact c1
  go_enter Tryz.func258, Tryz.ntmps258
  go_wp2
  go_end0
  exact ⟨rfl, rfl⟩

set_option maxRecDepth 20000 in
set_option maxHeartbeats 800000 in
theorem parse64_small (d b i hi lo sg x s m : Nat) (lp E : Int) (w : World) (hd : d < 18446744073709551616) (hb : Lib.bitLen d = b) (hb1 : 1 ≤ b) (hb2 : b ≤ 64)
    (hi2 : i < 696) (hlp : ((i : Int) - 348) * 108853 / 32768 = lp) (hE : min 1074 (53 - (b : Int) - lp) = E) (hs : -(E - (64 - (b : Int)) + lp + 3) = s) (hs64 : s < 64)
    (hx : IntKind.u64.wrap ((d : Int) * 2 ^ (64 - b)) = (x : Int)) (hx2 : x < 18446744073709551616) (u t : Nat) (hu : uscaleN x hi lo s = u) (ht : (decide ((36028797018963966 : Int) ≤ (u : Int))).toNat = t) (ht1 : t ≤ 1) (v1 v2 v r : Nat) (hv1 : (u : Int) / 2 ^ t = (v1 : Int)) (hv2 : bits BinOp.and IntKind.u64 (u : Int) 1 = (v2 : Int)) (hv : bits BinOp.or IntKind.u64 (v1 : Int) (v2 : Int) = (v : Int)) (hvb : v < 18446744073709551000) (hr : (v + 1 + v / 4 % 2) / 4 = r) (hm : bits BinOp.or IntKind.u64 (sg : Int) (r : Int) = (m : Int)) (hmb : m < 18446744073709551616) (hh : hi < 18446744073709551616) (hl : lo < 18446744073709551616)
    (c0 : w.cell? ⟨10, i * 2, none⟩ = some (.int .u64 hi)) (c1 : w.cell? ⟨10, i * 2 + 1, none⟩ = some (.int .u64 lo)) (hz : 10 < w.heap.size) :
    Calls Tryz.prog 285 #[.int .u64 d, .int .i64 ((i : Int) - 348), .int .u64 sg] w fun z w' => z = .returned (.tuple #[.float .f64 (pk64N m (-(E - t))).1, errV (pk64N m (-(E - t))).2 1]) ∧ Below w.heap.size w w' := by
  have L1 : ∀ w, Calls Tryz.prog 223 #[.int .u64 (d : Int)] w fun e w' => e = .returned (.int .i64 (b : Int)) ∧ w' = w := fun w => by
    have := Tryz.bits_Len64 (d : Int) w (by omega) (by omega); rw [Int.toNat_natCast, hb] at this; exact this
  have L2 : ∀ w, Calls Tryz.prog 259 #[.int .i64 ((i : Int) - 348)] w fun e w' => e = .returned (.int .i64 lp) ∧ w' = w := fun w => by
    have := log2Pow10_any ((i : Int) - 348) w (by omega) (by omega); rw [hlp] at this; exact this
  have hlp1 : -1200 ≤ lp := by omega
  have hlp2 : lp ≤ 1200 := by omega
  have L3 := prescale_new hi lo i (E - (64 - (b : Int))) ((i : Int) - 348) lp w (by omega) (by omega) (by omega) (by omega) (by omega) hi2 c0 c1 hz
  have H1 := hide L1
  have H2 := hide L2
  rw [hs] at L3
  have H3 := hide L3
  have Hlp := hide hlp
  have Hs := hide hs
  have Hb := hide hb
  clear L1 L2 L3 hlp hs hb
  go_enter Tryz.func285, Tryz.ntmps285
  go_wp2_with fail
  refine (unhide H1 _).mono ?_
  rintro e w' ⟨rfl, rfl⟩
  go_wp2_with fail
  refine (unhide H2 _).mono ?_
  rintro e w' ⟨rfl, rfl⟩
  go_wp2_with fail
  refine (unhide H3).mono ?_
  rintro e w1 ⟨rfl, rfl⟩
  go_wp2_with fail
  refine (uscale_any x hi lo s w'.heap.size _ hx2 hh hl hs64 (by simp) (by simp) (by simp)).mono ?_
  rintro e w2 ⟨rfl, n, rfl⟩
  rw [hu]
  go_wp2_with fail
  refine (unmin_any 9007199254740992 _ (by omega) (by omega)).mono ?_
  rintro e w3 ⟨rfl, rfl⟩
  go_wp2_with fail
  refine (bool2i_any _ _).mono ?_
  rintro e w4 ⟨rfl, rfl⟩
  rw [ht]
  go_wp2_with fail
  refine (round_any v _ hvb).mono ?_
  rintro e w5 ⟨rfl, rfl⟩
  rw [hr]
  go_wp2_with fail
  refine (pack64_any m _ _ hmb (by omega) (by omega)).mono ?_
  rintro e w6 ⟨rfl, rfl⟩
  go_wp2_with fail
  go_ret2
  exact ⟨rfl, below_drewN ((Below.refl _ _).alloc (Nat.le_refl _) _) _⟩


end Go.Proofs.YtgekdmjneogdoaaGreatDoor
