import Derived.Test.YtgekdmjneogdoaaGreatDoorXLaws
import Derived.Test.YtgekdmjneogdoaaGreatDoorXShelf
import Derived.Test.YtgekdmjneogdoaaGreatDoorProg
import Derived.WalkKit
import Derived.WalkSpells
import Derived.WalkLawsBesides
import Derived.BigQuiet
import Derived.Deep.QuietTactic
import Derived.Deep.DeepFit
namespace Go.Proofs.YtgekdmjneogdoaaGreatDoor
open Go.RowKit

set_option maxHeartbeats 400000 in
theorem bool2u_any (b : Bool) (w : World) :
    Calls Tryz.prog 282 #[.bool b] w fun e w' => e = .returned (.int .u64 (b.toNat : Int)) ∧ w' = w := by
  cases b
  all_goals
    go_enter Tryz.func282, Tryz.ntmps282
    go_wp2
    go_ret
    exact ⟨rfl, rfl⟩

set_option maxHeartbeats 400000 in
theorem bool2r_any (b : Bool) (w : World) :
    Calls Tryz.prog 294 #[.bool b] w fun e w' => e = .returned (.int .u64 (b.toNat : Int)) ∧ w' = w := by
  cases b
  all_goals
    go_enter Tryz.func294, Tryz.ntmps294
    go_wp2
    go_ret
    exact ⟨rfl, rfl⟩

set_option maxHeartbeats 400000 in
theorem bool2i_any (b : Bool) (w : World) :
    Calls Tryz.prog 252 #[.bool b] w fun e w' => e = .returned (.int .i64 (b.toNat : Int)) ∧ w' = w := by
  cases b
  all_goals
    go_enter Tryz.func252, Tryz.ntmps252
    go_wp2
    go_ret
    exact ⟨rfl, rfl⟩

set_option maxHeartbeats 400000 in
theorem log2Pow10_any (x : Int) (w : World) (h1 : -1000 ≤ x) (h2 : x ≤ 1000) :
    Calls Tryz.prog 259 #[.int .i64 x] w fun e w' => e = .returned (.int .i64 (x * 108853 / 32768)) ∧ w' = w := by
  go_enter Tryz.func259, Tryz.ntmps259
  go_wp2
  go_ret
  exact ⟨rfl, rfl⟩

set_option maxHeartbeats 400000 in
theorem log10Pow2_any (x : Int) (w : World) (h1 : -2000 ≤ x) (h2 : x ≤ 2000) :
    Calls Tryz.prog 226 #[.int .i64 x] w fun e w' => e = .returned (.int .i64 (x * 78913 / 262144)) ∧ w' = w := by
  go_enter Tryz.func226, Tryz.ntmps226
  go_wp2
  go_ret
  exact ⟨rfl, rfl⟩

set_option maxHeartbeats 400000 in
theorem round_any (u : Nat) (w : World) (h1 : u < 18446744073709551000) :
    Calls Tryz.prog 264 #[.int .u64 u] w fun e w' => e = .returned (.int .u64 ((u + 1 + u / 4 % 2) / 4 : Nat)) ∧ w' = w := by
  have hb : bits BinOp.and IntKind.u64 ((u : Int) / 4) 1 = ((u / 4 % 2 : Nat) : Int) := by
    have := and1 (u / 4) (by omega); simpa using this
  go_enter Tryz.func264, Tryz.ntmps264
  go_wp2
  go_ret
  refine ⟨retU ?_, rfl⟩
  omega

set_option maxHeartbeats 400000 in
theorem unmin_any (u : Nat) (w : World) (h1 : u < 4611686018427387904) (h2 : 1 ≤ u) :
    Calls Tryz.prog 265 #[.int .u64 u] w fun e w' => e = .returned (.int .u64 (4 * u - 2 : Nat)) ∧ w' = w := by
  go_enter Tryz.func265, Tryz.ntmps265
  go_wp2
  go_ret
  refine ⟨retU ?_, rfl⟩
  omega

/-- what uscale gives -/
def uscaleN (x hi lo s : Nat) : Nat :=
  if x * hi / 18446744073709551616 / 2 ^ s * 2 ^ s != x * hi / 18446744073709551616 then
    (x * hi / 18446744073709551616 / 2 ^ s) ||| 1
  else
    ((x * hi / 18446744073709551616 + 18446744073709551616 - (decide (x * hi % 18446744073709551616 < x * lo / 18446744073709551616)).toNat) % 18446744073709551616 / 2 ^ s)
      ||| (decide (1 < (x * hi % 18446744073709551616 + 18446744073709551616 - x * lo / 18446744073709551616) % 18446744073709551616)).toNat

set_option maxHeartbeats 400000 in
theorem uscale_any (x hi lo s b : Nat) (w : World) (hx : x < 18446744073709551616) (hh : hi < 18446744073709551616) (hl : lo < 18446744073709551616) (hs : s < 64)
    (c0 : w.cell? ⟨b, 0, none⟩ = some (.int .u64 hi)) (c1 : w.cell? ⟨b, 1, none⟩ = some (.int .u64 lo)) (c2 : w.cell? ⟨b, 2, none⟩ = some (.int .i64 s)) :
    Calls Tryz.prog 260 #[.int .u64 x, .pointer (some ⟨b, 0, none⟩)] w fun e w' => e = .returned (.int .u64 (uscaleN x hi lo s : Nat)) ∧ ∃ n, w' = w.drewN n := by
  have m1 := Tryz.bits_Mul64 x hi hx hh w
  have m2 := Tryz.bits_Mul64 x lo hx hl w
  have b1 : x * hi / 18446744073709551616 < 18446744073709551616 := by
    have : x * hi < 18446744073709551616 * 18446744073709551616 := Nat.mul_lt_mul'' hx hh
    omega
  have b2 : x * lo / 18446744073709551616 < 18446744073709551616 := by
    have : x * lo < 18446744073709551616 * 18446744073709551616 := Nat.mul_lt_mul'' hx hl
    omega
  have b3 : x * hi % 18446744073709551616 < 18446744073709551616 := by omega
  unfold uscaleN
  generalize x * hi / 18446744073709551616 = ph at *
  generalize x * hi % 18446744073709551616 = pm at *
  generalize x * lo / 18446744073709551616 = ql at *
  generalize x * lo % 18446744073709551616 = qm at *
  have M1 := hide m1
  have M2 := hide m2
  clear m1 m2
  have hand := i64_and63 s hs
  have hsr := shr_nat ph s
  have hps : ph / 2 ^ s ≤ ph := Nat.div_le_self _ _
  have hpt : ph / 2 ^ s * 2 ^ s ≤ ph := Nat.div_mul_le_self _ _
  have hsl := shl_nat (ph / 2 ^ s) s
  rw [Nat.mod_eq_of_lt (by omega)] at hsl
  generalize ph / 2 ^ s = ps at *
  generalize ps * 2 ^ s = pt at *
  by_cases hne : pt = ph
  · subst hne
    have hd : ((pt : Int) != (pt : Int)) = false := by simp
    have hd2 : (pt != pt) = false := by simp
    rw [if_neg (by simp)]
    clear hd2 hpt
    have hw1 : IntKind.u64.wrap ((pt : Int) - ((decide (pm < ql)).toNat : Int)) = (((pt + 18446744073709551616 - (decide (pm < ql)).toNat) % 18446744073709551616 : Nat) : Int) := by
      have : (decide (pm < ql)).toNat ≤ 1 := Bool.toNat_le _
      rw [IntKind.wrap_u64]; omega
    have hw2 : IntKind.u64.wrap ((pm : Int) - (ql : Int)) = (((pm + 18446744073709551616 - ql) % 18446744073709551616 : Nat) : Int) := by
      rw [IntKind.wrap_u64]; omega
    have lt1 : (pt + 18446744073709551616 - (decide (pm < ql)).toNat) % 18446744073709551616 < 18446744073709551616 := Nat.mod_lt _ (by omega)
    have lt2 : (pm + 18446744073709551616 - ql) % 18446744073709551616 < 18446744073709551616 := Nat.mod_lt _ (by omega)
    generalize hbb : (decide (pm < ql)) = bb at *
    generalize (pt + 18446744073709551616 - bb.toNat) % 18446744073709551616 = pu at *
    generalize (pm + 18446744073709551616 - ql) % 18446744073709551616 = pv at *
    have hsr2 := shr_nat pu s
    have hps : pu / 2 ^ s ≤ pu := Nat.div_le_self _ _
    generalize pu / 2 ^ s = pw at *
    generalize hbv : (decide (1 < pv)) = bv at *
    have ho : bits BinOp.or IntKind.u64 (pw : Int) (bv.toNat : Int) = ((pw ||| bv.toNat : Nat) : Int) := u64_or_nat pw bv.toNat (by omega) (by have : bv.toNat ≤ 1 := Bool.toNat_le _; omega)
    generalize (pw ||| bv.toNat) = po at *
    go_enter Tryz.func260, Tryz.ntmps260
    go_wp2_with fail
    refine (unhide M1).mono ?_
    rintro e w' ⟨rfl, rfl⟩
    go_wp2_with fail
    refine (unhide M2).mono ?_
    rintro e w' ⟨rfl, rfl⟩
    go_wp2_with (go_at_call 282; refine (bool2u_any _ _).mono ?_; rintro e w' ⟨rfl, rfl⟩)
    go_quiet ((go_at_call 282; exact Calls.quiet_of_same (bool2u_any _ _)))
    go_wp2_with fail
    go_ret
    refine ⟨retU ?_, _, rfl⟩
    have e1 : decide ((1 : Int) < (pv : Int)) = bv := by
      rw [← hbv]; by_cases h : 1 < pv
      · simp [h]; omega
      · simp [h]; omega
    rw [e1]; exact ho
  · have hd : ((pt : Int) != (ph : Int)) = true := by simp; omega
    have hd2 : (pt != ph) = true := by simp; omega
    rw [if_pos hd2]
    have ho := or1 ps (by omega)
    generalize (ps ||| 1) = po at *
    go_enter Tryz.func260, Tryz.ntmps260
    go_wp2_with fail
    refine (unhide M1).mono ?_
    rintro e w' ⟨rfl, rfl⟩
    go_wp2_with fail
    go_ret
    exact ⟨rfl, 0, rfl⟩
end Go.Proofs.YtgekdmjneogdoaaGreatDoor
