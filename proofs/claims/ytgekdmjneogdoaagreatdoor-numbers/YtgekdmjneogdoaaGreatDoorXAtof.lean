import Derived.Test.YtgekdmjneogdoaaGreatDoorXExact
import Derived.Test.YtgekdmjneogdoaaGreatDoorXParse2
import Derived.WalkMore
namespace Go.Proofs.YtgekdmjneogdoaaGreatDoor
open Go.RowKit

def sgn (neg : Bool) : Nat := if neg then 9223372036854775808 else 0
theorem sgn_wrap (neg : Bool) : IntKind.u64.wrap ((neg.toNat : Int) * 9223372036854775808) = (sgn neg : Int) := by
  cases neg
  · rw [IntKind.wrap_u64]; rfl
  · rw [IntKind.wrap_u64]; rfl
theorem sgn_lt (neg : Bool) : sgn neg < 18446744073709551616 := by cases neg <;> simp [sgn]

def SpecialNo (s : ByteArray) : Prop := ∀ w, Calls Tryz.prog 273 #[.string s] w fun e w' => e = .returned (.tuple #[.float .f64 0, .int .i64 0, .bool false]) ∧ w' = w
def Reads (s : ByteArray) (m : Nat) (p : Int) (neg tr : Bool) : Prop := ∀ w, Calls Tryz.prog 274 #[.string s] w fun e w' => e = .returned (.tuple #[.int .u64 m, .int .i64 p, .bool neg, .bool tr, .bool false, .int .i64 s.size, .bool true]) ∧ w' = w

set_option maxRecDepth 100000 in
set_option maxHeartbeats 1000000 in
theorem atof_zero (s : ByteArray) (m sg : Nat) (p : Int) (neg tr : Bool) (w : World) (hS : SpecialNo s) (hRd : Reads s m p neg tr) (hopt : w.cell? ⟨5, 0, none⟩ = some (.bool true))
    (hsg : IntKind.u64.wrap ((neg.toNat : Int) * 9223372036854775808) = (sg : Int)) (hm0 : ((m : Int) == 0) = true) (hor : bits BinOp.or IntKind.u64 (sg : Int) 0 = (sg : Int)) :
    Calls Tryz.prog 233 #[.string s] w fun z w' => z = .returned (.tuple #[.float .f64 sg, .int .i64 s.size, .nilIface]) ∧ w' = w := by
  have hfb := frombits_run
  go_enter Tryz.func233, Tryz.ntmps233
  go_wp2_with fail
  refine (hS _).mono ?_
  rintro e w1 ⟨rfl, hw⟩; rw [hw]; clear hw w1
  go_wp2_with fail
  refine (hRd _).mono ?_
  rintro e w1 ⟨rfl, hw⟩; rw [hw]; clear hw w1
  go_wp2_with fail
  refine (bool2u_any neg _).mono ?_
  rintro e w1 ⟨rfl, hw⟩; rw [hw]; clear hw w1
  go_wp2_with fail
  go_ret3
  exact ⟨rfl, rfl⟩

set_option maxRecDepth 100000 in
set_option maxHeartbeats 1000000 in
theorem atof_over (s : ByteArray) (m sg : Nat) (p : Int) (neg tr : Bool) (w : World) (hS : SpecialNo s) (hRd : Reads s m p neg tr) (hopt : w.cell? ⟨5, 0, none⟩ = some (.bool true))
    (hsg : IntKind.u64.wrap ((neg.toNat : Int) * 9223372036854775808) = (sg : Int)) (r : Nat) (hm0 : ((m : Int) == 0) = false) (hp : 310 < p) (hor : bits BinOp.or IntKind.u64 (sg : Int) 9218868437227405312 = (r : Int)) :
    Calls Tryz.prog 233 #[.string s] w fun z w' => z = .returned (.tuple #[.float .f64 r, .int .i64 s.size, .iface 247 (.int .i64 1)]) ∧ w' = w := by
  have hfb := frombits_run
  go_enter Tryz.func233, Tryz.ntmps233
  go_wp2_with fail
  refine (hS _).mono ?_
  rintro e w1 ⟨rfl, hw⟩; rw [hw]; clear hw w1
  go_wp2_with fail
  refine (hRd _).mono ?_
  rintro e w1 ⟨rfl, hw⟩; rw [hw]; clear hw w1
  go_wp2_with fail
  refine (bool2u_any neg _).mono ?_
  rintro e w1 ⟨rfl, hw⟩; rw [hw]; clear hw w1
  go_wp2_with fail
  go_ret3
  exact ⟨rfl, rfl⟩

set_option maxRecDepth 100000 in
set_option maxHeartbeats 1000000 in
theorem atof_under (s : ByteArray) (m sg : Nat) (p : Int) (neg tr : Bool) (w : World) (hS : SpecialNo s) (hRd : Reads s m p neg tr) (hopt : w.cell? ⟨5, 0, none⟩ = some (.bool true))
    (hsg : IntKind.u64.wrap ((neg.toNat : Int) * 9223372036854775808) = (sg : Int)) (hm0 : ((m : Int) == 0) = false) (hp : p < -345) (hor : bits BinOp.or IntKind.u64 (sg : Int) 0 = (sg : Int)) :
    Calls Tryz.prog 233 #[.string s] w fun z w' => z = .returned (.tuple #[.float .f64 sg, .int .i64 s.size, .nilIface]) ∧ w' = w := by
  have hfb := frombits_run
  go_enter Tryz.func233, Tryz.ntmps233
  go_wp2_with fail
  refine (hS _).mono ?_
  rintro e w1 ⟨rfl, hw⟩; rw [hw]; clear hw w1
  go_wp2_with fail
  refine (hRd _).mono ?_
  rintro e w1 ⟨rfl, hw⟩; rw [hw]; clear hw w1
  go_wp2_with fail
  refine (bool2u_any neg _).mono ?_
  rintro e w1 ⟨rfl, hw⟩; rw [hw]; clear hw w1
  go_wp2_with fail
  go_ret3
  exact ⟨rfl, rfl⟩

set_option maxRecDepth 100000 in
set_option maxHeartbeats 1000000 in
theorem atof_exact (s : ByteArray) (m sg : Nat) (p : Int) (neg tr : Bool) (w : World) (hS : SpecialNo s) (hRd : Reads s m p neg tr) (hopt : w.cell? ⟨5, 0, none⟩ = some (.bool true))
    (hsg : IntKind.u64.wrap ((neg.toNat : Int) * 9223372036854775808) = (sg : Int)) (hm0 : ((m : Int) == 0) = false) (hp1 : p ≤ 310) (hp2 : -345 ≤ p) (htr : tr = false) (g : Nat) (hX : Calls Tryz.prog 284 #[.int .u64 m, .int .i64 p, .bool neg] w fun z w' => z = .returned (.tuple #[.float .f64 g, .bool true]) ∧ w' = w) :
    Calls Tryz.prog 233 #[.string s] w fun z w' => z = .returned (.tuple #[.float .f64 g, .int .i64 s.size, .nilIface]) ∧ w' = w := by
  have hfb := frombits_run
  subst htr
  have HX := hide hX
  clear hX
  go_enter Tryz.func233, Tryz.ntmps233
  go_wp2_with fail
  refine (hS _).mono ?_
  rintro e w1 ⟨rfl, hw⟩; rw [hw]; clear hw w1
  go_wp2_with fail
  refine (hRd _).mono ?_
  rintro e w1 ⟨rfl, hw⟩; rw [hw]; clear hw w1
  go_wp2_with fail
  refine (bool2u_any neg _).mono ?_
  rintro e w1 ⟨rfl, hw⟩; rw [hw]; clear hw w1
  go_wp2_with fail
  refine (unhide HX).mono ?_
  rintro e w1 ⟨rfl, hw⟩; rw [hw]; clear hw w1
  go_wp2_with fail
  go_ret3
  exact ⟨rfl, rfl⟩

set_option maxRecDepth 100000 in
set_option maxHeartbeats 1000000 in
theorem atof_parse (s : ByteArray) (m sg : Nat) (p : Int) (neg tr : Bool) (w : World) (hS : SpecialNo s) (hRd : Reads s m p neg tr) (hopt : w.cell? ⟨5, 0, none⟩ = some (.bool true))
    (hsg : IntKind.u64.wrap ((neg.toNat : Int) * 9223372036854775808) = (sg : Int)) (hm0 : ((m : Int) == 0) = false) (hp1 : p ≤ 310) (hp2 : -345 ≤ p) (htr : tr = false) (g : Nat) (hX : Calls Tryz.prog 284 #[.int .u64 m, .int .i64 p, .bool neg] w fun z w' => z = .returned (.tuple #[.float .f64 g, .bool false]) ∧ w' = w) (b : Nat) (ev : Value) (hP : Calls Tryz.prog 285 #[.int .u64 m, .int .i64 p, .int .u64 sg] w fun z w' => z = .returned (.tuple #[.float .f64 b, ev]) ∧ Below w.heap.size w w') :
    Calls Tryz.prog 233 #[.string s] w fun z w' => z = .returned (.tuple #[.float .f64 b, .int .i64 s.size, ev]) ∧ Below w.heap.size w w' := by
  have hfb := frombits_run
  subst htr
  have HX := hide hX
  clear hX
  have HP := hide hP
  clear hP
  go_enter Tryz.func233, Tryz.ntmps233
  go_wp2_with fail
  refine (hS _).mono ?_
  rintro e w1 ⟨rfl, hw⟩; rw [hw]; clear hw w1
  go_wp2_with fail
  refine (hRd _).mono ?_
  rintro e w1 ⟨rfl, hw⟩; rw [hw]; clear hw w1
  go_wp2_with fail
  refine (bool2u_any neg _).mono ?_
  rintro e w1 ⟨rfl, hw⟩; rw [hw]; clear hw w1
  go_wp2_with fail
  refine (unhide HX).mono ?_
  rintro e w1 ⟨rfl, hw⟩; rw [hw]; clear hw w1
  go_wp2_with fail
  refine (unhide HP).mono ?_
  rintro e w1 ⟨rfl, hb⟩
  go_wp2_with fail
  go_ret3
  exact ⟨rfl, hb⟩

set_option maxRecDepth 100000 in
set_option maxHeartbeats 1000000 in
theorem atof_trunc (s : ByteArray) (m sg : Nat) (p : Int) (neg tr : Bool) (w : World) (hS : SpecialNo s) (hRd : Reads s m p neg tr) (hopt : w.cell? ⟨5, 0, none⟩ = some (.bool true))
    (hsg : IntKind.u64.wrap ((neg.toNat : Int) * 9223372036854775808) = (sg : Int)) (hm0 : ((m : Int) == 0) = false) (hp1 : p ≤ 310) (hp2 : -345 ≤ p) (htr : tr = true) (b : Nat) (ev : Value) (hP : Calls Tryz.prog 285 #[.int .u64 m, .int .i64 p, .int .u64 sg] w fun z w' => z = .returned (.tuple #[.float .f64 b, ev]) ∧ Below w.heap.size w w') (b2 : Nat) (ev2 : Value) (m1 : Int) (hm1 : IntKind.u64.wrap ((m : Int) + 1) = m1) (hP2 : ∀ w', Below w.heap.size w w' → Calls Tryz.prog 285 #[.int .u64 m1, .int .i64 p, .int .u64 sg] w' fun z w'' => z = .returned (.tuple #[.float .f64 b2, ev2]) ∧ Below w'.heap.size w' w'') (heq : (FloatKind.f64.format.order b b2 == some .eq) = true) :
    Calls Tryz.prog 233 #[.string s] w fun z w' => z = .returned (.tuple #[.float .f64 b, .int .i64 s.size, ev]) ∧ Below w.heap.size w w' := by
  have hfb := frombits_run
  subst htr
  have HP := hide hP
  clear hP
  have HP2 := hide hP2
  clear hP2
  go_enter Tryz.func233, Tryz.ntmps233
  go_wp2_with fail
  refine (hS _).mono ?_
  rintro e w1 ⟨rfl, hw⟩; rw [hw]; clear hw w1
  go_wp2_with fail
  refine (hRd _).mono ?_
  rintro e w1 ⟨rfl, hw⟩; rw [hw]; clear hw w1
  go_wp2_with fail
  refine (bool2u_any neg _).mono ?_
  rintro e w1 ⟨rfl, hw⟩; rw [hw]; clear hw w1
  go_wp2_with fail
  refine (unhide HP).mono ?_
  rintro e w1 ⟨rfl, hb⟩
  go_wp2_with fail
  refine (unhide HP2 _ hb).mono ?_
  rintro e w2 ⟨rfl, hb2⟩
  go_wp2_with fail
  go_ret3
  exact ⟨rfl, hb.trans (hb2.mono hb.size)⟩

end Go.Proofs.YtgekdmjneogdoaaGreatDoor
