import Derived.Test.YtgekdmjneogdoaaGreatDoorXTabs
import Derived.Laws.FloatArith
import Derived.Laws.Cover2
namespace Go.Proofs.YtgekdmjneogdoaaGreatDoor
open Go.RowKit

set_option maxRecDepth 20000 in
set_option maxHeartbeats 400000 in
theorem exact_big (m : Nat) (e : Int) (neg : Bool) (w : World) (hmant : w.cell? ⟨8, 0, none⟩ = some (.int .u64 52)) (h1 : 1 ≤ (m : Int) / 4503599627370496) :
    Calls Tryz.prog 284 #[.int .u64 m, .int .i64 e, .bool neg] w fun z w' => z = .returned (.tuple #[.float .f64 0, .bool false]) ∧ w' = w := by
  have h2 : ((m : Int) / 4503599627370496 != 0) = true := by rw [bne_iff_ne]; omega
  go_enter Tryz.func284, Tryz.ntmps284
  go_wp2_with fail
  go_ret2
  exact ⟨rfl, rfl⟩

set_option maxRecDepth 20000 in
set_option maxHeartbeats 800000 in
theorem exact_zero (m f0 f1 f : Nat) (neg : Bool) (w : World) (hmant : w.cell? ⟨8, 0, none⟩ = some (.int .u64 52)) (h1 : ((m : Int) / 4503599627370496 != 0) = false)
    (hf0 : floatOfInt .f64 (m : Int) = f0) (hf1 : Op.negFloat .f64 f0 = f1) (hf : (if neg then f1 else f0) = f) :
    Calls Tryz.prog 284 #[.int .u64 m, .int .i64 0, .bool neg] w fun z w' => z = .returned (.tuple #[.float .f64 f, .bool true]) ∧ w' = w := by
  have hn : ∀ w, (Op.unary .neg (.float .f64 f0)).run Tryz.prog w = .ok (.float .f64 f1) w := fun w => by rw [← hf1]; rfl
  cases neg
  all_goals
    simp only [if_true, if_false, Bool.false_eq_true] at hf
    subst hf
    go_enter Tryz.func284, Tryz.ntmps284
    go_wp2_with fail
    all_goals go_ret2
    all_goals exact ⟨rfl, rfl⟩

set_option maxRecDepth 20000 in
set_option maxHeartbeats 800000 in
theorem exact_up (m f0 f1 f : Nat) (neg : Bool) (w : World) (hmant : w.cell? ⟨8, 0, none⟩ = some (.int .u64 52)) (h1 : ((m : Int) / 4503599627370496 != 0) = false)
    (hf0 : floatOfInt .f64 (m : Int) = f0) (hf1 : Op.negFloat .f64 f0 = f1) (hf : (if neg then f1 else f0) = f) (k pw r : Nat) (hk1 : 1 ≤ k) (hk2 : k ≤ 22) (B O : Nat) (ht0 : w.cell? ⟨14, 0, none⟩ = some (.slice (some ⟨B, O, none⟩) 23 23)) (ht1 : w.cell? ⟨B, O + k, none⟩ = some (.float .f64 pw)) (hg : (FloatKind.f64.format.order f 4831355200913801216 == some .gt) = false) (hl : (FloatKind.f64.format.order f 14054727237768577024 == some .lt) = false) (hr : floatBits .mul .f64 f pw = some r) :
    Calls Tryz.prog 284 #[.int .u64 m, .int .i64 (k : Int), .bool neg] w fun z w' => z = .returned (.tuple #[.float .f64 r, .bool true]) ∧ w' = w := by
  have hn : ∀ w, (Op.unary .neg (.float .f64 f0)).run Tryz.prog w = .ok (.float .f64 f1) w := fun w => by rw [← hf1]; rfl
  have hmul : ∀ w, (binOp .mul 79 (.float .f64 f) (.float .f64 pw)).run Tryz.prog w = .ok (.float .f64 r) w := fun w => run_float_arith w .mul _ .f64 f pw r hr
  clear hr
  cases neg
  all_goals
    simp only [if_true, if_false, Bool.false_eq_true] at hf
    subst hf
    go_enter Tryz.func284, Tryz.ntmps284
    go_wp2_with fail
    all_goals go_ret2
    all_goals exact ⟨rfl, rfl⟩

set_option maxRecDepth 20000 in
set_option maxHeartbeats 800000 in
theorem exact_down (m f0 f1 f : Nat) (neg : Bool) (w : World) (hmant : w.cell? ⟨8, 0, none⟩ = some (.int .u64 52)) (h1 : ((m : Int) / 4503599627370496 != 0) = false)
    (hf0 : floatOfInt .f64 (m : Int) = f0) (hf1 : Op.negFloat .f64 f0 = f1) (hf : (if neg then f1 else f0) = f) (k pw r : Nat) (hk1 : 1 ≤ k) (hk2 : k ≤ 22) (B O : Nat) (ht0 : w.cell? ⟨14, 0, none⟩ = some (.slice (some ⟨B, O, none⟩) 23 23)) (ht1 : w.cell? ⟨B, O + k, none⟩ = some (.float .f64 pw)) (hr : floatBits .quo .f64 f pw = some r) :
    Calls Tryz.prog 284 #[.int .u64 m, .int .i64 (-(k : Int)), .bool neg] w fun z w' => z = .returned (.tuple #[.float .f64 r, .bool true]) ∧ w' = w := by
  have hn : ∀ w, (Op.unary .neg (.float .f64 f0)).run Tryz.prog w = .ok (.float .f64 f1) w := fun w => by rw [← hf1]; rfl
  have hmul : ∀ w, (binOp .quo 79 (.float .f64 f) (.float .f64 pw)).run Tryz.prog w = .ok (.float .f64 r) w := fun w => run_float_arith w .quo _ .f64 f pw r hr
  clear hr
  cases neg
  all_goals
    simp only [if_true, if_false, Bool.false_eq_true] at hf
    subst hf
    go_enter Tryz.func284, Tryz.ntmps284
    go_wp2_with fail
    all_goals go_ret2
    all_goals exact ⟨rfl, rfl⟩

set_option maxRecDepth 20000 in
set_option maxHeartbeats 800000 in
theorem exact_far (m f0 f1 f : Nat) (neg : Bool) (w : World) (hmant : w.cell? ⟨8, 0, none⟩ = some (.int .u64 52)) (h1 : ((m : Int) / 4503599627370496 != 0) = false)
    (hf0 : floatOfInt .f64 (m : Int) = f0) (hf1 : Op.negFloat .f64 f0 = f1) (hf : (if neg then f1 else f0) = f) (e : Int) (he : 37 < e ∨ e < -22) :
    Calls Tryz.prog 284 #[.int .u64 m, .int .i64 e, .bool neg] w fun z w' => z = .returned (.tuple #[.float .f64 f, .bool false]) ∧ w' = w := by
  have hn : ∀ w, (Op.unary .neg (.float .f64 f0)).run Tryz.prog w = .ok (.float .f64 f1) w := fun w => by rw [← hf1]; rfl
  cases neg
  all_goals
    simp only [if_true, if_false, Bool.false_eq_true] at hf
    subst hf
    go_enter Tryz.func284, Tryz.ntmps284
    go_wp2_with fail
    all_goals go_ret2
    all_goals exact ⟨rfl, rfl⟩

set_option maxRecDepth 20000 in
set_option maxHeartbeats 800000 in
theorem exact_upg (m f0 f1 f : Nat) (neg : Bool) (w : World) (hmant : w.cell? ⟨8, 0, none⟩ = some (.int .u64 52)) (h1 : ((m : Int) / 4503599627370496 != 0) = false)
    (hf0 : floatOfInt .f64 (m : Int) = f0) (hf1 : Op.negFloat .f64 f0 = f1) (hf : (if neg then f1 else f0) = f) (k : Nat) (hk1 : 1 ≤ k) (hk2 : k ≤ 22) (hg : (FloatKind.f64.format.order f 4831355200913801216 == some .gt) = true) :
    Calls Tryz.prog 284 #[.int .u64 m, .int .i64 (k : Int), .bool neg] w fun z w' => z = .returned (.tuple #[.float .f64 f, .bool false]) ∧ w' = w := by
  have hn : ∀ w, (Op.unary .neg (.float .f64 f0)).run Tryz.prog w = .ok (.float .f64 f1) w := fun w => by rw [← hf1]; rfl
  cases neg
  all_goals
    simp only [if_true, if_false, Bool.false_eq_true] at hf
    subst hf
    go_enter Tryz.func284, Tryz.ntmps284
    go_wp2_with fail
    all_goals go_ret2
    all_goals exact ⟨rfl, rfl⟩

set_option maxRecDepth 20000 in
set_option maxHeartbeats 800000 in
theorem exact_upl (m f0 f1 f : Nat) (neg : Bool) (w : World) (hmant : w.cell? ⟨8, 0, none⟩ = some (.int .u64 52)) (h1 : ((m : Int) / 4503599627370496 != 0) = false)
    (hf0 : floatOfInt .f64 (m : Int) = f0) (hf1 : Op.negFloat .f64 f0 = f1) (hf : (if neg then f1 else f0) = f) (k : Nat) (hk1 : 1 ≤ k) (hk2 : k ≤ 22) (hg : (FloatKind.f64.format.order f 4831355200913801216 == some .gt) = false) (hl : (FloatKind.f64.format.order f 14054727237768577024 == some .lt) = true) :
    Calls Tryz.prog 284 #[.int .u64 m, .int .i64 (k : Int), .bool neg] w fun z w' => z = .returned (.tuple #[.float .f64 f, .bool false]) ∧ w' = w := by
  have hn : ∀ w, (Op.unary .neg (.float .f64 f0)).run Tryz.prog w = .ok (.float .f64 f1) w := fun w => by rw [← hf1]; rfl
  cases neg
  all_goals
    simp only [if_true, if_false, Bool.false_eq_true] at hf
    subst hf
    go_enter Tryz.func284, Tryz.ntmps284
    go_wp2_with fail
    all_goals go_ret2
    all_goals exact ⟨rfl, rfl⟩

set_option maxRecDepth 20000 in
set_option maxHeartbeats 800000 in
theorem exact_far2g (m f0 f1 f : Nat) (neg : Bool) (w : World) (hmant : w.cell? ⟨8, 0, none⟩ = some (.int .u64 52)) (h1 : ((m : Int) / 4503599627370496 != 0) = false)
    (hf0 : floatOfInt .f64 (m : Int) = f0) (hf1 : Op.negFloat .f64 f0 = f1) (hf : (if neg then f1 else f0) = f) (k pw q : Nat) (hk1 : 1 ≤ k) (hk2 : k ≤ 15) (B O : Nat) (ht0 : w.cell? ⟨14, 0, none⟩ = some (.slice (some ⟨B, O, none⟩) 23 23)) (ht1 : w.cell? ⟨B, O + k, none⟩ = some (.float .f64 pw)) (hq : floatBits .mul .f64 f pw = some q) (hg : (FloatKind.f64.format.order q 4831355200913801216 == some .gt) = true) :
    Calls Tryz.prog 284 #[.int .u64 m, .int .i64 (22 + k : Int), .bool neg] w fun z w' => z = .returned (.tuple #[.float .f64 q, .bool false]) ∧ w' = w := by
  have hn : ∀ w, (Op.unary .neg (.float .f64 f0)).run Tryz.prog w = .ok (.float .f64 f1) w := fun w => by rw [← hf1]; rfl
  have hmul : ∀ w, (binOp .mul 79 (.float .f64 f) (.float .f64 pw)).run Tryz.prog w = .ok (.float .f64 q) w := fun w => run_float_arith w .mul _ .f64 f pw q hq
  clear hq
  cases neg
  all_goals
    simp only [if_true, if_false, Bool.false_eq_true] at hf
    subst hf
    go_enter Tryz.func284, Tryz.ntmps284
    go_wp2_with fail
    all_goals go_ret2
    all_goals exact ⟨rfl, rfl⟩

set_option maxRecDepth 20000 in
set_option maxHeartbeats 800000 in
theorem exact_far2l (m f0 f1 f : Nat) (neg : Bool) (w : World) (hmant : w.cell? ⟨8, 0, none⟩ = some (.int .u64 52)) (h1 : ((m : Int) / 4503599627370496 != 0) = false)
    (hf0 : floatOfInt .f64 (m : Int) = f0) (hf1 : Op.negFloat .f64 f0 = f1) (hf : (if neg then f1 else f0) = f) (k pw q : Nat) (hk1 : 1 ≤ k) (hk2 : k ≤ 15) (B O : Nat) (ht0 : w.cell? ⟨14, 0, none⟩ = some (.slice (some ⟨B, O, none⟩) 23 23)) (ht1 : w.cell? ⟨B, O + k, none⟩ = some (.float .f64 pw)) (hq : floatBits .mul .f64 f pw = some q) (hg : (FloatKind.f64.format.order q 4831355200913801216 == some .gt) = false) (hl : (FloatKind.f64.format.order q 14054727237768577024 == some .lt) = true) :
    Calls Tryz.prog 284 #[.int .u64 m, .int .i64 (22 + k : Int), .bool neg] w fun z w' => z = .returned (.tuple #[.float .f64 q, .bool false]) ∧ w' = w := by
  have hn : ∀ w, (Op.unary .neg (.float .f64 f0)).run Tryz.prog w = .ok (.float .f64 f1) w := fun w => by rw [← hf1]; rfl
  have hmul : ∀ w, (binOp .mul 79 (.float .f64 f) (.float .f64 pw)).run Tryz.prog w = .ok (.float .f64 q) w := fun w => run_float_arith w .mul _ .f64 f pw q hq
  clear hq
  cases neg
  all_goals
    simp only [if_true, if_false, Bool.false_eq_true] at hf
    subst hf
    go_enter Tryz.func284, Tryz.ntmps284
    go_wp2_with fail
    all_goals go_ret2
    all_goals exact ⟨rfl, rfl⟩

set_option maxRecDepth 20000 in
set_option maxHeartbeats 800000 in
theorem exact_far2 (m f0 f1 f : Nat) (neg : Bool) (w : World) (hmant : w.cell? ⟨8, 0, none⟩ = some (.int .u64 52)) (h1 : ((m : Int) / 4503599627370496 != 0) = false)
    (hf0 : floatOfInt .f64 (m : Int) = f0) (hf1 : Op.negFloat .f64 f0 = f1) (hf : (if neg then f1 else f0) = f) (k pw q : Nat) (hk1 : 1 ≤ k) (hk2 : k ≤ 15) (B O : Nat) (ht0 : w.cell? ⟨14, 0, none⟩ = some (.slice (some ⟨B, O, none⟩) 23 23)) (ht1 : w.cell? ⟨B, O + k, none⟩ = some (.float .f64 pw)) (hq : floatBits .mul .f64 f pw = some q) (hg : (FloatKind.f64.format.order q 4831355200913801216 == some .gt) = false) (hl : (FloatKind.f64.format.order q 14054727237768577024 == some .lt) = false) (p22 r : Nat) (ht2 : w.cell? ⟨B, O + 22, none⟩ = some (.float .f64 p22)) (hr : floatBits .mul .f64 q p22 = some r) :
    Calls Tryz.prog 284 #[.int .u64 m, .int .i64 (22 + k : Int), .bool neg] w fun z w' => z = .returned (.tuple #[.float .f64 r, .bool true]) ∧ w' = w := by
  have hn : ∀ w, (Op.unary .neg (.float .f64 f0)).run Tryz.prog w = .ok (.float .f64 f1) w := fun w => by rw [← hf1]; rfl
  have hmul : ∀ w, (binOp .mul 79 (.float .f64 f) (.float .f64 pw)).run Tryz.prog w = .ok (.float .f64 q) w := fun w => run_float_arith w .mul _ .f64 f pw q hq
  clear hq
  have hmul2 : ∀ w, (binOp .mul 79 (.float .f64 q) (.float .f64 p22)).run Tryz.prog w = .ok (.float .f64 r) w := fun w => run_float_arith w .mul _ .f64 q p22 r hr
  clear hr
  cases neg
  all_goals
    simp only [if_true, if_false, Bool.false_eq_true] at hf
    subst hf
    go_enter Tryz.func284, Tryz.ntmps284
    go_wp2_with fail
    all_goals go_ret2
    all_goals exact ⟨rfl, rfl⟩

end Go.Proofs.YtgekdmjneogdoaaGreatDoor
