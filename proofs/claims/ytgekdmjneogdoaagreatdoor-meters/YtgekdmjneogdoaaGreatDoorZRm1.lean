import Derived.Test.YtgekdmjneogdoaaGreatDoorZBd3
namespace Go.Proofs.YtgekdmjneogdoaaGreatDoor
open Go.RowKit Go.Shelf Go.Maps

/-! the document's meters: leaves -/
set_option maxRecDepth 20000 in
set_option maxHeartbeats 400000 in
theorem refIs_any (v : Nat) (hv : v < 18446744073709551616) (w : World) :
    Calls Tryz.prog 173 #[.int .u64 v] w fun e w' => e = .returned (.bool (numB v)) ∧ w' = w := by
  have e0 : ((v : Int) % 9223372036854775808) = ((v % 9223372036854775808 : Nat) : Int) := by omega
  have hd : decide (((v % 9223372036854775808 : Nat) : Int) ≤ 9218868437227405312) = numB v := by
    unfold numB
    by_cases c : v % 9223372036854775808 ≤ 9218868437227405312
    · have c2 : ((v % 9223372036854775808 : Nat) : Int) ≤ 9218868437227405312 := by omega
      simp only [c, c2, decide_true]
    · have c2 : ¬ ((v % 9223372036854775808 : Nat) : Int) ≤ 9218868437227405312 := by omega
      simp only [c, c2, decide_false]
  rw [← hd, ← e0]
  clear hd e0
  go_enter Tryz.func173, Tryz.ntmps173
  go_wp2_with fail
  go_ret
  exact ⟨rfl, rfl⟩

set_option maxRecDepth 20000 in
set_option maxHeartbeats 400000 in
theorem reforder_hi (z r : Int) (hz1 : 9223372036854775808 ≤ z) (hz2 : z ≤ 18446744073709551615) (hr : z % 9223372036854775808 = r) (_hr1 : 0 ≤ r) (_hr2 : r ≤ 9223372036854775807) (w : World) :
    Calls Tryz.prog 174 #[.int .u64 z] w fun e w' => e = .returned (.int .i64 (-r)) ∧ w' = w := by
  have hd : decide (z ≥ 9223372036854775808) = true := by simp; omega
  go_enter Tryz.func174, Tryz.ntmps174
  go_wp2_with fail
  go_ret
  exact ⟨rfl, rfl⟩

set_option maxRecDepth 20000 in
set_option maxHeartbeats 400000 in
theorem reforder_lo (z : Int) (hz1 : 0 ≤ z) (hz2 : z ≤ 9223372036854775807) (w : World) :
    Calls Tryz.prog 174 #[.int .u64 z] w fun e w' => e = .returned (.int .i64 z) ∧ w' = w := by
  have hr : z % 9223372036854775808 = z := by omega
  have hd : decide (9223372036854775808 ≤ z) = false := by simp; omega
  go_enter Tryz.func174, Tryz.ntmps174
  go_wp2_with fail
  go_ret
  exact ⟨rfl, rfl⟩

theorem reforder_any (v : Nat) (hv : v < 18446744073709551616) (w : World) :
    Calls Tryz.prog 174 #[.int .u64 v] w fun e w' => e = .returned (.int .i64 (ordI v)) ∧ w' = w := by
  unfold ordI
  by_cases c : 9223372036854775808 ≤ v
  · rw [if_pos c]
    exact reforder_hi v _ (by omega) (by omega) (by omega) (by omega) (by omega) w
  · rw [if_neg c, Nat.mod_eq_of_lt (by omega)]
    exact reforder_lo v (by omega) (by omega) w

set_option maxRecDepth 20000 in
set_option maxHeartbeats 400000 in
theorem refbucket_z (z r q : Int) (hz1 : 0 ≤ z) (hz2 : z ≤ 18446744073709551615) (hr : z % 9223372036854775808 = r) (hq : z % 35184372088832 = q) (_hr2 : 0 ≤ r) (_hr3 : r ≤ 9218868437227405312) (_hq1 : 0 ≤ q) (hq2 : q ≤ z) (w : World) :
    Calls Tryz.prog 175 #[.int .u64 z] w fun e w' => e = .returned (.int .u64 (if r = 9218868437227405312 then z else if r < 4503599627370496 then 0 else z - q)) ∧ w' = w := by
  by_cases h1 : r = 9218868437227405312
  · rw [if_pos h1]
    subst h1
    go_enter Tryz.func175, Tryz.ntmps175
    go_wp2_with fail
    go_ret
    exact ⟨rfl, rfl⟩
  · rw [if_neg h1]
    have hd1 : (r == 9218868437227405312) = false := by simpa using h1
    by_cases h2 : r < 4503599627370496
    · rw [if_pos h2]
      have hd2 : decide (r < 4503599627370496) = true := by simpa using h2
      go_enter Tryz.func175, Tryz.ntmps175
      go_wp2_with fail
      go_ret
      exact ⟨rfl, rfl⟩
    · rw [if_neg h2]
      have hd2 : decide (r < 4503599627370496) = false := by simpa using h2
      go_enter Tryz.func175, Tryz.ntmps175
      go_wp2_with fail
      go_ret
      exact ⟨rfl, rfl⟩

theorem refbucket_any (v : Nat) (hv : isNum v) (w : World) :
    Calls Tryz.prog 175 #[.int .u64 v] w fun e w' => e = .returned (.int .u64 (bucketN v)) ∧ w' = w := by
  have h := refbucket_z (v : Int) ((v % 9223372036854775808 : Nat) : Int) ((v % 35184372088832 : Nat) : Int) (by omega) (by have := hv.1; omega) (by omega) (by omega) (by omega) (by have := hv.2; omega) (by omega) (by omega) w
  have hb := bucket_val v hv
  have e : (if ((v % 9223372036854775808 : Nat) : Int) = 9218868437227405312 then (v : Int) else if ((v % 9223372036854775808 : Nat) : Int) < 4503599627370496 then 0 else (v : Int) - ((v % 35184372088832 : Nat) : Int)) = ((bucketN v : Nat) : Int) := by
    rw [hb]
    by_cases h1 : v % 9223372036854775808 = 9218868437227405312
    · rw [if_pos (by omega), if_neg (by omega)]
      omega
    · rw [if_neg (by omega)]
      by_cases h2 : v % 9223372036854775808 < 4503599627370496
      · rw [if_pos (by omega), if_pos h2]; rfl
      · rw [if_neg (by omega), if_neg h2]; omega
  rw [e] at h
  exact h
end Go.Proofs.YtgekdmjneogdoaaGreatDoor
