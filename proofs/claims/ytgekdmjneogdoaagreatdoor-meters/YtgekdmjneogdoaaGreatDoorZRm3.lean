import Derived.Test.YtgekdmjneogdoaaGreatDoorZRm2
namespace Go.Proofs.YtgekdmjneogdoaaGreatDoor
open Go.RowKit Go.Shelf Go.Maps

theorem infoC : (Tryz.prog.info? 241).map (fun i => (i.zero, i.size, i.bytes)) = some (some (.agg #[.int .i64 0, .int .i64 0]), 2, 16) := by kernel_rfl

set_option maxRecDepth 20000 in
set_option maxHeartbeats 400000 in
theorem refadd_arg (yb : Nat) (t : Int) (v : Nat) (w : World) (ht : t < 0 ∨ 1099511627776 < t) :
    Calls Tryz.prog 121 #[.pointer (some ⟨yb, 0, none⟩), .int .i64 t, .int .u64 v] w fun e w' => e = .returned (.int .i64 5) ∧ w' = w := by
  rcases Int.lt_or_le t 0 with h | h
  · clear ht
    go_enter Tryz.func121, Tryz.ntmps121
    go_wp2_with fail
    go_ret
    exact ⟨rfl, rfl⟩
  · have ht2 : 1099511627776 < t := by omega
    clear ht
    go_enter Tryz.func121, Tryz.ntmps121
    go_wp2_with fail
    go_ret
    exact ⟨rfl, rfl⟩

set_option maxRecDepth 20000 in
set_option maxHeartbeats 400000 in
theorem refadd_nan (yb t v : Nat) (w : World) (ht : t ≤ 1099511627776) (hv : v < 18446744073709551616) (hn : numB v = false) :
    Calls Tryz.prog 121 #[.pointer (some ⟨yb, 0, none⟩), .int .i64 t, .int .u64 v] w fun e w' => e = .returned (.int .i64 6) ∧ w' = w := by
  have HI := hide (refIs_any v hv)
  rw [hn] at HI
  clear hv hn
  go_enter Tryz.func121, Tryz.ntmps121
  go_wp2_with fail
  refine (unhide HI _).mono ?_
  rintro e w1 ⟨rfl, e1⟩
  rw [e1]
  clear e1 w1
  go_wp2_with fail
  go_ret
  exact ⟨rfl, rfl⟩

set_option maxRecDepth 20000 in
set_option maxHeartbeats 800000 in
theorem refadd_out {K : Nat → Prop} {w : World} {yb n W C : Nat} {r : Value} {s : RuleS} {l : List Cnt} (h : RMt K w yb n W C r s l) (t v : Nat) (ht : t ≤ 1099511627776) (hv : v < 18446744073709551616) (hn : numB v = true) (ho : t / W + n ≤ C / W ∨ C / W < t / W) :
    Calls Tryz.prog 121 #[.pointer (some ⟨yb, 0, none⟩), .int .i64 t, .int .u64 v] w fun e w' => e = .returned (.int .i64 (if C / W < t / W then 8 else 7)) ∧ ∃ q, w' = w.drewN q := by
  have HI := hide (refIs_any v hv)
  rw [hn] at HI
  have c0 := h.c0
  have c1 := h.c1
  have c2 := h.c2
  have hW := h.hW.1
  have hn8 := h.hn.2
  have hCb := h.hC
  have q1 : (t : Int) / (W : Int) = ((t / W : Nat) : Int) := (Int.natCast_ediv t W).symm
  have q2 : (C : Int) / (W : Int) = ((C / W : Nat) : Int) := (Int.natCast_ediv C W).symm
  have q3 : t / W ≤ t := Nat.div_le_self _ _
  have q4 : C / W ≤ C := Nat.div_le_self _ _
  clear h hv hn
  generalize t / W = tw at *
  generalize C / W = cw at *
  rcases ho with ho | ho
  · rw [if_neg (by omega)]
    have hd : decide ((tw : Int) ≤ (cw : Int) - (n : Int)) = true := by simp; omega
    go_enter Tryz.func121, Tryz.ntmps121
    go_wp2_with fail
    refine (unhide HI _).mono ?_
    rintro e w1 ⟨rfl, e1⟩
    rw [e1]
    clear e1 w1
    go_wp2_with fail
    go_quiet (fail)
    have d0 : (w.drewN nq).cell? ⟨yb, 0, none⟩ = some (.int .i64 n) := c0
    generalize hwq : w.drewN nq = wq at *
    have HW := hide hwq
    clear hwq
    go_wp2_with fail
    go_ret
    exact ⟨rfl, nq, (unhide HW).symm⟩
  · rw [if_pos ho]
    have hd : decide ((tw : Int) ≤ (cw : Int) - (n : Int)) = false := by simp; omega
    have hd2 : decide (cw < tw) = true := by simp; omega
    go_enter Tryz.func121, Tryz.ntmps121
    go_wp2_with fail
    refine (unhide HI _).mono ?_
    rintro e w1 ⟨rfl, e1⟩
    rw [e1]
    clear e1 w1
    go_wp2_with fail
    go_quiet (fail)
    have d0 : (w.drewN nq).cell? ⟨yb, 0, none⟩ = some (.int .i64 n) := c0
    generalize hwq : w.drewN nq = wq at *
    have HW := hide hwq
    clear hwq
    go_wp2_with fail
    go_ret
    exact ⟨rfl, nq, (unhide HW).symm⟩
end Go.Proofs.YtgekdmjneogdoaaGreatDoor
