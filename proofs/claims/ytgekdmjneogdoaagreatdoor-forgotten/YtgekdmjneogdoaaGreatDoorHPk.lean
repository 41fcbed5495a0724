import Derived.Test.YtgekdmjneogdoaaGreatDoorHChU3
import Derived.Test.YtgekdmjneogdoaaGreatDoorHMq1
namespace Go.Proofs.YtgekdmjneogdoaaGreatDoor
open Go.RowKit

/-! pick -/
def pickN (c : Int) (n : Nat) : Nat := (if c < 0 then -(c + 1) else c).toNat % n

theorem pickN_lt (c : Int) (n : Nat) (h : 0 < n) : pickN c n < n := Nat.mod_lt _ h

set_option maxRecDepth 20000 in
set_option maxHeartbeats 400000 in
theorem pick_any (c : Int) (n : Nat) (w : World) (hc1 : -9223372036854775808 ≤ c) (hc2 : c ≤ 9223372036854775807) (hn : 1 ≤ n) (hn2 : n ≤ 1000000) :
    Calls Tryz.prog 22 #[.int .i64 c, .int .i64 n] w fun e w' => e = .returned (.int .i64 (pickN c n)) ∧ w' = w := by
  have hp : pickN c n = (if c < 0 then -(c + 1) else c).toNat % n := rfl
  rcases Int.lt_or_le c 0 with h | h
  · obtain ⟨m, hm⟩ : ∃ m : Nat, -(c + 1) = (m : Int) := ⟨(-(c + 1)).toNat, by omega⟩
    rw [if_pos h, hm, Int.toNat_natCast] at hp
    have hlt : m % n < n := Nat.mod_lt _ (by omega)
    have hq : (m : Int) % (n : Int) = ((m % n : Nat) : Int) := (Int.natCast_emod m n).symm
    have HQ := hide (And.intro hp hq)
    have hm2 : m ≤ 9223372036854775807 := by omega
    obtain rfl : c = -(m : Int) - 1 := by omega
    clear hp hq hm
    go_enter Tryz.func22, Tryz.ntmps22
    go_wp2_with fail
    go_ret
    refine ⟨?_, rfl⟩
    apply retI
    rw [(unhide HQ).1]
    have h2 := (unhide HQ).2
    have h3 : wrap64 (-(wrap64 (-(m : Int) - 1 + 1))) = (m : Int) := by unfold wrap64; omega
    have h4 : -(-(m : Int) - 1 + 1) = (m : Int) := by omega
    first
      | (rw [h3, h2]; done)
      | (rw [h4, h2]; done)
      | (rw [← h2]; done)
      | (rw [← h2]; congr 1; omega)
  · obtain ⟨m, rfl⟩ : ∃ m : Nat, c = (m : Int) := ⟨c.toNat, by omega⟩
    rw [if_neg (by omega), Int.toNat_natCast] at hp
    have hlt : m % n < n := Nat.mod_lt _ (by omega)
    have hq : (m : Int) % (n : Int) = ((m % n : Nat) : Int) := (Int.natCast_emod m n).symm
    have HQ := hide (And.intro hp hq)
    clear hp hq
    go_enter Tryz.func22, Tryz.ntmps22
    go_wp2_with fail
    go_ret
    refine ⟨?_, rfl⟩
    apply retI
    rw [(unhide HQ).1]
    have h2 := (unhide HQ).2
    rw [h2]
end Go.Proofs.YtgekdmjneogdoaaGreatDoor

namespace Go.Proofs.YtgekdmjneogdoaaGreatDoor
open Go.RowKit

/-! samples that come evenly -/
def evL (t d : Int) (v k : Nat) : List Smp := (List.range k).map fun (i : Nat) => (wI (t + (i : Int) * d), v)

theorem evL_length (t d : Int) (v k : Nat) : (evL t d v k).length = k := by simp [evL]

theorem evL_snoc (t d : Int) (v k : Nat) : evL t d v (k + 1) = evL t d v k ++ [(wI (t + (k : Int) * d), v)] := by
  unfold evL
  rw [List.range_succ, List.map_append]
  rfl

theorem evL_ok (t d : Int) (v k : Nat) (hv : v < 18446744073709551616) : ∀ x ∈ evL t d v k, SOk x := by
  intro x hx
  obtain ⟨i, _, rfl⟩ := List.mem_map.1 hx
  exact ⟨by unfold I64 wI; omega, hv⟩

theorem evL_two (t d : Int) (v n : Nat) : evL t d v (n + 2) = (wI t, v) :: (wI (t + d), v) :: (List.range n).map fun (i : Nat) => (wI (wI (t + d) + (i + 1 : Int) * d), v) := by
  unfold evL
  rw [show n + 2 = 2 + n by omega, List.range_add, List.map_append]
  have h2 : (List.range 2).map (fun (i : Nat) => (wI (t + (i : Int) * d), v)) = [(wI t, v), (wI (t + d), v)] := by
    show [(wI (t + ((0 : Nat) : Int) * d), v), (wI (t + ((1 : Nat) : Int) * d), v)] = _
    simp
  rw [h2, List.map_map]
  have : (List.range n).map ((fun (i : Nat) => (wI (t + (i : Int) * d), v)) ∘ fun x => 2 + x) = (List.range n).map fun (i : Nat) => (wI (wI (t + d) + (i + 1 : Int) * d), v) := by
    apply List.map_congr_left
    intro i _
    simp only [Function.comp]
    congr 1
    have : ((2 + i : Nat) : Int) * d = d + (i + 1 : Int) * d := by
      rw [show ((2 + i : Nat) : Int) = 1 + (i + 1 : Int) by omega, Int.add_mul, Int.one_mul]
    rw [this]
    unfold wI; omega
  rw [this]
  rfl

theorem even_bits (t d : Int) (v n : Nat) (hd : I64 d) : (packN (evL t d v (n + 2))).length = (packN (evL t d v 2)).length + 2 * n := by
  have hr : ∀ m, (packN (evL t d v (m + 2))).length = 16 + 64 + 64 + (wrN ⟨wI t, v, 0, 0, 0⟩ (wI (t + d), v)).1.length + 2 * m := by
    intro m
    rw [evL_two, packN, restN]
    simp only [List.length_append, bitsN_length]
    have hs : (wrN ⟨wI t, v, 0, 0, 0⟩ (wI (t + d), v)).2.step = d := by
      show wI (wI (t + d) - wI t) = d
      unfold wI I64 at *; omega
    rw [restN_even v d hd m (wrN ⟨wI t, v, 0, 0, 0⟩ (wI (t + d), v)).2 (wI (t + d)) rfl hs rfl]
    omega
  rw [hr n, hr 0]
  omega

theorem even_small (t d : Int) (v n : Nat) (hd : I64 d) : (chunkN (evL t d v (n + 2))).length ≤ (chunkN (evL t d v 2)).length + (2 * n + 7) / 8 := by
  rw [chunkN_length, chunkN_length, even_bits t d v n hd]
  omega

/-! same -/
set_option maxRecDepth 20000 in
set_option maxHeartbeats 800000 in
theorem same_yes (K : Nat → Prop) (v u : Value) (l : List Smp) (w : World) (hv : RdS K w v l) (hu : RdS K w u l) (hl : l.length ≤ 1000) :
    Calls Tryz.prog 26 #[v, u] w fun e w' => e = .returned (.bool true) ∧ ∃ n, w' = w.drewN n := by
  obtain ⟨ao, cv, rfl, hcv, hv⟩ := hv
  obtain ⟨bo, cu, rfl, hcu, hu⟩ := hu
  have HV := hide hv
  have HU := hide hu
  clear hv hu
  go_enter Tryz.func26, Tryz.ntmps26
  generalize hN : l.length = n at *
  go_wp2_with fail
  go_loopw [5] (fun i wr => ∃ j : Nat, j ≤ n ∧ i = .int .i64 j ∧ ∃ q, wr = w.drewN q) (fun i _ => n - (RowKit.intOf i).toNat)
  case atStart => exact ⟨0, by omega, rfl, 0, rfl⟩
  case round =>
    obtain ⟨j, hj, rfl, q, rfl⟩ := hrel
    by_cases hjn : j < n
    · obtain ⟨g, o, _, rfl, hc⟩ := unhide HV (by omega)
      obtain ⟨g', o', _, rfl, hc'⟩ := unhide HU (by omega)
      have e1 := (hc j hjn).1
      have e2 := (hc j hjn).2
      have e3 := (hc' j hjn).1
      have e4 := (hc' j hjn).2
      clear hc hc'
      generalize (l.getD j (0, 0)).1 = T at *
      generalize (l.getD j (0, 0)).2 = V at *
      have m2 : 2 * j = j * 2 := Nat.mul_comm 2 j
      rw [m2] at e1 e2 e3 e4
      have d1 : (w.drewN q).cell? ⟨g, o + j * 2, none⟩ = some (.int .i64 T) := e1
      have d2 : (w.drewN q).cell? ⟨g, o + j * 2 + 1, none⟩ = some (.int .u64 V) := e2
      have d3 : (w.drewN q).cell? ⟨g', o' + j * 2, none⟩ = some (.int .i64 T) := e3
      have d4 : (w.drewN q).cell? ⟨g', o' + j * 2 + 1, none⟩ = some (.int .u64 V) := e4
      clear m2 e1 e2 e3 e4
      generalize hwq : w.drewN q = wq at *
      have HW := hide hwq
      clear hwq
      go_wp2_with fail
      go_quiet (fail)
      go_wp2_with fail
      go_roundw
      case rel => exact ⟨j + 1, by omega, rfl, q + nq, by rw [← unhide HW]; unfold World.drewN; rw [Nat.add_assoc]⟩
      case measure => simp [RowKit.intOf]; omega
    · obtain rfl : j = n := by omega
      go_wp2_with fail
      go_ret
      exact ⟨rfl, _, rfl⟩
end Go.Proofs.YtgekdmjneogdoaaGreatDoor
