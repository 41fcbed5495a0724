import Derived.Test.YtgekdmjneogdoaaGreatDoorZParse2
import Derived.Lib.Itoa
import Derived.Lib.ItoaNum
import Derived.Sort.Row
namespace Go.Proofs.YtgekdmjneogdoaaGreatDoor
open Go.RowKit Go.Sort Go.Lib

/-- a row without the noughts at its end -/
def trimN (f : Nat → UInt8) : Nat → Nat
  | 0 => 0
  | n + 1 => if f n = 48 then trimN f n else n + 1

abbrev encB : UInt8 → Value := fun b => Value.int .u8 (b.toNat : Int)

set_option maxRecDepth 20000 in
set_option maxHeartbeats 800000 in
theorem setDigits_any (blk u n : Nat) (p : Int) (w : World) (hH : Holds encB w blk 0 (Array.replicate n (0 : UInt8))) (hn1 : 1 ≤ n) (hn2 : n ≤ 20) (hu : u < 10 ^ n) (hu64 : u < 18446744073709551616) (hp1 : -2000 ≤ p) (hp2 : p ≤ 2000) :
    Calls Tryz.prog 225 #[.slice (some ⟨blk, 0, none⟩) 24 24, .int .u64 u, .int .i64 p, .int .i64 n] w fun e w' =>
      e = .returned (.tuple #[.int .i64 (n + p), .int .i64 (trimN (fun t => dg u (n - 1 - t)) n)]) ∧ ∃ (k : Nat) (dk : Array UInt8), w' = (putRow encB w blk 0 dk).drewN k ∧ dk.size = n ∧ ∀ t, t < n → dk[t]! = dg u (n - 1 - t) := by
  have L := Tryz.internal_strconv_formatBase10 blk 0 24 u (Array.replicate n (0 : UInt8)) w hH (by simpa using hu) hu64 (by simp; omega)
  rw [Array.size_replicate] at L
  have H := hide L
  clear L
  go_enter Tryz.func225, Tryz.ntmps225
  go_wp2_with fail
  refine (unhide H).mono ?_
  rintro e w1 ⟨rfl, k, v', dk, hw, hI⟩
  have hds : dk.size = n := hI.size
  have hdone : ∀ t, t < n → dk[t]! = dg u (n - 1 - t) := fun t ht => hI.done t (Nat.zero_le _) ht
  have hcell : ∀ t, t < n → w1.cell? ⟨blk, t, none⟩ = some (.int .u8 ((dg u (n - 1 - t)).toNat : Int)) := by
    intro t ht
    rw [hw, World.cell?_drewN]
    have h := cell?_putRow encB w blk 0 (Array.replicate n (0 : UInt8)) dk hH (by simp [hds]) t (by omega)
    rw [Nat.zero_add, hdone t ht] at h
    exact h
  have HC := hide hcell
  have HE : Hid (∃ (k : Nat) (dk : Array UInt8), w1 = (putRow encB w blk 0 dk).drewN k ∧ dk.size = n ∧ ∀ t, t < n → dk[t]! = dg u (n - 1 - t)) := ⟨k, dk, hw, hds, hdone⟩
  clear hcell hdone hds hI hw
  go_wp2_with fail
  go_loop [3] (fun x => ∃ q : Nat, q ≤ n ∧ Hid (trimN (fun t => dg u (n - 1 - t)) n = trimN (fun t => dg u (n - 1 - t)) q) ∧ x = .int .i64 q) (fun x => (RowKit.intOf x).toNat)
  case atStart => exact ⟨n, Nat.le_refl _, rfl, rfl⟩
  case round =>
    obtain ⟨q, q1, q2, rfl⟩ := hrel
    by_cases h0 : q = 0
    · subst h0
      have q3 : Hid (trimN (fun t => dg u (n - 1 - t)) n = 0) := by have := unhide q2; rw [trimN] at this; exact this
      go_wp2_with fail
      go_ret2
      rw [unhide q3]
      exact ⟨rfl, unhide HE⟩
    · obtain ⟨j, rfl⟩ : ∃ j, q = j + 1 := ⟨q - 1, by omega⟩
      have hc := unhide HC j (by omega)
      by_cases hz : dg u (n - 1 - j) = 48
      · have q3 : Hid (trimN (fun t => dg u (n - 1 - t)) n = trimN (fun t => dg u (n - 1 - t)) j) := by have := unhide q2; rw [trimN, if_pos hz] at this; exact this
        have hz2 : ((dg u (n - 1 - j)).toNat : Int) = 48 := by rw [hz]; rfl
        rw [hz2] at hc
        clear hz hz2
        go_wp2_with fail
        go_round
        case rel => exact ⟨j, by omega, q3, by go_num⟩
        case measure => simp [RowKit.intOf]
      · have q3 : Hid (trimN (fun t => dg u (n - 1 - t)) n = j + 1) := by have := unhide q2; rw [trimN, if_neg hz] at this; exact this
        have hz2 : (((dg u (n - 1 - j)).toNat : Int) == 48) = false := by
          rw [beq_eq_false_iff_ne]; intro h; apply hz
          apply UInt8.toNat_inj.1
          show _ = 48
          omega
        clear hz
        go_wp2_with fail
        go_ret2
        rw [unhide q3]
        exact ⟨rfl, unhide HE⟩
end Go.Proofs.YtgekdmjneogdoaaGreatDoor
