import Derived.Test.YtgekdmjneogdoaaGreatDoorYFo1
import Derived.Test.YtgekdmjneogdoaaGreatDoorYMq1
namespace Go.Proofs.YtgekdmjneogdoaaGreatDoor
open Go.RowKit

/-! pick -/
def pickN (c : Int) (n : Nat) : Nat := (if c < 0 then -(c + 1) else c).toNat % n

theorem pickN_lt (c : Int) (n : Nat) (h : 0 < n) : pickN c n < n := Nat.mod_lt _ h

set_option maxRecDepth 20000 in
set_option maxHeartbeats 400000 in
theorem pick_any (c : Int) (n : Nat) (w : World) (hc1 : -9223372036854775808 ≤ c) (hc2 : c ≤ 9223372036854775807) (hn : 1 ≤ n) (hn2 : n ≤ 1000000) :
    Calls Tryz.prog 22 #[.int .i64 c, .int .i64 n] w fun e w' => e = .returned (.int .i64 (pickN c n)) ∧ w' = w := by
  have hp : pickN c n = (if c < 0 then -(c + 1) else c).toNat % n := rfl
  rcases Int.lt_or_le c 0 with h | h
  · obtain ⟨m, hm⟩ : ∃ m : Nat, -(c + 1) = (m : Int) := ⟨(-(c + 1)).toNat, by omega⟩
    rw [if_pos h, hm, Int.toNat_natCast] at hp
    have hlt : m % n < n := Nat.mod_lt _ (by omega)
    have hq : (m : Int) % (n : Int) = ((m % n : Nat) : Int) := (Int.natCast_emod m n).symm
    have HQ := hide (And.intro hp hq)
    have hm2 : m ≤ 9223372036854775807 := by omega
    obtain rfl : c = -(m : Int) - 1 := by omega
    clear hp hq hm
    go_enter Tryz.func22, Tryz.ntmps22
    go_wp2_with fail
    go_ret
    refine ⟨?_, rfl⟩
    apply retI
    rw [(unhide HQ).1]
    have h2 := (unhide HQ).2
    have h3 : wrap64 (-(wrap64 (-(m : Int) - 1 + 1))) = (m : Int) := by unfold wrap64; omega
    have h4 : -(-(m : Int) - 1 + 1) = (m : Int) := by omega
    first
      | (rw [h3, h2]; done)
      | (rw [h4, h2]; done)
      | (rw [← h2]; done)
      | (rw [← h2]; congr 1; omega)
  · obtain ⟨m, rfl⟩ : ∃ m : Nat, c = (m : Int) := ⟨c.toNat, by omega⟩
    rw [if_neg (by omega), Int.toNat_natCast] at hp
    have hlt : m % n < n := Nat.mod_lt _ (by omega)
    have hq : (m : Int) % (n : Int) = ((m % n : Nat) : Int) := (Int.natCast_emod m n).symm
    have HQ := hide (And.intro hp hq)
    clear hp hq
    go_enter Tryz.func22, Tryz.ntmps22
    go_wp2_with fail
    go_ret
    refine ⟨?_, rfl⟩
    apply retI
    rw [(unhide HQ).1]
    have h2 := (unhide HQ).2
    rw [h2]
end Go.Proofs.YtgekdmjneogdoaaGreatDoor

namespace Go.Proofs.YtgekdmjneogdoaaGreatDoor
open Go.RowKit

/-! the digits and the power of gaugekeep -/
def dg1 (k : Nat) : UInt8 := UInt8.ofNat (48 + k)

theorem ext_dg : ∀ j : Fin 10, (ByteArray.mk #[48, 49, 50, 51, 52, 53, 54, 55, 56, 57]).extract j.val (j.val + 1) = bs [dg1 j.val] := by decide
theorem bs_plus (a b : List UInt8) : bs a ++ bs b = bs (a ++ b) := by
  apply ByteArray.ext
  simp [bs, ByteArray.data_append]

end Go.Proofs.YtgekdmjneogdoaaGreatDoor

namespace Go.Proofs.YtgekdmjneogdoaaGreatDoor
open Go.RowKit

/-! digits of gaugekeep -/
/-- a slice value that reads these ints -/
def RdI (K : Nat → Prop) (w : World) (v : Value) (l : List Int) : Prop :=
  ∃ ao cap, v = .slice ao l.length cap ∧ l.length ≤ cap ∧ (0 < l.length → ∃ g o, K g ∧ ao = some ⟨g, o, none⟩ ∧ ∀ j, j < l.length → w.cell? ⟨g, o + j, none⟩ = some (.int .i64 (l.getD j 0)))

def digL (l : List Int) (j : Nat) : List UInt8 := (l.take j).map fun c => dg1 (pickN c 10)
def digT (l : List Int) (most : Nat) : List UInt8 := if digL l most = [] then [55] else digL l most

theorem digL_step (l : List Int) (j : Nat) (h : j < l.length) : digL l (j + 1) = digL l j ++ [dg1 (pickN (l.getD j 0) 10)] := by
  unfold digL
  rw [List.take_succ_eq_append_getElem h, List.map_append]
  simp [List.getD, h]

theorem digL_len (l : List Int) (j : Nat) (h : j ≤ l.length) : (digL l j).length = j := by unfold digL; simp; omega

set_option maxRecDepth 20000 in
set_option maxHeartbeats 800000 in
theorem digits_any (v : Value) (l : List Int) (most : Nat) (w : World) (K : Nat → Prop) (hv : RdI K w v l) (hz : ∀ c ∈ l, -9223372036854775808 ≤ c ∧ c ≤ 9223372036854775807) (hl : l.length ≤ 9223372036854775807) (hm1 : 1 ≤ most) (hm : most ≤ 40) :
    Calls Tryz.prog 20 #[v, .int .i64 most] w fun e w' => e = .returned (.string (bs (digT l most))) ∧ ∃ q, w' = w.drewN q := by
  obtain ⟨ao, cap, rfl, hcap, hcell⟩ := hv
  have HC := hide hcell
  have HZ := hide hz
  clear hcell hz
  go_enter Tryz.func20, Tryz.ntmps20
  go_wp2_with fail
  go_loopw [5, 6] (fun sv iv wr => ∃ j q : Nat, j ≤ l.length ∧ j ≤ most ∧ sv = .string (bs (digL l j)) ∧ iv = .int .i64 (j : Int) ∧ wr = w.drewN q) (fun _ iv _ => most - (intOf iv).toNat)
  case atStart => exact ⟨0, 0, by omega, by omega, rfl, rfl, rfl⟩
  case round =>
    obtain ⟨j, q, j1, j2, rfl, rfl, hw⟩ := hrel
    rw [hw]
    clear hw
    by_cases hj : j < l.length
    · by_cases hj2 : j < most
      · obtain ⟨g, o, _, rfl, hc⟩ := unhide HC (by omega)
        have c0 := hc j hj
        have hmem : l.getD j 0 ∈ l := by simp [List.getD, hj]
        obtain ⟨z1, z2⟩ := unhide HZ _ hmem
        have hstep := digL_step l j hj
        have hlt := pickN_lt (l.getD j 0) 10 (by omega)
        have HP := hide (pick_any (l.getD j 0) 10 (w.drewN q) z1 z2 (by omega) (by omega))
        obtain ⟨k, hk⟩ : ∃ k, pickN (l.getD j 0) 10 = k := ⟨_, rfl⟩
        rw [hk] at HP hlt hstep
        obtain ⟨cv, hcv⟩ : ∃ cv, l.getD j 0 = cv := ⟨_, rfl⟩
        rw [hcv] at HP c0
        have HS := hide hstep
        have hlen : ¬ 9223372036854775807 < (bs (digL l j)).size + (min (k + 1) 10 - k) := by rw [bs_size, digL_len l j (by omega)]; omega
        clear hc hmem z1 z2 hk hcv hstep
        go_wp2_with fail
        refine (unhide HP).mono ?_
        rintro e w' ⟨rfl, hw⟩
        rw [hw]
        clear hw
        go_wp2_with fail
        refine ⟨⟨j + 1, q, by omega, by omega, ?_, by go_num, rfl⟩, ?_⟩
        · rw [unhide HS, show (ByteArray.mk #[48, 49, 50, 51, 52, 53, 54, 55, 56, 57]).extract k (k + 1) = bs [dg1 k] from ext_dg ⟨k, hlt⟩, bs_plus]
        · simp [intOf]; omega
      · have hj3 : ¬ (j : Int) < (most : Int) := by omega
        have hd : digL l j = digL l most := by rw [show j = most by omega]
        have he : (bs (digL l most)).toList.isEmpty = decide (digL l most = []) := by
          rw [Lib.toList_data, bs_list]
          cases digL l most <;> simp
        have HD : Hid (digT l most = if digL l most = [] then [55] else digL l most) := rfl
        generalize digL l most = X at *
        by_cases hX : X = []
        · rw [hX] at he HD hd
          have he2 : (bs []).toList.isEmpty = true := by rw [he]; rfl
          clear he
          subst hX
          go_wp2_with fail
          go_ret
          refine ⟨congrArg (fun z => Ending.returned (Value.string z)) ?_, _, rfl⟩
          rw [unhide HD, if_pos (by trivial)]
          rfl
        · rw [decide_eq_false hX] at he
          go_wp2_with fail
          go_ret
          refine ⟨congrArg (fun z => Ending.returned (Value.string z)) ?_, _, rfl⟩
          rw [unhide HD, if_neg hX]
    · have hj3 : ¬ (j : Int) < (l.length : Int) := by omega
      have hd : digL l j = digL l most := by
        unfold digL
        rw [List.take_of_length_le (by omega), List.take_of_length_le (by omega)]
      have he : (bs (digL l most)).toList.isEmpty = decide (digL l most = []) := by
        rw [Lib.toList_data, bs_list]
        cases digL l most <;> simp
      have HD : Hid (digT l most = if digL l most = [] then [55] else digL l most) := rfl
      generalize digL l most = X at *
      by_cases hX : X = []
      · rw [hX] at he HD hd
        have he2 : (bs []).toList.isEmpty = true := by rw [he]; rfl
        clear he
        subst hX
        go_wp2_with fail
        go_ret
        refine ⟨congrArg (fun z => Ending.returned (Value.string z)) ?_, _, rfl⟩
        rw [unhide HD, if_pos (by trivial)]
        rfl
      · rw [decide_eq_false hX] at he
        go_wp2_with fail
        go_ret
        refine ⟨congrArg (fun z => Ending.returned (Value.string z)) ?_, _, rfl⟩
        rw [unhide HD, if_neg hX]
end Go.Proofs.YtgekdmjneogdoaaGreatDoor

namespace Go.Proofs.YtgekdmjneogdoaaGreatDoor
open Go.RowKit

/-! the texts of Ordered are decimal texts -/
theorem dg1_dig (k : Nat) (h : k < 10) : 48 ≤ (dg1 k).toNat ∧ (dg1 k).toNat ≤ 57 := by
  have : (dg1 k).toNat = 48 + k := by
    unfold dg1
    rw [UInt8.toNat_ofNat']
    omega
  omega

theorem digT_digs (l : List Int) (most : Nat) : Digs (digT l most) := by
  unfold digT
  by_cases h : digL l most = []
  · rw [if_pos h]
    intro c hc
    simp only [List.mem_cons, List.not_mem_nil, or_false] at hc
    subst hc
    decide
  · rw [if_neg h]
    intro c hc
    unfold digL at hc
    obtain ⟨z, _, rfl⟩ := List.mem_map.1 hc
    exact dg1_dig _ (pickN_lt z 10 (by omega))

theorem digT_len (l : List Int) (most : Nat) (hm : 1 ≤ most) : 1 ≤ (digT l most).length ∧ (digT l most).length ≤ most := by
  unfold digT
  by_cases h : digL l most = []
  · rw [if_pos h]; simp; omega
  · rw [if_neg h]
    refine ⟨List.length_pos_iff.2 h, ?_⟩
    unfold digL
    simp
    omega

end Go.Proofs.YtgekdmjneogdoaaGreatDoor

namespace Go.Proofs.YtgekdmjneogdoaaGreatDoor
open Go.RowKit

/-! what Ordered asks of nearest values -/
theorem near_le {N1 N2 : Nat} {y : Int} {v1 v2 : Nat} (h : N1 ≤ N2) (h1 : NearV (N1 * 10 ^ y.toNat) (10 ^ (-y).toNat) v1) (h2 : NearV (N2 * 10 ^ y.toNat) (10 ^ (-y).toNat) v2) : v1 ≤ v2 :=
  near_mono (Nat.pow_pos (by omega)) (Nat.pow_pos (by omega)) h1 h2 (Nat.mul_le_mul_right _ (Nat.mul_le_mul_right _ h))

theorem expVal_nought (l : List UInt8) : expVal 0 (48 :: l) = expVal 0 l := rfl

end Go.Proofs.YtgekdmjneogdoaaGreatDoor

namespace Go.Proofs.YtgekdmjneogdoaaGreatDoor
open Go.RowKit

/-! of two texts of as many digits the order of the bytes is the order of the numbers -/
theorem expVal_step {e k : Nat} {c : UInt8} (r : List UInt8) (h : e * 10 + (c.toNat - 48) = k) : expVal e (c :: r) = expVal k r := by
  show expVal (e * 10 + (c.toNat - 48)) r = expVal k r
  rw [h]
end Go.Proofs.YtgekdmjneogdoaaGreatDoor
