import Derived.Test.YtgekdmjneogdoaaGreatDoorYFo1
import Derived.Test.YtgekdmjneogdoaaGreatDoorYMq1
namespace Go.Proofs.YtgekdmjneogdoaaGreatDoor
open Go.RowKit

/-! pick -/
def pickN (c : Int) (n : Nat) : Nat := (if c < 0 then -(c + 1) else c).toNat % n

theorem pickN_lt (c : Int) (n : Nat) (h : 0 < n) : pickN c n < n := Nat.mod_lt _ h

set_option maxRecDepth 20000 in
set_option maxHeartbeats 400000 in
theorem pick_any (c : Int) (n : Nat) (w : World) (hc1 : -9223372036854775808 ≤ c) (hc2 : c ≤ 9223372036854775807) (hn : 1 ≤ n) (hn2 : n ≤ 1000000) :
    Calls Tryz.prog 22 #[.int .i64 c, .int .i64 n] w fun e w' => e = .returned (.int .i64 (pickN c n)) ∧ w' = w := by
  have hp : pickN c n = (if c < 0 then -(c + 1) else c).toNat % n := rfl
  rcases Int.lt_or_le c 0 with h | h
  · obtain ⟨m, hm⟩ : ∃ m : Nat, -(c + 1) = (m : Int) := ⟨(-(c + 1)).toNat, by omega⟩
    rw [if_pos h, hm, Int.toNat_natCast] at hp
    have hlt : m % n < n := Nat.mod_lt _ (by omega)
    have hq : (m : Int) % (n : Int) = ((m % n : Nat) : Int) := (Int.natCast_emod m n).symm
    have HQ := hide (And.intro hp hq)
    have hm2 : m ≤ 9223372036854775807 := by omega
    obtain rfl : c = -(m : Int) - 1 := by omega
    clear hp hq hm
    go_enter Tryz.func22, Tryz.ntmps22
    go_wp2_with fail
    go_ret
    refine ⟨?_, rfl⟩
    apply retI
    rw [(unhide HQ).1]
    have h2 := (unhide HQ).2
    have h3 : wrap64 (-(wrap64 (-(m : Int) - 1 + 1))) = (m : Int) := by unfold wrap64; omega
    have h4 : -(-(m : Int) - 1 + 1) = (m : Int) := by omega
    first
      | (rw [h3, h2]; done)
      | (rw [h4, h2]; done)
      | (rw [← h2]; done)
      | (rw [← h2]; congr 1; omega)
  · obtain ⟨m, rfl⟩ : ∃ m : Nat, c = (m : Int) := ⟨c.toNat, by omega⟩
    rw [if_neg (by omega), Int.toNat_natCast] at hp
    have hlt : m % n < n := Nat.mod_lt _ (by omega)
    have hq : (m : Int) % (n : Int) = ((m % n : Nat) : Int) := (Int.natCast_emod m n).symm
    have HQ := hide (And.intro hp hq)
    clear hp hq
    go_enter Tryz.func22, Tryz.ntmps22
    go_wp2_with fail
    go_ret
    refine ⟨?_, rfl⟩
    apply retI
    rw [(unhide HQ).1]
    have h2 := (unhide HQ).2
    rw [h2]
end Go.Proofs.YtgekdmjneogdoaaGreatDoor

namespace Go.Proofs.YtgekdmjneogdoaaGreatDoor
open Go.RowKit

/-! the digits and the power of gaugekeep -/
def dg1 (k : Nat) : UInt8 := UInt8.ofNat (48 + k)

def powT (n : Int) : List UInt8 := (if n < 0 then [101, 45] else [101]) ++ [dg1 (pickN n 320 / 100), dg1 (pickN n 320 / 10 % 10), dg1 (pickN n 320 % 10)]

theorem ext_dg : ∀ j : Fin 10, (ByteArray.mk #[48, 49, 50, 51, 52, 53, 54, 55, 56, 57]).extract j.val (j.val + 1) = bs [dg1 j.val] := by decide
theorem cat4 {a a' b b' c c' d d' : ByteArray} (ha : a = a') (hb : b = b') (hc : c = c') (hd : d = d') : a ++ b ++ c ++ d = a' ++ b' ++ c' ++ d' := by rw [ha, hb, hc, hd]
theorem bs_plus (a b : List UInt8) : bs a ++ bs b = bs (a ++ b) := by
  apply ByteArray.ext
  simp [bs, ByteArray.data_append]

set_option maxRecDepth 20000 in
set_option maxHeartbeats 800000 in
theorem power_any (n : Int) (w : World) (h1 : -9223372036854775808 ≤ n) (h2 : n ≤ 9223372036854775807) :
    Calls Tryz.prog 21 #[.int .i64 n] w fun e w' => e = .returned (.string (bs (powT n))) ∧ ∃ q, w' = w.drewN q := by
  have HP := hide (pick_any n 320 w h1 h2 (by omega) (by omega))
  have hlt := pickN_lt n 320 (by omega)
  obtain ⟨k, hk⟩ : ∃ k, pickN n 320 = k := ⟨_, rfl⟩
  unfold powT
  rw [hk] at HP hlt ⊢
  clear hk
  by_cases hn : n < 0
  · rw [if_pos hn]
    go_enter Tryz.func21, Tryz.ntmps21
    go_wp2_with fail
    refine (unhide HP).mono ?_
    rintro e w' ⟨rfl, hw⟩
    rw [hw]
    clear hw
    go_wp2_with fail
    go_quiet (fail)
    go_wp2_with fail
    go_ret
    refine ⟨congrArg (fun z => Ending.returned (Value.string z)) ?_, _, rfl⟩
    have e1 := ext_dg ⟨k / 100, by omega⟩
    have e2 := ext_dg ⟨k / 10 % 10, by omega⟩
    have e3 := ext_dg ⟨k % 10, by omega⟩
    simp only at e1 e2 e3
    refine Eq.trans (cat4 (rfl : _ = bs [101, 45]) e1 e2 e3) ?_
    simp only [bs_plus]
    rfl
  · rw [if_neg hn]
    go_enter Tryz.func21, Tryz.ntmps21
    go_wp2_with fail
    refine (unhide HP).mono ?_
    rintro e w' ⟨rfl, hw⟩
    rw [hw]
    clear hw
    go_wp2_with fail
    go_quiet (fail)
    go_wp2_with fail
    go_ret
    refine ⟨congrArg (fun z => Ending.returned (Value.string z)) ?_, _, rfl⟩
    have e1 := ext_dg ⟨k / 100, by omega⟩
    have e2 := ext_dg ⟨k / 10 % 10, by omega⟩
    have e3 := ext_dg ⟨k % 10, by omega⟩
    simp only at e1 e2 e3
    refine Eq.trans (cat4 (rfl : _ = bs [101]) e1 e2 e3) ?_
    simp only [bs_plus]
    rfl
end Go.Proofs.YtgekdmjneogdoaaGreatDoor

namespace Go.Proofs.YtgekdmjneogdoaaGreatDoor
open Go.RowKit

/-! digits of gaugekeep -/
/-- a slice value that reads these ints -/
def RdI (K : Nat → Prop) (w : World) (v : Value) (l : List Int) : Prop :=
  ∃ ao cap, v = .slice ao l.length cap ∧ l.length ≤ cap ∧ (0 < l.length → ∃ g o, K g ∧ ao = some ⟨g, o, none⟩ ∧ ∀ j, j < l.length → w.cell? ⟨g, o + j, none⟩ = some (.int .i64 (l.getD j 0)))

def digL (l : List Int) (j : Nat) : List UInt8 := (l.take j).map fun c => dg1 (pickN c 10)
def digT (l : List Int) (most : Nat) : List UInt8 := if digL l most = [] then [55] else digL l most

theorem digL_step (l : List Int) (j : Nat) (h : j < l.length) : digL l (j + 1) = digL l j ++ [dg1 (pickN (l.getD j 0) 10)] := by
  unfold digL
  rw [List.take_succ_eq_append_getElem h, List.map_append]
  simp [List.getD, h]

theorem digL_len (l : List Int) (j : Nat) (h : j ≤ l.length) : (digL l j).length = j := by unfold digL; simp; omega

set_option maxRecDepth 20000 in
set_option maxHeartbeats 800000 in
theorem digits_any (v : Value) (l : List Int) (most : Nat) (w : World) (K : Nat → Prop) (hv : RdI K w v l) (hz : ∀ c ∈ l, -9223372036854775808 ≤ c ∧ c ≤ 9223372036854775807) (hl : l.length ≤ 9223372036854775807) (hm1 : 1 ≤ most) (hm : most ≤ 40) :
    Calls Tryz.prog 20 #[v, .int .i64 most] w fun e w' => e = .returned (.string (bs (digT l most))) ∧ ∃ q, w' = w.drewN q := by
  obtain ⟨ao, cap, rfl, hcap, hcell⟩ := hv
  have HC := hide hcell
  have HZ := hide hz
  clear hcell hz
  go_enter Tryz.func20, Tryz.ntmps20
  go_wp2_with fail
  go_loopw [5, 6] (fun sv iv wr => ∃ j q : Nat, j ≤ l.length ∧ j ≤ most ∧ sv = .string (bs (digL l j)) ∧ iv = .int .i64 (j : Int) ∧ wr = w.drewN q) (fun _ iv _ => most - (intOf iv).toNat)
  case atStart => exact ⟨0, 0, by omega, by omega, rfl, rfl, rfl⟩
  case round =>
    obtain ⟨j, q, j1, j2, rfl, rfl, hw⟩ := hrel
    rw [hw]
    clear hw
    by_cases hj : j < l.length
    · by_cases hj2 : j < most
      · obtain ⟨g, o, _, rfl, hc⟩ := unhide HC (by omega)
        have c0 := hc j hj
        have hmem : l.getD j 0 ∈ l := by simp [List.getD, hj]
        obtain ⟨z1, z2⟩ := unhide HZ _ hmem
        have hstep := digL_step l j hj
        have hlt := pickN_lt (l.getD j 0) 10 (by omega)
        have HP := hide (pick_any (l.getD j 0) 10 (w.drewN q) z1 z2 (by omega) (by omega))
        obtain ⟨k, hk⟩ : ∃ k, pickN (l.getD j 0) 10 = k := ⟨_, rfl⟩
        rw [hk] at HP hlt hstep
        obtain ⟨cv, hcv⟩ : ∃ cv, l.getD j 0 = cv := ⟨_, rfl⟩
        rw [hcv] at HP c0
        have HS := hide hstep
        have hlen : ¬ 9223372036854775807 < (bs (digL l j)).size + (min (k + 1) 10 - k) := by rw [bs_size, digL_len l j (by omega)]; omega
        clear hc hmem z1 z2 hk hcv hstep
        go_wp2_with fail
        refine (unhide HP).mono ?_
        rintro e w' ⟨rfl, hw⟩
        rw [hw]
        clear hw
        go_wp2_with fail
        refine ⟨⟨j + 1, q, by omega, by omega, ?_, by go_num, rfl⟩, ?_⟩
        · rw [unhide HS, show (ByteArray.mk #[48, 49, 50, 51, 52, 53, 54, 55, 56, 57]).extract k (k + 1) = bs [dg1 k] from ext_dg ⟨k, hlt⟩, bs_plus]
        · simp [intOf]; omega
      · have hj3 : ¬ (j : Int) < (most : Int) := by omega
        have hd : digL l j = digL l most := by rw [show j = most by omega]
        have he : (bs (digL l most)).toList.isEmpty = decide (digL l most = []) := by
          rw [Lib.toList_data, bs_list]
          cases digL l most <;> simp
        have HD : Hid (digT l most = if digL l most = [] then [55] else digL l most) := rfl
        generalize digL l most = X at *
        by_cases hX : X = []
        · rw [hX] at he HD hd
          have he2 : (bs []).toList.isEmpty = true := by rw [he]; rfl
          clear he
          subst hX
          go_wp2_with fail
          go_ret
          refine ⟨congrArg (fun z => Ending.returned (Value.string z)) ?_, _, rfl⟩
          rw [unhide HD, if_pos (by trivial)]
          rfl
        · rw [decide_eq_false hX] at he
          go_wp2_with fail
          go_ret
          refine ⟨congrArg (fun z => Ending.returned (Value.string z)) ?_, _, rfl⟩
          rw [unhide HD, if_neg hX]
    · have hj3 : ¬ (j : Int) < (l.length : Int) := by omega
      have hd : digL l j = digL l most := by
        unfold digL
        rw [List.take_of_length_le (by omega), List.take_of_length_le (by omega)]
      have he : (bs (digL l most)).toList.isEmpty = decide (digL l most = []) := by
        rw [Lib.toList_data, bs_list]
        cases digL l most <;> simp
      have HD : Hid (digT l most = if digL l most = [] then [55] else digL l most) := rfl
      generalize digL l most = X at *
      by_cases hX : X = []
      · rw [hX] at he HD hd
        have he2 : (bs []).toList.isEmpty = true := by rw [he]; rfl
        clear he
        subst hX
        go_wp2_with fail
        go_ret
        refine ⟨congrArg (fun z => Ending.returned (Value.string z)) ?_, _, rfl⟩
        rw [unhide HD, if_pos (by trivial)]
        rfl
      · rw [decide_eq_false hX] at he
        go_wp2_with fail
        go_ret
        refine ⟨congrArg (fun z => Ending.returned (Value.string z)) ?_, _, rfl⟩
        rw [unhide HD, if_neg hX]
end Go.Proofs.YtgekdmjneogdoaaGreatDoor

namespace Go.Proofs.YtgekdmjneogdoaaGreatDoor
open Go.RowKit

/-! the texts of Ordered are decimal texts -/
theorem dg1_dig (k : Nat) (h : k < 10) : 48 ≤ (dg1 k).toNat ∧ (dg1 k).toNat ≤ 57 := by
  have : (dg1 k).toNat = 48 + k := by
    unfold dg1
    rw [UInt8.toNat_ofNat']
    omega
  omega

def powX (n : Int) : Int := (if n < 0 then -1 else 1) * (expVal 0 [dg1 (pickN n 320 / 100), dg1 (pickN n 320 / 10 % 10), dg1 (pickN n 320 % 10)] : Int)

theorem pow_tail (n : Int) : TailOk (powT n) (powX n) := by
  have hlt := pickN_lt n 320 (by omega)
  unfold powT powX
  have hd : ∀ c, c ∈ [dg1 (pickN n 320 / 100), dg1 (pickN n 320 / 10 % 10), dg1 (pickN n 320 % 10)] → 48 ≤ c.toNat ∧ c.toNat ≤ 57 := by
    intro c hc
    simp only [List.mem_cons, List.not_mem_nil, or_false] at hc
    rcases hc with rfl | rfl | rfl
    · exact dg1_dig _ (by omega)
    · exact dg1_dig _ (by omega)
    · exact dg1_dig _ (by omega)
  by_cases hn : n < 0
  · rw [if_pos hn, if_pos hn]
    exact Or.inr ⟨_, -1, _, rfl, ⟨Or.inr (Or.inl ⟨rfl, rfl⟩), by simp, by simp, hd⟩, rfl⟩
  · rw [if_neg hn, if_neg hn]
    exact Or.inr ⟨_, 1, _, rfl, ⟨Or.inr (Or.inr ⟨rfl, rfl⟩), by simp, by simp, hd⟩, rfl⟩

theorem pow_len (n : Int) : (powT n).length ≤ 5 := by
  unfold powT
  by_cases hn : n < 0
  · rw [if_pos hn]; simp
  · rw [if_neg hn]; simp

theorem digT_digs (l : List Int) (most : Nat) : Digs (digT l most) := by
  unfold digT
  by_cases h : digL l most = []
  · rw [if_pos h]
    intro c hc
    simp only [List.mem_cons, List.not_mem_nil, or_false] at hc
    subst hc
    decide
  · rw [if_neg h]
    intro c hc
    unfold digL at hc
    obtain ⟨z, _, rfl⟩ := List.mem_map.1 hc
    exact dg1_dig _ (pickN_lt z 10 (by omega))

theorem digT_len (l : List Int) (most : Nat) (hm : 1 ≤ most) : 1 ≤ (digT l most).length ∧ (digT l most).length ≤ most := by
  unfold digT
  by_cases h : digL l most = []
  · rw [if_pos h]; simp; omega
  · rw [if_neg h]
    refine ⟨List.length_pos_iff.2 h, ?_⟩
    unfold digL
    simp
    omega

/-- a whole number's text, with a sign or not -/
theorem dec_whole (neg : Bool) (A : List UInt8) (n : Int) (hA : Digs A) (h0 : A ≠ []) (hl : A.length ≤ 34) : DecT ((if neg then [45] else []) ++ (A ++ powT n)) neg A [] (powT n) (powX n) := by
  refine ⟨by simp [decBody], hA, h0, fun c hc => (by cases hc), pow_tail n, ?_⟩
  have := pow_len n
  cases neg <;> simp <;> omega

/-- one with ".9" behind it -/
theorem dec_nine (A : List UInt8) (n : Int) (hA : Digs A) (h0 : A ≠ []) (hl : A.length ≤ 33) : DecT (A ++ [46, 57] ++ powT n) false A [57] (powT n) (powX n) := by
  refine ⟨by simp [decBody], hA, h0, fun c hc => ?_, pow_tail n, ?_⟩
  · simp only [List.mem_cons, List.not_mem_nil, or_false] at hc
    subst hc
    decide
  · have := pow_len n
    simp
    omega
end Go.Proofs.YtgekdmjneogdoaaGreatDoor

namespace Go.Proofs.YtgekdmjneogdoaaGreatDoor
open Go.RowKit

/-! what Ordered asks of nearest values -/
theorem near_le {N1 N2 : Nat} {y : Int} {v1 v2 : Nat} (h : N1 ≤ N2) (h1 : NearV (N1 * 10 ^ y.toNat) (10 ^ (-y).toNat) v1) (h2 : NearV (N2 * 10 ^ y.toNat) (10 ^ (-y).toNat) v2) : v1 ≤ v2 :=
  near_mono (Nat.pow_pos (by omega)) (Nat.pow_pos (by omega)) h1 h2 (Nat.mul_le_mul_right _ (Nat.mul_le_mul_right _ h))

theorem near_more {N g : Nat} {y : Int} {v1 v2 : Nat} (h1 : NearV (N * 10 ^ y.toNat) (10 ^ (-y).toNat) v1) (h2 : NearV ((N * 10 + g) * 10 ^ (y - 1).toNat) (10 ^ (-(y - 1)).toNat) v2) : v1 ≤ v2 := by
  refine near_mono (Nat.pow_pos (by omega)) (Nat.pow_pos (by omega)) h1 h2 ?_
  rw [Nat.mul_assoc, Nat.mul_assoc, ← Nat.pow_add, ← Nat.pow_add, show y.toNat + (-(y - 1)).toNat = 1 + ((y - 1).toNat + (-y).toNat) by omega, Nat.pow_add, ← Nat.mul_assoc, Nat.pow_one]
  exact Nat.mul_le_mul_right _ (by omega)

theorem expVal_nought (l : List UInt8) : expVal 0 (48 :: l) = expVal 0 l := rfl

theorem expVal_nine (l : List UInt8) : expVal 0 (l ++ [57]) = expVal 0 l * 10 + 9 := by
  rw [expVal_app]; rfl
end Go.Proofs.YtgekdmjneogdoaaGreatDoor

namespace Go.Proofs.YtgekdmjneogdoaaGreatDoor
open Go.RowKit

/-! of two texts of as many digits the order of the bytes is the order of the numbers -/
theorem expVal_step {e k : Nat} {c : UInt8} (r : List UInt8) (h : e * 10 + (c.toNat - 48) = k) : expVal e (c :: r) = expVal k r := by
  show expVal (e * 10 + (c.toNat - 48)) r = expVal k r
  rw [h]
theorem expVal_ge : ∀ (l : List UInt8) (v : Nat), v * 10 ^ l.length ≤ expVal v l := by
  intro l
  induction l with
  | nil =>
    intro v
    show v * 1 ≤ v
    omega
  | cons c r ih =>
    intro v
    obtain ⟨k, hk⟩ : ∃ k, v * 10 + (c.toNat - 48) = k := ⟨_, rfl⟩
    have h1 := ih k
    have h2 := expVal_step r hk
    have h3 : (v * 10) * 10 ^ r.length ≤ k * 10 ^ r.length := Nat.mul_le_mul_right _ (by omega)
    have h4 : v * 10 ^ (r.length + 1) = (v * 10) * 10 ^ r.length := by rw [Nat.pow_succ, Nat.mul_assoc, Nat.mul_comm (10 ^ r.length) 10]
    show v * 10 ^ (r.length + 1) ≤ _
    rw [h4, h2]
    exact Nat.le_trans h3 h1

theorem less_val : ∀ (X Y : List UInt8) (v : Nat), X.length = Y.length → Digs X → Digs Y → Op.bytesLess X Y = true → expVal v X ≤ expVal v Y := by
  intro X
  induction X with
  | nil =>
    intro Y v hl _ _ h
    cases Y with
    | nil => exact Nat.le_refl _
    | cons b Y => simp at hl
  | cons a X ih =>
    intro Y v hl hX hY h
    cases Y with
    | nil => simp at hl
    | cons b Y =>
      rw [List.length_cons, List.length_cons] at hl
      have hl2 : X.length = Y.length := by omega
      have hX2 : Digs X := fun c hc => hX c (List.mem_cons_of_mem _ hc)
      have hY2 : Digs Y := fun c hc => hY c (List.mem_cons_of_mem _ hc)
      obtain ⟨a1, a2⟩ := hX a List.mem_cons_self
      obtain ⟨b1, b2⟩ := hY b List.mem_cons_self
      simp only [Op.bytesLess, Bool.or_eq_true, Bool.and_eq_true, decide_eq_true_eq, beq_iff_eq] at h
      rcases h with h | ⟨rfl, h⟩
      · have h' : a.toNat < b.toNat := UInt8.lt_iff_toNat_lt.1 h
        obtain ⟨k, hk⟩ : ∃ k, v * 10 + (a.toNat - 48) = k := ⟨_, rfl⟩
        obtain ⟨m, hm⟩ : ∃ m, v * 10 + (b.toNat - 48) = m := ⟨_, rfl⟩
        have e1 := expVal_lt X k (fun c hc => (hX2 c hc).2)
        have e2 := expVal_ge Y m
        have e3 : (k + 1) * 10 ^ X.length ≤ m * 10 ^ Y.length := by
          rw [hl2]
          exact Nat.mul_le_mul_right _ (by omega)
        rw [expVal_step X hk, expVal_step Y hm]
        exact Nat.le_of_lt (Nat.lt_of_lt_of_le e1 (Nat.le_trans e3 e2))
      · obtain ⟨k, hk⟩ : ∃ k, v * 10 + (a.toNat - 48) = k := ⟨_, rfl⟩
        rw [expVal_step X hk, expVal_step Y hk]
        exact ih Y _ hl2 hX2 hY2 h

theorem less_turn : ∀ (X Y : List UInt8), Op.bytesLess X Y = false → X ≠ Y → Op.bytesLess Y X = true := by
  intro X
  induction X with
  | nil =>
    intro Y h hn
    cases Y with
    | nil => exact absurd rfl hn
    | cons b Y => simp [Op.bytesLess] at h
  | cons a X ih =>
    intro Y h hn
    cases Y with
    | nil => simp [Op.bytesLess]
    | cons b Y =>
      simp only [Op.bytesLess, Bool.or_eq_false_iff, Bool.and_eq_false_iff, decide_eq_false_iff_not, beq_eq_false_iff_ne] at h
      simp only [Op.bytesLess, Bool.or_eq_true, Bool.and_eq_true, decide_eq_true_eq, beq_iff_eq]
      by_cases e : a = b
      · subst e
        refine Or.inr ⟨rfl, ih Y ?_ (fun q => hn (by rw [q]))⟩
        rcases h.2 with q | q
        · exact absurd rfl q
        · exact q
      · refine Or.inl ?_
        have h1 : ¬ a.toNat < b.toNat := fun q => h.1 (UInt8.lt_iff_toNat_lt.2 q)
        have h2 : a.toNat ≠ b.toNat := fun q => e (UInt8.toNat_inj.1 q)
        exact UInt8.lt_iff_toNat_lt.2 (by omega)
theorem less_self : ∀ X : List UInt8, Op.bytesLess X X = false := by
  intro X
  induction X with
  | nil => rfl
  | cons a X ih => simp [Op.bytesLess, ih]
end Go.Proofs.YtgekdmjneogdoaaGreatDoor
