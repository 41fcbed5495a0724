import Derived.Test.YtgekdmjneogdoaaGreatDoorXAw3
import Derived.Test.YtgekdmjneogdoaaGreatDoorXNy1
namespace Go.Proofs.YtgekdmjneogdoaaGreatDoor
open Go.RowKit

/-! the digits of a value: what fixedWidthFloat asks, and what it gives -/
def logOk2 (k : Nat) : Bool :=
  let x : Int := (k : Int) - 1140
  let t := x * 78913 / 262144
  if 0 ≤ x then decide (2 ^ x.toNat < 10 ^ (t + 1).toNat) else decide (10 ^ (-t - 1).toNat < 2 ^ (-x).toNat)

set_option maxRecDepth 100000 in
theorem logs_ok2 : ((List.range 2170).all logOk2) = true := by decide +kernel

theorem log_ok2 (x : Int) (h1 : -1140 ≤ x) (h2 : x < 1030) : (0 ≤ x → 2 ^ x.toNat < 10 ^ (x * 78913 / 262144 + 1).toNat) ∧ (x < 0 → 10 ^ (-(x * 78913 / 262144) - 1).toNat < 2 ^ (-x).toNat) := by
  have h := List.all_eq_true.1 logs_ok2 (x + 1140).toNat (List.mem_range.2 (by omega))
  unfold logOk2 at h
  rw [show (((x + 1140).toNat : Nat) : Int) - 1140 = x by omega] at h
  constructor
  · intro hx
    simpa only [if_pos hx, decide_eq_true_eq] using h
  · intro hx
    simpa only [if_neg (show ¬ 0 ≤ x by omega), decide_eq_true_eq] using h

/-- a value is below the next power of ten, and twice -/
theorem ten_gt (x : Int) (n i : Nat) (h1 : -1140 ≤ x) (h2 : x < 1030) (hi : (i : Int) = 348 + (n : Int) - x * 78913 / 262144) (C : Nat) (hC : -x ≤ C) : tenU i * 2 ^ (x + C).toNat < 10 ^ (n + 1) * tenD i * 2 ^ C := by
  obtain ⟨g1, g2⟩ := log_ok2 x h1 h2
  have hpC : 0 < 2 ^ C := Nat.pow_pos (by omega)
  by_cases hx : 0 ≤ x
  · have hg := g1 hx
    have e6 : (x + C).toNat = x.toNat + C := by omega
    rw [e6, Nat.pow_add, ← Nat.mul_assoc]
    refine Nat.mul_lt_mul_of_pos_right ?_ hpC
    by_cases hc : 348 ≤ i
    · have e1 : tenU i = 10 ^ (i - 348) := if_pos hc
      have e3 : tenD i = 1 := if_pos hc
      rw [e1, e3, Nat.mul_one]
      have e5 : n + 1 = (i - 348) + (x * 78913 / 262144 + 1).toNat := by omega
      rw [e5, Nat.pow_add]
      exact Nat.mul_lt_mul_of_pos_left hg (Nat.pow_pos (by omega))
    · have e1 : tenU i = 1 := if_neg hc
      have e3 : tenD i = 10 ^ (348 - i) := if_neg hc
      rw [e1, e3, Nat.one_mul, ← Nat.pow_add]
      have e5 : n + 1 + (348 - i) = (x * 78913 / 262144 + 1).toNat := by omega
      rw [e5]; exact hg
  · have hg := g2 (by omega)
    have hc : 348 ≤ i := by omega
    have e1 : tenU i = 10 ^ (i - 348) := if_pos hc
    have e3 : tenD i = 1 := if_pos hc
    have e6 : C = (-x).toNat + (x + C).toNat := by omega
    have e2 : 2 ^ C = 2 ^ (-x).toNat * 2 ^ (x + C).toNat := by rw [← Nat.pow_add, ← e6]
    rw [e1, e3, Nat.mul_one, e2, ← Nat.mul_assoc]
    refine Nat.mul_lt_mul_of_pos_right ?_ (Nat.pow_pos (by omega))
    have e5 : i - 348 = (n + 1) + (-(x * 78913 / 262144) - 1).toNat := by omega
    rw [e5, Nat.pow_add]
    exact Nat.mul_lt_mul_of_pos_left hg (Nat.pow_pos (by omega))

theorem pow17 (n : Nat) (h1 : 1 ≤ n) (h2 : n ≤ 17) : 10 ≤ 10 ^ n ∧ 10 ^ n ≤ 100000000000000000 := by
  have a : 10 ^ 1 ≤ 10 ^ n := Nat.pow_le_pow_right (by omega) h1
  have b : 10 ^ n ≤ 10 ^ 17 := Nat.pow_le_pow_right (by omega) h2
  omega

theorem fix_bounds (x : Int) (n : Nat) (h1 : -1074 ≤ x) (h2 : x ≤ 1023) (hn1 : 1 ≤ n) (hn2 : n ≤ 17) :
    -310 ≤ (n : Int) - 1 - x * 78913 / 262144 ∧ (n : Int) - 1 - x * 78913 / 262144 ≤ 342 ∧ 0 ≤ 60 - x - ((n : Int) - 1 - x * 78913 / 262144) * 108853 / 32768 ∧ 60 - x - ((n : Int) - 1 - x * 78913 / 262144) * 108853 / 32768 < 64 := by
  obtain ⟨t, ht⟩ : ∃ t, x * 78913 / 262144 = t := ⟨_, rfl⟩
  rw [ht]
  omega

/-- the digits: how many, and how near -/
theorem fixD_all (v L n : Nat) (hv0 : 1 ≤ v) (hv : v < 9218868437227405312) (hL1 : 2 ^ (L - 1) ≤ fpM v) (hL2 : fpM v < 2 ^ L) (hL3 : 1 ≤ L) (hL4 : L ≤ 53) (hn1 : 1 ≤ n) (hn2 : n ≤ 17) (e : Int) (he : e = (fpE v : Int) - 1138 + L) (d : Nat) (q : Int) (hd : fixD (fpM v * 2 ^ (64 - L)) e n = (d, q)) :
    fixOk (fpM v * 2 ^ (64 - L)) e n = true ∧ 1 ≤ d ∧ d < 10 ^ n ∧ -380 ≤ q ∧ q ≤ 380 ∧ (n = 17 → NearV (d * 10 ^ q.toNat) (10 ^ (-q).toNat) v) := by
  have hE : fpE v ≤ 2045 := by
    rcases fp_cases v with h | ⟨m, e, h1, h2, rfl⟩
    · rw [fpE_sub h]; omega
    · rw [fpE_bits h1 h2]; omega
  obtain ⟨x, hx⟩ : ∃ x, e + 63 = x := ⟨_, rfl⟩
  obtain ⟨p1, p2, s1, s2⟩ := fix_bounds x n (by omega) (by omega) hn1 hn2
  obtain ⟨g1, g2⟩ := pow17 n hn1 hn2
  have hM1 : 1 ≤ fpM v := Nat.le_trans (Nat.pow_pos (by omega)) hL1
  obtain ⟨p, hp⟩ : ∃ p, fixP e n = p := ⟨_, rfl⟩
  have hp' : p = (n : Int) - 1 - x * 78913 / 262144 := by rw [← hp, ← hx]; rfl
  obtain ⟨i, hi⟩ : ∃ i, fixI e n = i := ⟨_, rfl⟩
  have hi' : (i : Int) = p + 348 := by rw [← hi]; unfold fixI; rw [hp]; omega
  have hlg : p * 108853 / 32768 = lgI i := by unfold lgI; rw [hi']; congr 2; omega
  obtain ⟨s, hs⟩ : ∃ s, fixS e n = s := ⟨_, rfl⟩
  have hs' : (s : Int) = 60 - x - lgI i := by rw [← hs, ← hlg]; unfold fixS; rw [hp]; rw [← hp'] at s1; omega
  have hi2 : i < 696 := by omega
  obtain ⟨u, hu⟩ : ∃ u, uscaleN (fpM v * 2 ^ (64 - L)) (powHi i) (powLo i) s = u := ⟨_, rfl⟩
  have hfu : fixU (fpM v * 2 ^ (64 - L)) e n = u := by unfold fixU; rw [hi, hs]; exact hu
  obtain ⟨C, hC⟩ : ∃ C, C = 1010 := ⟨_, rfl⟩
  have hss : (s : Int) = 1135 - (fpE v : Int) - L - lgI i := by omega
  have up := fun k hk hle => fix_up (fpM v) L (fpE v) i s k hi2 (by omega) hM1 hL2 hss hk hle C hC
  have dn := fun k hk hk1 hle => fix_dn (fpM v) L (fpE v) i s k hi2 (by omega) hM1 hL2 hss hk hk1 hle C hC
  rw [hu] at up dn
  have hc : 0 < tenD i * 2 ^ C := Nat.mul_pos (tenD_pos i) (Nat.pow_pos (by omega))
  -- no less than a power of ten, less than twice the next
  have hlow : 18446744073709551616 * (10 ^ (n - 1) * (tenD i * 2 ^ C)) ≤ fpM v * (tenU i * 2 ^ fpE v) := by
    have e0 : 2 ^ ((L - 1) + fpE v + 1) = 2 ^ (L - 1) * 2 ^ fpE v * 2 := by rw [Nat.pow_succ, Nat.pow_add]
    have h1 := ten_le x (n - 1) i (by omega) (by omega) (by omega) (C + 65) (by omega)
    rw [show (x + ((C + 65 : Nat) : Int)).toNat = (L - 1) + fpE v + 1 by omega, Nat.pow_add 2 C 65, show (2 : Nat) ^ 65 = 36893488147419103232 by decide, e0] at h1
    have h2 : 2 ^ (L - 1) * (2 ^ fpE v * tenU i) ≤ fpM v * (2 ^ fpE v * tenU i) := Nat.mul_le_mul_right _ hL1
    rw [Nat.mul_comm (tenU i)]
    have e1 : 10 ^ (n - 1) * tenD i * (2 ^ C * 36893488147419103232) = 36893488147419103232 * (10 ^ (n - 1) * (tenD i * 2 ^ C)) := by
      rw [← Nat.mul_assoc, Nat.mul_comm _ 36893488147419103232, Nat.mul_assoc]
    have e2 : tenU i * (2 ^ (L - 1) * 2 ^ fpE v * 2) = 2 * (2 ^ (L - 1) * (2 ^ fpE v * tenU i)) := by
      rw [Nat.mul_comm (tenU i), Nat.mul_comm _ 2, Nat.mul_assoc, Nat.mul_assoc]
    rw [e1, e2] at h1
    generalize 2 ^ (L - 1) * (2 ^ fpE v * tenU i) = a at *
    generalize fpM v * (2 ^ fpE v * tenU i) = b at *
    generalize 10 ^ (n - 1) * (tenD i * 2 ^ C) = c at *
    omega
  have hhigh : fpM v * (tenU i * 2 ^ fpE v) < 36893488147419103232 * (10 ^ n * (tenD i * 2 ^ C)) := by
    have h1 := ten_gt x (n - 1) i (by omega) (by omega) (by omega) (C + 65) (by omega)
    rw [show (x + ((C + 65 : Nat) : Int)).toNat = L + fpE v by omega, Nat.pow_add 2 C 65, show (2 : Nat) ^ 65 = 36893488147419103232 by decide, Nat.pow_add, show n - 1 + 1 = n by omega] at h1
    have h2 : fpM v * (2 ^ fpE v * tenU i) < 2 ^ L * (2 ^ fpE v * tenU i) := Nat.mul_lt_mul_of_pos_right hL2 (Nat.mul_pos (Nat.pow_pos (by omega)) (by
      rcases Nat.eq_zero_or_pos (tenU i) with z | z
      · unfold tenU at z
        split at z
        · have : 0 < 10 ^ (i - 348) := Nat.pow_pos (by omega)
          omega
        · omega
      · exact z))
    have e1 : 10 ^ n * tenD i * (2 ^ C * 36893488147419103232) = 36893488147419103232 * (10 ^ n * (tenD i * 2 ^ C)) := by
      rw [← Nat.mul_assoc, Nat.mul_comm _ 36893488147419103232, Nat.mul_assoc]
    have e2 : tenU i * (2 ^ L * 2 ^ fpE v) = 2 ^ L * (2 ^ fpE v * tenU i) := by
      rw [Nat.mul_comm (tenU i), Nat.mul_assoc]
    rw [e1, e2] at h1
    rw [Nat.mul_comm (tenU i)]
    exact Nat.lt_trans h2 h1
  have hu1 : u ≤ 8 * 10 ^ n + 1 := by
    rcases Nat.lt_or_ge u (8 * 10 ^ n + 2) with z | z
    · omega
    · exfalso
      have h1 := dn (8 * 10 ^ n + 2) (by omega) (by omega) z
      have h2 : ((8 * 10 ^ n + 2) * 4611686018427387904 - 1) * (tenD i * 2 ^ C) < 36893488147419103232 * 10 ^ n * (tenD i * 2 ^ C) := by
        rw [Nat.mul_assoc 36893488147419103232]; omega
      have h3 := Nat.lt_of_mul_lt_mul_right h2
      omega
  have hu2 : 3 ≤ u := by
    rcases Nat.lt_or_ge u 3 with z | z
    · exfalso
      have h1 := up 2 (by omega) (by omega)
      have h2 : 1 * (tenD i * 2 ^ C) ≤ 10 ^ (n - 1) * (tenD i * 2 ^ C) := Nat.mul_le_mul_right _ (Nat.pow_pos (by omega))
      generalize fpM v * (tenU i * 2 ^ fpE v) = b at *
      generalize 10 ^ (n - 1) * (tenD i * 2 ^ C) = c at *
      generalize tenD i * 2 ^ C = f at *
      omega
    · exact z
  have hx64 : fpM v * 2 ^ (64 - L) < 18446744073709551616 := by
    have h1 := Nat.mul_lt_mul_of_pos_right hL2 (Nat.pow_pos (n := 64 - L) (by omega : 0 < 2))
    rw [← Nat.pow_add, show L + (64 - L) = 64 by omega] at h1
    exact h1
  obtain ⟨t1, t2⟩ := tens p (by omega)
  rw [show (p + 348).toNat = i by omega] at t1 t2
  unfold fixD at hd
  rw [hfu, hp] at hd
  refine ⟨?_, ?_⟩
  · unfold fixOk
    rw [hfu, hp, hi, hs]
    simp only [Bool.and_eq_true, decide_eq_true_eq]
    rw [hlg]
    refine ⟨⟨⟨⟨⟨⟨⟨⟨⟨hx64, hn1⟩, by omega⟩, by omega⟩, by omega⟩, by omega⟩, hi2⟩, by omega⟩, by omega⟩, by omega⟩
  · by_cases hb : 4 * 10 ^ n - 2 ≤ u
    · rw [if_pos hb] at hd
      injection hd with hd1 hd2
      obtain ⟨b1, b2⟩ := div_back u d hd1
      refine ⟨by omega, by omega, by omega, by omega, fun h17 => ?_⟩
      subst h17
      have hN := (fix17 v L i s u C hC hv0 hv hL1 hL2 hL3 hL4 (by omega) hi2 hss hu).2 (by omega)
      rw [hd1, t1, t2] at hN
      refine near_congr (Nat.pow_pos (by omega)) (Nat.pow_pos (by omega)) ?_ hN
      rw [← hd2, Nat.mul_assoc d, Nat.mul_assoc d, Nat.mul_assoc d]
      congr 1
      rw [← Nat.pow_add, ← Nat.pow_succ', ← Nat.pow_add]
      congr 1
      omega
    · rw [if_neg hb] at hd
      injection hd with hd1 hd2
      obtain ⟨b1, b2⟩ := round_back u d hd1
      refine ⟨by omega, by omega, by omega, by omega, fun h17 => ?_⟩
      subst h17
      have hN := (fix17 v L i s u C hC hv0 hv hL1 hL2 hL3 hL4 (by omega) hi2 hss hu).1 (by omega)
      rw [hd1, t1, t2] at hN
      rw [← hd2, Int.neg_neg]
      exact hN
end Go.Proofs.YtgekdmjneogdoaaGreatDoor
