import Derived.Test.YtgekdmjneogdoaaGreatDoorXBig
import Derived.Test.YtgekdmjneogdoaaGreatDoorXNy1
namespace Go.Proofs.YtgekdmjneogdoaaGreatDoor
open Go.RowKit

/-! what the document's search gives is the nearest value -/
theorem pm_fp (v : Nat) : pm v = fpM v := by
  unfold pm fpM
  by_cases h : v / 4503599627370496 = 0
  · rw [if_pos h, if_pos h]; omega
  · rw [if_neg h, if_neg h]
theorem pk_fp (v : Nat) : pk v = (fpE v : Int) - 1074 := by
  unfold pk fpE
  by_cases h : v / 4503599627370496 = 0
  · rw [if_pos h]; omega
  · rw [if_neg h]; omega

theorem cmp_b (m E N M : Nat) (k : Int) (hk : k = (E : Int) - 1075) : (N * bden k < bnum m k * M ↔ N * tw < m * 2 ^ E * M) ∧ (bnum m k * M < N * bden k ↔ m * 2 ^ E * M < N * tw) := by
  obtain ⟨c, hc⟩ : ∃ c, c = 1075 := ⟨_, rfl⟩
  rw [tw_pow c hc]
  unfold bden bnum
  by_cases h : c ≤ E
  · rw [show (-k).toNat = 0 by omega, show k.toNat = E - c by omega, Nat.pow_zero, Nat.mul_one]
    have e : m * 2 ^ E * M = m * 2 ^ (E - c) * M * 2 ^ c := by
      rw [Nat.mul_right_comm (m * 2 ^ (E - c)), Nat.mul_assoc m (2 ^ (E - c)), ← Nat.pow_add, show E - c + c = E by omega]
    rw [e]
    have hp : 0 < 2 ^ c := Nat.pow_pos (by omega)
    exact ⟨⟨fun h => Nat.mul_lt_mul_of_pos_right h hp, fun h => Nat.lt_of_mul_lt_mul_right h⟩, ⟨fun h => Nat.mul_lt_mul_of_pos_right h hp, fun h => Nat.lt_of_mul_lt_mul_right h⟩⟩
  · rw [show (-k).toNat = c - E by omega, show k.toNat = 0 by omega, Nat.pow_zero, Nat.mul_one]
    have e1 : N * 2 ^ c = N * 2 ^ (c - E) * 2 ^ E := by rw [Nat.mul_assoc, ← Nat.pow_add, show c - E + E = c by omega]
    have e2 : m * 2 ^ E * M = m * M * 2 ^ E := Nat.mul_right_comm _ _ _
    rw [e1, e2]
    have hp : 0 < 2 ^ E := Nat.pow_pos (by omega)
    exact ⟨⟨fun h => Nat.mul_lt_mul_of_pos_right h hp, fun h => Nat.lt_of_mul_lt_mul_right h⟩, ⟨fun h => Nat.mul_lt_mul_of_pos_right h hp, fun h => Nat.lt_of_mul_lt_mul_right h⟩⟩

theorem mid_val (v : Nat) (hv : 1 ≤ v) : Mid (v - 1) < fpM v * 2 ^ (fpE v + 1) := by
  rw [Nat.pow_succ]
  rcases fp_cases v with h | ⟨m, e, h1, h2, rfl⟩
  · rw [fpM_sub h, fpE_sub h, mid_sub (by omega)]; omega
  · rw [fpM_bits h1 h2, fpE_bits h1 h2]
    by_cases hm : m = 4503599627370496
    · cases e with
      | zero =>
        rw [mid_sub (by omega), hm]; omega
      | succ e =>
        have ev : m - 4503599627370496 + (e + 1 + 1) * 4503599627370496 - 1 = 9007199254740991 - 4503599627370496 + (e + 1) * 4503599627370496 := by omega
        rw [ev, mid_bits (by omega) (by omega), hm, Nat.pow_succ]
        have hp : 0 < 2 ^ e := Nat.pow_pos (by omega)
        omega
    · have ev : m - 4503599627370496 + (e + 1) * 4503599627370496 - 1 = (m - 1) - 4503599627370496 + (e + 1) * 4503599627370496 := by omega
      rw [ev, mid_bits (by omega) (by omega)]
      have hp : 0 < 2 ^ e := Nat.pow_pos (by omega)
      have e1 : m * (2 ^ e * 2) = (2 * m) * 2 ^ e := by rw [Nat.mul_comm (2 ^ e) 2, ← Nat.mul_assoc, Nat.mul_comm m 2]
      rw [e1]
      exact Nat.mul_lt_mul_of_pos_right (by omega) hp

theorem val_mid (v : Nat) : fpM v * 2 ^ (fpE v + 1) < Mid v := by
  unfold Mid
  have hp : 0 < 2 ^ fpE v := Nat.pow_pos (by omega)
  have e1 : fpM v * 2 ^ (fpE v + 1) = (2 * fpM v) * 2 ^ fpE v := by rw [Nat.pow_succ, Nat.mul_comm (2 ^ fpE v) 2, ← Nat.mul_assoc, Nat.mul_comm (fpM v) 2]
  rw [e1]
  exact Nat.mul_lt_mul_of_pos_right (by omega) hp

theorem above_iff (N M v : Nat) : aboveB N M v = decide (N * tw < fpM v * 2 ^ (fpE v + 1) * M) := by
  unfold aboveB
  rw [pm_fp]
  have h := (cmp_b (fpM v) (fpE v + 1) N M (pk v) (by rw [pk_fp]; omega)).1
  by_cases c : N * tw < fpM v * 2 ^ (fpE v + 1) * M
  · rw [decide_eq_true c, decide_eq_true (h.2 c)]
  · rw [decide_eq_false c, decide_eq_false (fun q => c (h.1 q))]

theorem near_ref {N M lo : Nat} (hM : 0 < M) (h1 : lo < 9218868437227405312) (h2 : aboveB N M lo = false) (h3 : lo + 1 = 9218868437227405312 ∨ aboveB N M (lo + 1) = true) :
    NearV N M (if N * bden (pk lo - 1) < bnum (2 * pm lo + 1) (pk lo - 1) * M ∨ (¬ bnum (2 * pm lo + 1) (pk lo - 1) * M < N * bden (pk lo - 1) ∧ lo % 2 = 0) then lo else lo + 1) := by
  obtain ⟨c1, c2⟩ := cmp_b (2 * pm lo + 1) (fpE lo) N M (pk lo - 1) (by rw [pk_fp]; omega)
  have em : (2 * pm lo + 1) * 2 ^ fpE lo = Mid lo := by rw [pm_fp]; rfl
  rw [em] at c1 c2
  rw [above_iff, decide_eq_false_iff_not] at h2
  have lo1 : lo ≠ 0 → Mid (lo - 1) * M < N * tw := fun h0 => by
    have a := Nat.mul_lt_mul_of_pos_right (mid_val lo (by omega)) hM
    omega
  have hi1 : lo + 1 ≠ 9218868437227405312 → N * tw < Mid (lo + 1) * M := fun h0 => by
    rcases h3 with h | h
    · exact absurd h h0
    · rw [above_iff, decide_eq_true_eq] at h
      have a := Nat.mul_lt_mul_of_pos_right (val_mid (lo + 1)) hM
      omega
  generalize bnum (2 * pm lo + 1) (pk lo - 1) * M = P at *
  generalize N * bden (pk lo - 1) = Q at *
  split
  · rename_i h
    refine ⟨by omega, fun h0 => Or.inl (lo1 h0), fun _ => ?_⟩
    rcases h with h | ⟨h, he⟩
    · exact Or.inl (c1.1 h)
    · by_cases hq : Q < P
      · exact Or.inl (c1.1 hq)
      · have a1 : ¬ N * tw < Mid lo * M := fun q => hq (c1.2 q)
        have a2 : ¬ Mid lo * M < N * tw := fun q => h (c2.2 q)
        exact Or.inr ⟨by omega, he⟩
  · rename_i h
    refine ⟨by omega, fun _ => ?_, fun h0 => Or.inl (hi1 h0)⟩
    rw [show lo + 1 - 1 = lo by omega]
    have hq : ¬ Q < P := fun q => h (Or.inl q)
    have a1 : ¬ N * tw < Mid lo * M := fun q => hq (c1.2 q)
    by_cases hp : P < Q
    · exact Or.inl (c2.1 hp)
    · have a2 : ¬ Mid lo * M < N * tw := fun q => hp (c2.2 q)
      have he : lo % 2 ≠ 0 := fun q => h (Or.inr ⟨hp, q⟩)
      exact Or.inr ⟨by omega, by omega⟩
end Go.Proofs.YtgekdmjneogdoaaGreatDoor
