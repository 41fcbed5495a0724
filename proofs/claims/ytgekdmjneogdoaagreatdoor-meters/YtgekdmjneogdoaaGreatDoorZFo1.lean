import Derived.Test.YtgekdmjneogdoaaGreatDoorZMt1
namespace Go.Proofs.YtgekdmjneogdoaaGreatDoor
open Go.RowKit

/-! numbers in their order, off their bits -/
def ordI (v : Nat) : Int := if 9223372036854775808 ≤ v then -((v % 9223372036854775808 : Nat) : Int) else ((v % 9223372036854775808 : Nat) : Int)

def isNum (v : Nat) : Prop := v < 18446744073709551616 ∧ v % 9223372036854775808 ≤ 9218868437227405312

/-- a rung's magnitude, in units of the least one -/
def magR (r : Nat) : Nat := if r < 4503599627370496 then r else (4503599627370496 + r % 4503599627370496) * 2 ^ (r / 4503599627370496 - 1)

theorem magR_lt {r s : Nat} (h : r < s) : magR r < magR s := by
  have e1 : r = 4503599627370496 * (r / 4503599627370496) + r % 4503599627370496 := (Nat.div_add_mod _ _).symm
  have e2 : s = 4503599627370496 * (s / 4503599627370496) + s % 4503599627370496 := (Nat.div_add_mod _ _).symm
  have f1 : r % 4503599627370496 < 4503599627370496 := Nat.mod_lt _ (by omega)
  have f2 : s % 4503599627370496 < 4503599627370496 := Nat.mod_lt _ (by omega)
  unfold magR
  generalize hq : r / 4503599627370496 = q at *
  generalize hf : r % 4503599627370496 = f at *
  generalize hp : s / 4503599627370496 = p at *
  generalize hg : s % 4503599627370496 = g at *
  by_cases c1 : r < 4503599627370496
  · by_cases c2 : s < 4503599627370496
    · rw [if_pos c1, if_pos c2]; exact h
    · rw [if_pos c1, if_neg c2]
      have : 1 ≤ 2 ^ (p - 1) := Nat.one_le_two_pow
      have h2 : 4503599627370496 * 1 ≤ (4503599627370496 + g) * 2 ^ (p - 1) := Nat.mul_le_mul (by omega) this
      omega
  · have c2 : ¬ s < 4503599627370496 := by omega
    rw [if_neg c1, if_neg c2]
    have hq1 : 1 ≤ q := by omega
    have hpq : q ≤ p := by omega
    rcases Nat.lt_or_ge q p with hlt | hge
    · have k1 : (4503599627370496 + f) * 2 ^ (q - 1) < (4503599627370496 + 4503599627370496) * 2 ^ (q - 1) := Nat.mul_lt_mul_of_pos_right (by omega) (Nat.two_pow_pos _)
      have k2 : (4503599627370496 + 4503599627370496) * 2 ^ (q - 1) = 4503599627370496 * 2 ^ q := by
        have : 2 ^ q = 2 * 2 ^ (q - 1) := by
          conv => lhs; rw [show q = (q - 1) + 1 by omega, Nat.pow_succ, Nat.mul_comm]
        rw [this]; omega
      have k3 : 4503599627370496 * 2 ^ q ≤ (4503599627370496 + g) * 2 ^ (p - 1) := Nat.mul_le_mul (by omega) (Nat.pow_le_pow_right (by omega) (by omega))
      omega
    · obtain rfl : q = p := by omega
      exact Nat.mul_lt_mul_of_pos_right (by omega) (Nat.two_pow_pos _)

theorem magR_cmp (r s : Nat) : (magR r < magR s ↔ r < s) ∧ (magR r = magR s ↔ r = s) := by
  rcases Nat.lt_trichotomy r s with h | h | h
  · have := magR_lt h
    omega
  · subst h; omega
  · have := magR_lt h
    omega

theorem cmp_lt {a b : Int} (h : a < b) : compare a b = .lt := by
  rw [Int.compare_eq_lt]; exact h
theorem cmp_gt {a b : Int} (h : b < a) : compare a b = .gt := by
  rw [Int.compare_eq_gt]; exact h
theorem cmp_eq {a b : Int} (h : a = b) : compare a b = .eq := by
  rw [Int.compare_eq_eq]; exact h

theorem cmp_same {a b c d : Int} (h1 : a < b ↔ c < d) (h2 : a = b ↔ c = d) : compare a b = compare c d := by
  rcases Int.lt_trichotomy a b with h | h | h
  · rw [cmp_lt h, cmp_lt (h1.1 h)]
  · rw [cmp_eq h, cmp_eq (h2.1 h)]
  · have n1 : ¬ c < d := fun k => by have := h1.2 k; omega
    have n2 : ¬ c = d := fun k => by have := h2.2 k; omega
    rw [cmp_gt h, cmp_gt (by omega)]

def sgI (s : Bool) (x : Nat) : Int := if s then -(x : Int) else (x : Int)

theorem sg_mul (s t : Bool) (x y c : Nat) (hc : 0 < c) : compare (sgI s x) (sgI t y) = compare (sgI s (x * c)) (sgI t (y * c)) := by
  have key : ∀ u v : Int, (u < v ↔ u * (c : Int) < v * (c : Int)) ∧ (u = v ↔ u * (c : Int) = v * (c : Int)) := by
    intro u v
    have hc' : (0 : Int) < c := by omega
    rcases Int.lt_trichotomy u v with h | h | h
    · have := Int.mul_lt_mul_of_pos_right h hc'
      omega
    · subst h; omega
    · have := Int.mul_lt_mul_of_pos_right h hc'
      omega
  have e1 : sgI s (x * c) = sgI s x * (c : Int) := by
    unfold sgI; split
    · rw [Int.natCast_mul, Int.neg_mul]
    · rw [Int.natCast_mul]
  have e2 : sgI t (y * c) = sgI t y * (c : Int) := by
    unfold sgI; split
    · rw [Int.natCast_mul, Int.neg_mul]
    · rw [Int.natCast_mul]
  rw [e1, e2]
  exact cmp_same (key _ _).1 (key _ _).2

theorem order_num (s t : Bool) (m n e k : Nat) (L : Int) : (Ieee.Datum.number s m (L + e)).order (Ieee.Datum.number t n (L + k)) = some (compare (sgI s (m * 2 ^ e)) (sgI t (n * 2 ^ k))) := by
  show some (compare (Ieee.signed s m ((L + e) - min (L + e) (L + k)).toNat) (Ieee.signed t n ((L + k) - min (L + e) (L + k)).toNat)) = _
  have h1 : ((L + (e : Int)) - min (L + e) (L + k)).toNat = e - min e k := by omega
  have h2 : ((L + (k : Int)) - min (L + e) (L + k)).toNat = k - min e k := by omega
  rw [h1, h2]
  have hs : ∀ (b : Bool) (x u : Nat), Ieee.signed b x u = sgI b (x * 2 ^ u) := by
    intro b x u
    unfold Ieee.signed sgI
    rw [Nat.shiftLeft_eq]
  rw [hs, hs, sg_mul s t _ _ (2 ^ min e k) (Nat.two_pow_pos _)]
  have h3 : m * 2 ^ (e - min e k) * 2 ^ min e k = m * 2 ^ e := by
    rw [Nat.mul_assoc, ← Nat.pow_add]; congr 2; omega
  have h4 : n * 2 ^ (k - min e k) * 2 ^ min e k = n * 2 ^ k := by
    rw [Nat.mul_assoc, ← Nat.pow_add]; congr 2; omega
  rw [h3, h4]

theorem neg_bit (v : Nat) (h : v < 18446744073709551616) : (v / 9223372036854775808 % 2 == 1) = decide (9223372036854775808 ≤ v) := by
  by_cases c : 9223372036854775808 ≤ v
  · have : v / 9223372036854775808 = 1 := by omega
    simp [this, c]
  · have : v / 9223372036854775808 = 0 := by omega
    simp [this, c]

theorem read_num (v : Nat) (h : v < 18446744073709551616) (hf : v % 9223372036854775808 < 9218868437227405312) :
    ∃ m e : Nat, FloatKind.f64.format.read v = .number (decide (9223372036854775808 ≤ v)) m ((-1074 : Int) + e) ∧ m * 2 ^ e = magR (v % 9223372036854775808) := by
  have hb : Ieee.double.binade = 4503599627370496 := by decide
  have hi : Ieee.double.infRung = 9218868437227405312 := by decide
  have hw : Ieee.double.signWeight = 9223372036854775808 := by decide
  have hL : Ieee.double.leastPlace = -1074 := by decide
  show ∃ m e : Nat, Ieee.double.read v = _ ∧ _
  unfold Ieee.Format.read
  simp only [hb, hi, hw, hL, neg_bit v h]
  by_cases c : v % 9223372036854775808 < 4503599627370496
  · refine ⟨v % 9223372036854775808, 0, ?_, ?_⟩
    · rw [if_pos c]; simp
    · unfold magR; rw [if_pos c]; simp
  · refine ⟨4503599627370496 + v % 9223372036854775808 % 4503599627370496, v % 9223372036854775808 / 4503599627370496 - 1, ?_, ?_⟩
    · rw [if_neg c, if_pos hf]
    · unfold magR; rw [if_neg c]

theorem read_inf (v : Nat) (h : v < 18446744073709551616) (hf : v % 9223372036854775808 = 9218868437227405312) :
    FloatKind.f64.format.read v = .infinity (decide (9223372036854775808 ≤ v)) := by
  have hb : Ieee.double.binade = 4503599627370496 := by decide
  have hi : Ieee.double.infRung = 9218868437227405312 := by decide
  have hw : Ieee.double.signWeight = 9223372036854775808 := by decide
  show Ieee.double.read v = _
  unfold Ieee.Format.read
  simp only [hb, hi, hw, neg_bit v h, hf]
  rfl

theorem ordI_sg (v : Nat) : ordI v = sgI (decide (9223372036854775808 ≤ v)) (v % 9223372036854775808) := by
  unfold ordI sgI
  by_cases c : 9223372036854775808 ≤ v <;> simp [c]

theorem sg_mono (s t : Bool) (x y : Nat) : compare (sgI s (magR x)) (sgI t (magR y)) = compare (sgI s x) (sgI t y) := by
  have h1 := magR_cmp x y
  have h2 := magR_cmp y x
  have z : magR 0 = 0 := by decide
  have h3 := magR_cmp 0 x
  have h4 := magR_cmp 0 y
  rw [z] at h3 h4
  unfold sgI
  cases s <;> cases t <;> apply cmp_same <;> simp <;> omega

/-- float64s are compared as their bits' order says -/
theorem order_eq (a b : Nat) (ha : isNum a) (hb : isNum b) : FloatKind.f64.format.order a b = some (compare (ordI a) (ordI b)) := by
  rw [ordI_sg, ordI_sg]
  show (FloatKind.f64.format.read a).order (FloatKind.f64.format.read b) = _
  have ra := ha.2
  have rb := hb.2
  rcases Nat.lt_or_eq_of_le ra with ca | ca
  · obtain ⟨m, e, h1, h2⟩ := read_num a ha.1 ca
    rcases Nat.lt_or_eq_of_le rb with cb | cb
    · obtain ⟨n, k, h3, h4⟩ := read_num b hb.1 cb
      rw [h1, h3, order_num, h2, h4, sg_mono]
    · rw [h1, read_inf b hb.1 cb, cb]
      show some (if decide (9223372036854775808 ≤ b) then Ordering.gt else .lt) = _
      generalize a % 9223372036854775808 = x at *
      cases decide (9223372036854775808 ≤ b) <;> cases decide (9223372036854775808 ≤ a)
      · rw [cmp_lt (by simp [sgI]; omega)]; rfl
      · rw [cmp_lt (by simp [sgI]; omega)]; rfl
      · rw [cmp_gt (by simp [sgI]; omega)]; rfl
      · rw [cmp_gt (by simp [sgI]; omega)]; rfl
  · rcases Nat.lt_or_eq_of_le rb with cb | cb
    · obtain ⟨n, k, h3, h4⟩ := read_num b hb.1 cb
      rw [h3, read_inf a ha.1 ca, ca]
      show some (if decide (9223372036854775808 ≤ a) then Ordering.lt else .gt) = _
      generalize b % 9223372036854775808 = x at *
      cases decide (9223372036854775808 ≤ b) <;> cases decide (9223372036854775808 ≤ a)
      · rw [cmp_gt (by simp [sgI]; omega)]; rfl
      · rw [cmp_lt (by simp [sgI]; omega)]; rfl
      · rw [cmp_gt (by simp [sgI]; omega)]; rfl
      · rw [cmp_lt (by simp [sgI]; omega)]; rfl
    · rw [read_inf a ha.1 ca, read_inf b hb.1 cb, ca, cb]
      show some (compare (decide (9223372036854775808 ≤ b)).toNat (decide (9223372036854775808 ≤ a)).toNat) = _
      cases decide (9223372036854775808 ≤ b) <;> cases decide (9223372036854775808 ≤ a)
      · rw [cmp_eq rfl]; rfl
      · rw [cmp_lt (by simp [sgI])]; rfl
      · rw [cmp_gt (by simp [sgI])]; rfl
      · rw [cmp_eq rfl]; rfl

/-- no number: not the same as itself -/
theorem order_nan (a : Nat) (h : a < 18446744073709551616) (hn : 9218868437227405312 < a % 9223372036854775808) : FloatKind.f64.format.order a a = none := by
  have hb : Ieee.double.binade = 4503599627370496 := by decide
  have hi : Ieee.double.infRung = 9218868437227405312 := by decide
  have hw : Ieee.double.signWeight = 9223372036854775808 := by decide
  have hr : FloatKind.f64.format.read a = .nan (decide (9223372036854775808 ≤ a)) (a % 9223372036854775808 - 9218868437227405312) := by
    show Ieee.double.read a = _
    unfold Ieee.Format.read
    simp only [hb, hi, hw, neg_bit a h]
    rw [if_neg (by omega), if_neg (by omega), if_neg (by omega)]
  show (FloatKind.f64.format.read a).order (FloatKind.f64.format.read a) = _
  rw [hr]
  rfl

theorem num_iff (a : Nat) (h : a < 18446744073709551616) : (FloatKind.f64.format.order a a != some .eq) = decide (9218868437227405312 < a % 9223372036854775808) := by
  by_cases c : 9218868437227405312 < a % 9223372036854775808
  · rw [order_nan a h c]; simp [c]
  · rw [order_eq a a ⟨h, by omega⟩ ⟨h, by omega⟩, cmp_eq rfl]; simp [c]
end Go.Proofs.YtgekdmjneogdoaaGreatDoor
