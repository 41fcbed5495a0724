import Derived.Test.YtgekdmjneogdoaaGreatDoorXDe7
import Derived.Test.YtgekdmjneogdoaaGreatDoorXFtoa
import Derived.Test.YtgekdmjneogdoaaGreatDoorXNb1
import Derived.Test.YtgekdmjneogdoaaGreatDoorXNy1
import Derived.Test.YtgekdmjneogdoaaGreatDoorXNz4
import Derived.ScopeJumps
namespace Go.Proofs.YtgekdmjneogdoaaGreatDoor
open Go.RowKit

/-! a number as a decimal and a power of two: N 10^y = D 10^e 2^x (M: a great number, so that no power is below nought) -/
structure Rel (M N : Nat) (y : Int) (D : Nat) (e x : Int) : Prop where
  eq : N * 10 ^ (y + M).toNat * 2 ^ M = D * 10 ^ (e + M).toNat * 2 ^ (x + M).toNat
  y0 : 0 ≤ y + M
  e0 : 0 ≤ e + M
  x0 : 0 ≤ x + M

theorem Rel.start (M N : Nat) (y : Int) (h : 0 ≤ y + M) : Rel M N y N y 0 := ⟨by rw [show (0 + (M : Int)).toNat = M by omega], h, h, by omega⟩

theorem Rel.step {M N : Nat} {y : Int} {D : Nat} {e x : Int} (h : Rel M N y D e x) {D' X Z a b : Nat} {e' x' : Int} (hs : D * 10 ^ X * 2 ^ a = D' * 10 ^ Z * 2 ^ b) (he : e' + X = e + Z) (hx : x' + a = x + b) (he0 : 0 ≤ e' + M) (hx0 : 0 ≤ x' + M) : Rel M N y D' e' x' := by
  refine ⟨?_, h.y0, he0, hx0⟩
  have hpos : 0 < 10 ^ X * 2 ^ a := Nat.mul_pos (Nat.pow_pos (by omega)) (Nat.pow_pos (by omega))
  refine Nat.eq_of_mul_eq_mul_right hpos ?_
  rw [h.eq]
  have h0 := h.e0
  have h1 := h.x0
  have e1 : 10 ^ (e' + M).toNat * 10 ^ X = 10 ^ (e + M).toNat * 10 ^ Z := by rw [← Nat.pow_add, ← Nat.pow_add]; congr 1; omega
  have e2 : 2 ^ (x' + M).toNat * 2 ^ a = 2 ^ (x + M).toNat * 2 ^ b := by rw [← Nat.pow_add, ← Nat.pow_add]; congr 1; omega
  have l1 : D * 10 ^ (e + M).toNat * 2 ^ (x + M).toNat * (10 ^ X * 2 ^ a) = (D * 10 ^ X * 2 ^ a) * (10 ^ (e + M).toNat * 2 ^ (x + M).toNat) := by
    generalize 10 ^ (e + M).toNat = p
    generalize 2 ^ (x + M).toNat = q
    generalize 10 ^ X = r
    generalize 2 ^ a = s
    simp only [Nat.mul_comm, Nat.mul_left_comm]
  have l2 : D' * 10 ^ (e' + M).toNat * 2 ^ (x' + M).toNat * (10 ^ X * 2 ^ a) = D' * (10 ^ (e' + M).toNat * 10 ^ X) * (2 ^ (x' + M).toNat * 2 ^ a) := by
    generalize 10 ^ (e' + M).toNat = p
    generalize 2 ^ (x' + M).toNat = q
    generalize 10 ^ X = r
    generalize 2 ^ a = s
    simp only [Nat.mul_comm, Nat.mul_left_comm]
  rw [l1, l2, e1, e2, hs]
  generalize 10 ^ (e + M).toNat = p
  generalize 2 ^ (x + M).toNat = q
  generalize 10 ^ Z = r
  generalize 2 ^ b = s
  simp only [Nat.mul_comm, Nat.mul_left_comm]

/-- behind divisions by 2^s alone -/
theorem Rel.down {M N : Nat} {y : Int} {D : Nat} {e : Int} {s : Nat} (h : Rel M N y D e s) : N * 10 ^ (y + M).toNat = D * 10 ^ (e + M).toNat * 2 ^ s := by
  have := h.eq
  rw [show ((s : Int) + M).toNat = s + M by omega, Nat.pow_add, ← Nat.mul_assoc] at this
  exact Nat.eq_of_mul_eq_mul_right (Nat.pow_pos (by omega)) this

/-- so many noughts make it divisible -/
theorem Rel.divides {M N : Nat} {y : Int} {D : Nat} {e : Int} {s : Nat} (h : Rel M N y D e s) (k X : Nat) (hX : (X : Int) = e - y + s + k) : D * 10 ^ X % 2 ^ k = 0 := by
  have h1 := h.down
  have h0 := h.y0
  have h2 := h.e0
  have e1 : N * 10 ^ (s + k) = D * 10 ^ X * 2 ^ s := by
    refine Nat.eq_of_mul_eq_mul_right (Nat.pow_pos (n := (y + M).toNat) (by omega : 0 < 10)) ?_
    have a1 : N * 10 ^ (s + k) * 10 ^ (y + M).toNat = D * 10 ^ (e + M).toNat * 2 ^ s * 10 ^ (s + k) := by rw [Nat.mul_right_comm, h1]
    have a2 : 10 ^ X * 10 ^ (y + M).toNat = 10 ^ (e + M).toNat * 10 ^ (s + k) := by rw [← Nat.pow_add, ← Nat.pow_add]; congr 1; omega
    rw [a1]
    have a3 : D * 10 ^ X * 2 ^ s * 10 ^ (y + M).toNat = D * 2 ^ s * (10 ^ X * 10 ^ (y + M).toNat) := by
      generalize 10 ^ X = p
      generalize 10 ^ (y + M).toNat = q
      generalize 2 ^ s = r
      simp only [Nat.mul_assoc, Nat.mul_left_comm]
    rw [a3, a2]
    generalize 10 ^ (e + M).toNat = p
    generalize 10 ^ (s + k) = q
    generalize 2 ^ s = r
    simp only [Nat.mul_comm, Nat.mul_left_comm]
  have e2 : (10 : Nat) ^ (s + k) = 5 ^ (s + k) * 2 ^ k * 2 ^ s := by
    rw [show (10 : Nat) = 5 * 2 from rfl, Nat.mul_pow, Nat.pow_add 2 s k, Nat.mul_assoc, Nat.mul_comm (2 ^ s)]
  rw [e2, ← Nat.mul_assoc] at e1
  have e3 : D * 10 ^ X = N * (5 ^ (s + k) * 2 ^ k) := (Nat.eq_of_mul_eq_mul_right (Nat.pow_pos (by omega)) e1).symm
  rw [e3, ← Nat.mul_assoc, Nat.mul_mod_left]

/-- .. and a number that ends in no nought has no more digits behind its point -/
theorem Rel.noughts {M N : Nat} {y : Int} {D : Nat} {e : Int} {s : Nat} (h : Rel M N y D e s) (hD : D % 10 ≠ 0) : y - s ≤ e := by
  rcases Int.lt_or_le e (y - s) with q | q
  · exfalso
    have h1 := h.down
    have h0 := h.y0
    have h2 := h.e0
    -- D 2^s = N 10^(y - e), y - e > s
    have e1 : D * 2 ^ s = N * 10 ^ (y - e).toNat := by
      refine Nat.eq_of_mul_eq_mul_right (Nat.pow_pos (n := (e + M).toNat) (by omega : 0 < 10)) ?_
      rw [Nat.mul_right_comm, ← h1, Nat.mul_assoc, ← Nat.pow_add]
      congr 2
      omega
    obtain ⟨d, hd⟩ : ∃ d : Nat, (y - e).toNat = d + 1 + s := ⟨(y - e).toNat - 1 - s, by omega⟩
    rw [hd, Nat.pow_add, show (10 : Nat) ^ s = 5 ^ s * 2 ^ s by rw [← Nat.mul_pow], ← Nat.mul_assoc, ← Nat.mul_assoc] at e1
    have e2 := Nat.eq_of_mul_eq_mul_right (Nat.pow_pos (by omega)) e1
    rw [Nat.pow_succ] at e2
    apply hD
    rw [e2]
    have : N * (10 ^ d * 10) * 5 ^ s = N * 10 ^ d * 5 ^ s * 10 := by
      generalize 10 ^ d = p
      generalize 5 ^ s = r
      simp only [Nat.mul_assoc, Nat.mul_comm, Nat.mul_left_comm]
    rw [this, Nat.mul_mod_left]
  · exact q

/-- powers of two below powers of ten -/
theorem two_ten (s m : Nat) (h : 2 ^ s < 10 ^ m) : 3 * s < 10 * m := by
  have h1 : (2 ^ s) ^ 3 < (10 ^ m) ^ 3 := Nat.pow_lt_pow_left h (by omega)
  rw [← Nat.pow_mul, ← Nat.pow_mul] at h1
  have h2 : 10 ^ (m * 3) ≤ 2 ^ (10 * m) := by
    rw [Nat.mul_comm m 3, Nat.pow_mul, Nat.pow_mul]
    exact Nat.pow_le_pow_left (by decide) m
  have h3 : 2 ^ (s * 3) < 2 ^ (10 * m) := Nat.lt_of_lt_of_le h1 h2
  have := (Nat.pow_lt_pow_iff_right (by omega : 1 < 2)).1 h3
  omega
end Go.Proofs.YtgekdmjneogdoaaGreatDoor

namespace Go.Proofs.YtgekdmjneogdoaaGreatDoor
open Go.RowKit

/-! the steps of floatBits -/
/-- how far to shift -/
def ptN (d : Nat) : Nat := [1, 3, 6, 9, 13, 16, 19, 23, 26].getD d 27

theorem pt_ok (d : Nat) : 1 ≤ ptN d ∧ ptN d ≤ 27 ∧ 2 ^ ptN d ≤ 10 ^ (max d 1) ∧ (1 ≤ d → 2 ^ ptN d ≤ 10 ^ d) := by
  rcases Nat.lt_or_ge d 9 with h | h
  · have : ∀ k : Fin 9, 1 ≤ ptN k.val ∧ ptN k.val ≤ 27 ∧ 2 ^ ptN k.val ≤ 10 ^ (max k.val 1) ∧ (1 ≤ k.val → 2 ^ ptN k.val ≤ 10 ^ k.val) := by decide
    exact this ⟨d, h⟩
  · have e : ptN d = 27 := by
      unfold ptN
      rw [List.getD_eq_getElem?_getD, List.getElem?_eq_none (by simpa using h)]; rfl
    have h1 : 10 ^ 9 ≤ 10 ^ d := Nat.pow_le_pow_right (by omega) h
    rw [e]
    refine ⟨by omega, by omega, ?_, fun _ => by omega⟩
    rw [Nat.max_eq_left (by omega)]; omega

/-- the decimal and how far it was shifted, beside the number -/
structure FB (w : World) (b M N : Nat) (y : Int) (neg : Bool) (D nd : Nat) (dp x : Int) : Prop where
  dec : DecW w b D nd dp neg
  rel : Rel M N y D (dp - nd) x

/-- the number itself: so many digits -/
structure Num0 (M N nd0 : Nat) (y : Int) : Prop where
  lo : 10 ^ (nd0 - 1) ≤ N
  hi : N < 10 ^ nd0
  n1 : 1 ≤ nd0
  n40 : nd0 ≤ 40
  M1 : M = 2000
  d1 : -330 ≤ nd0 + y
  d2 : nd0 + y ≤ 310

theorem FB.sUp {w : World} {b M N nd0 : Nat} {y : Int} {neg : Bool} {D nd : Nat} {dp : Int} {s : Nat} (h : FB w b M N y neg D nd dp s) (h0 : Num0 M N nd0 y) : dp ≤ nd0 + y ∧ 3 * (s : Int) < 10 * (nd0 + y - dp + 1) := by
  have h1 := h.rel.down
  have hlo := h.dec.lo
  have hn1 := h.dec.nd1
  have y0 := h.rel.y0
  have e0 := h.rel.e0
  have hn := h0.n1
  have k1 : 10 ^ (nd - 1) * 10 ^ (dp - nd + M).toNat * 2 ^ s < 10 ^ nd0 * 10 ^ (y + M).toNat := by
    refine Nat.lt_of_le_of_lt (Nat.mul_le_mul_right _ (Nat.mul_le_mul_right _ hlo)) ?_
    rw [← h1]
    exact Nat.mul_lt_mul_of_pos_right h0.hi (Nat.pow_pos (by omega))
  rw [← Nat.pow_add, ← Nat.pow_add] at k1
  have hle : nd - 1 + (dp - nd + M).toNat < nd0 + (y + M).toNat := by
    have : 10 ^ (nd - 1 + (dp - nd + M).toNat) < 10 ^ (nd0 + (y + M).toNat) := Nat.lt_of_le_of_lt (Nat.le_mul_of_pos_right _ (Nat.pow_pos (by omega))) k1
    exact (Nat.pow_lt_pow_iff_right (by omega : 1 < 10)).1 this
  refine ⟨by omega, ?_⟩
  obtain ⟨m, hm⟩ : ∃ m, nd0 + (y + M).toNat = (nd - 1 + (dp - nd + M).toNat) + m := ⟨nd0 + (y + M).toNat - (nd - 1 + (dp - nd + M).toNat), by omega⟩
  rw [hm, Nat.pow_add 10 _ m] at k1
  have k2 := Nat.lt_of_mul_lt_mul_left k1
  have := two_ten s m k2
  omega

/-- one step down -/
theorem step_down {w : World} {b M N nd0 : Nat} {y : Int} {neg : Bool} {D nd p : Nat} {s : Nat} (h : FB w b M N y neg D nd (p : Int) s) (h0 : Num0 M N nd0 y) (hp : 1 ≤ p) (hy : y - s ≤ (p : Int) - nd) :
    Calls Tryz.prog 229 #[.pointer (some ⟨b, 0, none⟩), .int .i64 (-(ptN p : Int))] w fun e w' => e = .returned (.tuple #[]) ∧ (∃ (D' nd' p' : Nat), FB w' b M N y neg D' nd' (p' : Int) (s + ptN p : Nat) ∧ y - (s + ptN p : Nat) ≤ (p' : Int) - nd') ∧ Kept (But b) w w' := by
  obtain ⟨t1, t2, _, t4⟩ := pt_ok p
  obtain ⟨u1, u2⟩ := h.sUp h0
  have g1 := h0.n40
  have g2 := h0.d2
  have g3 := h0.d1
  have gM := h0.M1
  have nd1 := h.dec.nd1
  have nd8 := h.dec.nd8
  have e0 := h.rel.e0
  obtain ⟨X, hX⟩ : ∃ X : Nat, (X : Int) = ((p : Int) - nd) - y + s + ptN p := ⟨(((p : Int) - nd) - y + s + ptN p).toNat, by omega⟩
  obtain ⟨a, hm, _⟩ := h.dec.mem
  refine shift_right w b nd (ptN p) _ t1 (by omega) nd1 hm.nd ?_
  refine (right_dec h.dec (ptN p) X (by omega) (h.rel.divides (ptN p) X hX) (by omega) (by omega) (by omega)).mono ?_
  rintro e w' ⟨rfl, ⟨D', nd', X', z, r0, q1, q2, q3, q4, q5⟩, hk⟩
  refine ⟨rfl, ?_, hk⟩
  have hr0 : r0 ≤ p + 1 := by
    have h1 : 10 ^ (nd - 1) * 10 ^ X' < 10 * 10 ^ p * (10 ^ nd' * 10 ^ z) := by
      refine Nat.lt_of_le_of_lt (Nat.mul_le_mul_right _ h.dec.lo) ?_
      rw [q2]
      refine Nat.lt_of_lt_of_le (Nat.mul_lt_mul_of_pos_left (Nat.mul_lt_mul_of_pos_right q1.hi (Nat.pow_pos (by omega))) (Nat.mul_pos (by omega) (Nat.pow_pos (by omega)))) ?_
      exact Nat.mul_le_mul_right _ (Nat.mul_le_mul_left _ (t4 hp))
    have e1 : 10 * 10 ^ p * (10 ^ nd' * 10 ^ z) = 10 ^ (1 + p + (nd' + z)) := by
      rw [Nat.pow_add, Nat.pow_add, Nat.pow_add 10 nd', Nat.pow_one]
    rw [e1, ← Nat.pow_add] at h1
    have := (Nat.pow_lt_pow_iff_right (by omega : 1 < 10)).1 h1
    omega
  have hrel : Rel M N y D' (((p : Int) - ((r0 : Int) - 1)) - nd') (s + ptN p : Nat) := by
    have hs : D * 10 ^ X' * 2 ^ 0 = D' * 10 ^ (z + 1) * 2 ^ ptN p := by
      rw [q2, Nat.pow_zero, Nat.mul_one, Nat.pow_succ]
      generalize 2 ^ ptN p = r
      generalize 10 ^ z = t
      simp only [Nat.mul_assoc, Nat.mul_comm, Nat.mul_left_comm]
    exact h.rel.step hs (by omega) (by omega) (by have := q1.nd8; omega) (by omega)
  have hz : ((p : Int) - ((r0 : Int) - 1)) = ((p + 1 - r0 : Nat) : Int) := by omega
  rw [hz] at q1 hrel
  exact ⟨D', nd', p + 1 - r0, ⟨q1.weak, hrel⟩, hrel.noughts q1.last⟩

theorem FB.xLow {w : World} {b M N nd0 : Nat} {y : Int} {neg : Bool} {D nd : Nat} {dp x : Int} (h : FB w b M N y neg D nd dp x) (h0 : Num0 M N nd0 y) (hdp : dp ≤ 0) : -1104 ≤ x := by
  rcases Int.lt_or_le x (-1104) with q | q
  · exfalso
    have h1 := h.rel.eq
    have y0 := h.rel.y0
    have e0 := h.rel.e0
    have x0 := h.rel.x0
    have gM := h0.M1
    have g3 := h0.d1
    have hn := h0.n1
    have hn1 := h.dec.nd1
    have k1 : 10 ^ (nd0 - 1) * 10 ^ (y + M).toNat * 2 ^ M < 10 ^ nd * 10 ^ (dp - nd + M).toNat * 2 ^ (x + M).toNat := by
      refine Nat.lt_of_le_of_lt (Nat.mul_le_mul_right _ (Nat.mul_le_mul_right _ h0.lo)) ?_
      rw [h1]
      exact Nat.mul_lt_mul_of_pos_right (Nat.mul_lt_mul_of_pos_right h.dec.hi (Nat.pow_pos (by omega))) (Nat.pow_pos (by omega))
    rw [← Nat.pow_add, ← Nat.pow_add] at k1
    obtain ⟨t, ht⟩ : ∃ t : Nat, M = (x + M).toNat + t := ⟨M - (x + M).toNat, by omega⟩
    have e2 : 2 ^ M = 2 ^ t * 2 ^ (x + M).toNat := by rw [← Nat.pow_add]; congr 1; omega
    rw [e2, ← Nat.mul_assoc] at k1
    have k2 := Nat.lt_of_mul_lt_mul_right k1
    obtain ⟨m, hm⟩ : ∃ m, nd + (dp - nd + M).toNat ≤ (nd0 - 1 + (y + M).toNat) + m ∧ m ≤ 331 := ⟨331, by omega, by omega⟩
    have k3 : 10 ^ (nd0 - 1 + (y + M).toNat) * 2 ^ t < 10 ^ (nd0 - 1 + (y + M).toNat) * 10 ^ m := by
      refine Nat.lt_of_lt_of_le k2 ?_
      rw [← Nat.pow_add]
      exact Nat.pow_le_pow_right (by omega) hm.1
    have := two_ten t m (Nat.lt_of_mul_lt_mul_left k3)
    omega
  · exact q

/-- one step up -/
theorem step_up {w : World} {b M N nd0 : Nat} {y : Int} {neg : Bool} {D nd q : Nat} {x : Int} (h : FB w b M N y neg D nd (-(q : Int)) x) (h0 : Num0 M N nd0 y) (hc : Cheat w) (hsm : q = 0 → 2 * D < 10 ^ nd) (hnd : nd + q ≤ 770) (hx : -1104 ≤ x) (hx2 : x ≤ 1100) :
    Calls Tryz.prog 229 #[.pointer (some ⟨b, 0, none⟩), .int .i64 (ptN q : Int)] w fun e w' => e = .returned (.tuple #[]) ∧ (∃ (D' nd' q' : Nat), FB w' b M N y neg D' nd' (-(q' : Int)) (x - ptN q) ∧ nd' + q' ≤ nd + q) ∧ Kept (But b) w w' := by
  obtain ⟨t1, t2, t3, t4⟩ := pt_ok q
  have gM := h0.M1
  have nd1 := h.dec.nd1
  obtain ⟨a, hm, _⟩ := h.dec.mem
  refine shift_left w b nd (ptN q) _ t1 (by omega) nd1 hm.nd ?_
  refine (left_dec h.dec (ptN q) t1 (by omega) hc (by omega) (by omega) (by omega)).mono ?_
  rintro e w' ⟨rfl, ⟨D', nd', z, δ, q1, q2, q3, q4⟩, hk⟩
  refine ⟨rfl, ?_, hk⟩
  have hδ : δ ≤ q := by
    have h1 : 10 ^ (nd' - 1) * 10 ^ z ≤ D * 2 ^ ptN q := by rw [q2]; exact Nat.mul_le_mul_right _ q1.lo
    have h2 : D * 2 ^ ptN q < 10 ^ nd * 10 ^ q := by
      by_cases hq : q = 0
      · subst hq
        have e1 : ptN 0 = 1 := rfl
        rw [e1, Nat.pow_one, Nat.pow_zero, Nat.mul_one, Nat.mul_comm]; exact hsm rfl
      · refine Nat.lt_of_lt_of_le (Nat.mul_lt_mul_of_pos_right h.dec.hi (Nat.pow_pos (by omega))) (Nat.mul_le_mul_left _ (t4 (by omega)))
    rw [← Nat.pow_add] at h1 h2
    have := (Nat.pow_lt_pow_iff_right (by omega : 1 < 10)).1 (Nat.lt_of_le_of_lt h1 h2)
    have := q1.nd1
    omega
  have hrel : Rel M N y D' (((-(q : Int)) + δ) - nd') (x - ptN q) := by
    have hs : D * 10 ^ 0 * 2 ^ ptN q = D' * 10 ^ z * 2 ^ 0 := by rw [Nat.pow_zero, Nat.mul_one, q2, Nat.mul_one]
    exact h.rel.step hs (by omega) (by omega) (by have := q1.nd8; omega) (by omega)
  have hz : (-(q : Int)) + δ = -((q - δ : Nat) : Int) := by omega
  rw [hz] at q1 hrel
  exact ⟨D', nd', q - δ, ⟨q1.weak, hrel⟩, by omega⟩
end Go.Proofs.YtgekdmjneogdoaaGreatDoor

namespace Go.Proofs.YtgekdmjneogdoaaGreatDoor
open Go.RowKit

/-! what floatBits ends with: a decimal rounded to a whole number -/
theorem dec_round (D nd : Nat) (dp : Int) (m : Nat) (hm : preN D nd dp.toNat + (rndUp D nd dp).toNat = m) (hi : D < 10 ^ nd) (last : D % 10 ≠ 0) :
    (2 * (D * 10 ^ dp.toNat) < (2 * m + 1) * (10 ^ nd * 10 ^ (-dp).toNat) ∨ (2 * (D * 10 ^ dp.toNat) = (2 * m + 1) * (10 ^ nd * 10 ^ (-dp).toNat) ∧ m % 2 = 0)) ∧
      (m ≠ 0 → (2 * m - 1) * (10 ^ nd * 10 ^ (-dp).toNat) < 2 * (D * 10 ^ dp.toNat) ∨ ((2 * m - 1) * (10 ^ nd * 10 ^ (-dp).toNat) = 2 * (D * 10 ^ dp.toNat) ∧ m % 2 = 0)) := by
  by_cases hneg : dp < 0
  · have h0 : dp.toNat = 0 := by omega
    have hr : rndUp D nd dp = false := by unfold rndUp; rw [if_pos (Or.inl hneg)]
    rw [h0, preN_zero D nd hi, hr] at hm
    have hm0 : m = 0 := by rw [← hm]; rfl
    subst hm0
    rw [h0]
    refine ⟨Or.inl ?_, fun h => absurd rfl h⟩
    obtain ⟨t, ht⟩ : ∃ t, (-dp).toNat = t + 1 := ⟨(-dp).toNat - 1, by omega⟩
    rw [ht, Nat.pow_succ]
    have h1 : 1 ≤ 10 ^ t := Nat.pow_pos (by omega)
    have h2 : 10 ^ nd * (1 * 10) ≤ 10 ^ nd * (10 ^ t * 10) := Nat.mul_le_mul_left _ (Nat.mul_le_mul_right _ h1)
    omega
  · obtain ⟨p, rfl⟩ : ∃ p : Nat, dp = (p : Int) := ⟨dp.toNat, by omega⟩
    have hz : (-(p : Int)).toNat = 0 := by omega
    rw [hz, Int.toNat_natCast, Nat.pow_zero, Nat.mul_one]
    rw [Int.toNat_natCast] at hm
    by_cases hge : nd ≤ p
    · have hr : rndUp D nd (p : Int) = false := by unfold rndUp; rw [if_pos (Or.inr (by omega))]
      rw [hr, preN_ge D nd p hge] at hm
      have hm0 : D * 10 ^ (p - nd) = m := by rw [← hm]; rfl
      have e1 : D * 10 ^ p = m * 10 ^ nd := by
        rw [← hm0, Nat.mul_assoc, ← Nat.pow_add]; congr 2; omega
      rw [e1]
      have hp : 0 < 10 ^ nd := Nat.pow_pos (by omega)
      refine ⟨Or.inl ?_, fun h => Or.inl ?_⟩
      · rw [Nat.add_mul, Nat.mul_assoc]; omega
      · rw [← Nat.mul_assoc]
        exact Nat.mul_lt_mul_of_pos_right (by omega) hp
    · obtain ⟨k, hk⟩ : ∃ k, nd = p + 1 + k := ⟨nd - p - 1, by omega⟩
      have hq := preN_lt D nd p (by omega)
      rw [show nd - p = k + 1 by omega] at hq
      have hT : 0 < 10 ^ k := Nat.pow_pos (by omega)
      have h10 : 10 ^ nd = 10 ^ p * (10 * 10 ^ k) := by rw [hk, Nat.pow_add, Nat.pow_succ, Nat.mul_assoc]
      have key : ∀ g q r, D / 10 ^ k % 10 = g → D / 10 ^ (k + 1) = q → D % 10 ^ k = r → D = (10 * q + g) * 10 ^ k + r ∧ r < 10 ^ k ∧ g ≤ 9 := by
        intro g q r hg hq' hr'
        have a1 := Nat.div_add_mod D (10 ^ k)
        have a2 : D / 10 ^ k / 10 = D / 10 ^ (k + 1) := by rw [Nat.div_div_eq_div_mul, Nat.pow_succ]
        have a3 := Nat.div_add_mod (D / 10 ^ k) 10
        have a4 := Nat.mod_lt D hT
        refine ⟨?_, by omega, by omega⟩
        rw [a2, hq', hg] at a3
        rw [a3, ← hr', Nat.mul_comm]
        exact a1.symm
      obtain ⟨g, hg⟩ : ∃ g, D / 10 ^ k % 10 = g := ⟨_, rfl⟩
      obtain ⟨q, hq2⟩ : ∃ q, D / 10 ^ (k + 1) = q := ⟨_, rfl⟩
      obtain ⟨r, hr2⟩ : ∃ r, D % 10 ^ k = r := ⟨_, rfl⟩
      obtain ⟨kD, kr, kg⟩ := key g q r hg hq2 hr2
      rw [hq, hq2] at hm
      have hru : rndUp D nd (p : Int) = if g = 5 ∧ p + 1 = nd then decide (0 < (p : Int)) && decide (q % 2 = 1) else decide (5 ≤ g) := by
        unfold rndUp
        rw [if_neg (by omega), Int.toNat_natCast, show nd - 1 - p = k by omega, hg, hq, hq2]
      rw [hru] at hm
      -- all in units of ten to the k
      have goal : ∀ T : Nat, T = 10 ^ k → (2 * D < (2 * m + 1) * (10 * T) ∨ (2 * D = (2 * m + 1) * (10 * T) ∧ m % 2 = 0)) ∧ (m ≠ 0 → (2 * m - 1) * (10 * T) < 2 * D ∨ ((2 * m - 1) * (10 * T) = 2 * D ∧ m % 2 = 0)) := by
        intro T hTe
        rw [← hTe] at kD kr hT
        by_cases htie : g = 5 ∧ p + 1 = nd
        · rw [if_pos htie] at hm
          obtain ⟨rfl, hp1⟩ := htie
          have hk0 : k = 0 := by omega
          subst hk0
          have hT1 : T = 1 := hTe
          subst hT1
          have hr0 : r = 0 := by omega
          subst hr0
          have hq0 : p = 0 → q = 0 := by
            intro hp0
            subst hp0
            rw [← hq2]
            exact Nat.div_eq_of_lt (by rw [show 0 + 1 = nd by omega]; exact hi)
          by_cases hodd : q % 2 = 1
          · have hp0 : 0 < (p : Int) := by
              rcases Nat.eq_zero_or_pos p with z | z
              · rw [hq0 z] at hodd; omega
              · omega
            have hmm : q + 1 = m := by rw [← hm, decide_eq_true hp0, decide_eq_true hodd]; rfl
            subst hmm
            refine ⟨Or.inl (by omega), fun _ => Or.inr ⟨by omega, by omega⟩⟩
          · have hmm : q = m := by rw [← hm, decide_eq_false hodd, Bool.and_false]; rfl
            subst hmm
            refine ⟨Or.inr ⟨by omega, by omega⟩, fun _ => Or.inl (by omega)⟩
        · rw [if_neg htie] at hm
          by_cases h5 : 5 ≤ g
          · have hmm : q + 1 = m := by rw [← hm]; simp [h5]
            subst hmm
            have hstrict : (10 * q + 5) * T < D := by
              by_cases hg6 : 6 ≤ g
              · have : (10 * q + 5 + 1) * T ≤ (10 * q + g) * T := Nat.mul_le_mul_right _ (by omega)
                rw [Nat.add_mul] at this
                omega
              · have hg5 : g = 5 := by omega
                subst hg5
                have hr0 : r ≠ 0 := by
                  intro hz0
                  have hk1 : 1 ≤ k := by
                    rcases Nat.eq_zero_or_pos k with z | z
                    · exact absurd ⟨rfl, by omega⟩ htie
                    · exact z
                  obtain ⟨k', rfl⟩ : ∃ k', k = k' + 1 := ⟨k - 1, by omega⟩
                  apply last
                  rw [kD, hz0, hTe, Nat.pow_succ, Nat.add_zero, ← Nat.mul_assoc]
                  exact Nat.mul_mod_left _ _
                omega
            have hup : D < (10 * q + 10) * T := by
              have : (10 * q + g + 1) * T ≤ (10 * q + 10) * T := Nat.mul_le_mul_right _ (by omega)
              rw [Nat.add_mul _ 1] at this
              omega
            have e1 : (2 * (q + 1) + 1) * (10 * T) = 2 * ((10 * q + 10) * T) + 10 * T := by
              rw [← Nat.mul_assoc, ← Nat.mul_assoc, ← Nat.add_mul]; congr 1; omega
            have e2 : (2 * (q + 1) - 1) * (10 * T) = 2 * ((10 * q + 5) * T) := by
              rw [← Nat.mul_assoc, ← Nat.mul_assoc]; congr 1; omega
            rw [e1, e2]
            exact ⟨Or.inl (by omega), fun _ => Or.inl (by omega)⟩
          · have hmm : q = m := by rw [← hm]; simp [h5]
            subst hmm
            have hup : D < (10 * q + 5) * T := by
              have : (10 * q + g + 1) * T ≤ (10 * q + 5) * T := Nat.mul_le_mul_right _ (by omega)
              rw [Nat.add_mul _ 1] at this
              omega
            have hlo : 10 * q * T ≤ D := by
              rw [kD, Nat.add_mul]
              exact Nat.le_trans (Nat.le_add_right _ _) (Nat.le_add_right _ _)
            have e1 : (2 * q + 1) * (10 * T) = 2 * ((10 * q + 5) * T) := by
              rw [← Nat.mul_assoc, ← Nat.mul_assoc]; congr 1; omega
            refine ⟨Or.inl (by rw [e1]; omega), fun h0 => Or.inl ?_⟩
            have e2 : (2 * q - 1) * (10 * T) + 10 * T = 2 * (10 * q * T) := by
              rw [← Nat.mul_assoc (2 * q - 1), ← Nat.add_mul, ← Nat.mul_assoc]; congr 1; omega
            omega
      obtain ⟨u, v⟩ := goal (10 ^ k) rfl
      have hP : 0 < 10 ^ p := Nat.pow_pos (by omega)
      have l1 : ∀ j, j * 10 ^ nd = j * (10 * 10 ^ k) * 10 ^ p := fun j => by rw [h10, Nat.mul_comm (10 ^ p)]; exact (Nat.mul_assoc _ _ _).symm
      have l2 : 2 * (D * 10 ^ p) = 2 * D * 10 ^ p := (Nat.mul_assoc _ _ _).symm
      rw [l1, l1, l2]
      refine ⟨?_, fun h => ?_⟩
      · rcases u with u | u
        · exact Or.inl (Nat.mul_lt_mul_of_pos_right u hP)
        · exact Or.inr ⟨by rw [u.1], u.2⟩
      · rcases v h with v | v
        · exact Or.inl (Nat.mul_lt_mul_of_pos_right v hP)
        · exact Or.inr ⟨by rw [v.1], v.2⟩

/-- the relation, without a great number -/
theorem Rel.plain {M N : Nat} {y : Int} {D nd : Nat} {dp x : Int} (h : Rel M N y D (dp - nd) x) (c G : Nat) (hG : (G : Int) = x + c) :
    N * 10 ^ y.toNat * 2 ^ c * (10 ^ nd * 10 ^ (-dp).toNat) = D * 10 ^ dp.toNat * (2 ^ G * 10 ^ (-y).toNat) := by
  have h0 := h.y0
  have h1 := h.e0
  have h2 := h.x0
  refine Nat.eq_of_mul_eq_mul_right (Nat.mul_pos (Nat.pow_pos (n := M) (by omega : 0 < 10)) (Nat.pow_pos (n := M) (by omega : 0 < 2))) ?_
  have t1 : 10 ^ y.toNat * 10 ^ M = 10 ^ (y + M).toNat * 10 ^ (-y).toNat := by rw [← Nat.pow_add, ← Nat.pow_add]; congr 1; omega
  have t2 : 10 ^ (dp - nd + M).toNat * (10 ^ nd * 10 ^ (-dp).toNat) = 10 ^ dp.toNat * 10 ^ M := by rw [← Nat.pow_add, ← Nat.pow_add, ← Nat.pow_add]; congr 1; omega
  have t3 : 2 ^ (x + M).toNat * 2 ^ c = 2 ^ G * 2 ^ M := by rw [← Nat.pow_add, ← Nat.pow_add]; congr 1; omega
  have e := h.eq
  have l1 : N * 10 ^ y.toNat * 2 ^ c * (10 ^ nd * 10 ^ (-dp).toNat) * (10 ^ M * 2 ^ M) = (N * (10 ^ y.toNat * 10 ^ M) * 2 ^ M) * (2 ^ c * (10 ^ nd * 10 ^ (-dp).toNat)) := by
    generalize 10 ^ y.toNat = a1
    generalize 2 ^ c = a2
    generalize 10 ^ nd * 10 ^ (-dp).toNat = a3
    generalize 10 ^ M = a4
    generalize 2 ^ M = a5
    simp only [Nat.mul_comm, Nat.mul_left_comm]
  have l2 : (N * (10 ^ (y + M).toNat * 10 ^ (-y).toNat) * 2 ^ M) * (2 ^ c * (10 ^ nd * 10 ^ (-dp).toNat)) = (N * 10 ^ (y + M).toNat * 2 ^ M) * (10 ^ (-y).toNat * (2 ^ c * (10 ^ nd * 10 ^ (-dp).toNat))) := by
    generalize 10 ^ (y + M).toNat = a1
    generalize 2 ^ c = a2
    generalize 10 ^ nd * 10 ^ (-dp).toNat = a3
    generalize 10 ^ (-y).toNat = a4
    generalize 2 ^ M = a5
    simp only [Nat.mul_comm, Nat.mul_left_comm]
  have l3 : (D * 10 ^ (dp - nd + M).toNat * 2 ^ (x + M).toNat) * (10 ^ (-y).toNat * (2 ^ c * (10 ^ nd * 10 ^ (-dp).toNat))) = D * (10 ^ (dp - nd + M).toNat * (10 ^ nd * 10 ^ (-dp).toNat)) * (2 ^ (x + M).toNat * 2 ^ c) * 10 ^ (-y).toNat := by
    generalize 10 ^ (dp - nd + M).toNat = a1
    generalize 2 ^ c = a2
    generalize 10 ^ nd * 10 ^ (-dp).toNat = a3
    generalize 10 ^ (-y).toNat = a4
    generalize 2 ^ (x + M).toNat = a5
    simp only [Nat.mul_comm, Nat.mul_left_comm]
  rw [l1, t1, l2, e, l3, t2, t3]
  generalize 10 ^ dp.toNat = a1
  generalize 2 ^ G = a2
  generalize 10 ^ (-y).toNat = a3
  generalize 10 ^ M = a4
  generalize 2 ^ M = a5
  simp only [Nat.mul_comm, Nat.mul_left_comm]

/-- the left shift by 53 leaves less than 2 ^ 53 -/
theorem fb_small {D D' nd nd' z δ : Nat} (hD : D < 10 ^ nd) (e : D * 2 ^ 53 = D' * 10 ^ z) (e2 : nd + δ = nd' + z) (lo : 10 ^ (nd' - 1) ≤ D') (n1 : 1 ≤ nd') : D' * 10 ^ δ < 9007199254740992 * 10 ^ nd' ∧ δ ≤ 16 := by
  have h1 : D' * 10 ^ δ < 9007199254740992 * 10 ^ nd' := by
    refine Nat.lt_of_mul_lt_mul_right (a := 10 ^ z) ?_
    have a1 : D' * 10 ^ δ * 10 ^ z = D * 10 ^ δ * 2 ^ 53 := by rw [Nat.mul_right_comm, ← e, Nat.mul_right_comm]
    have a2 : 9007199254740992 * 10 ^ nd' * 10 ^ z = 10 ^ nd * 10 ^ δ * 2 ^ 53 := by rw [Nat.mul_assoc, ← Nat.pow_add, ← Nat.pow_add, e2, Nat.mul_comm]
    rw [a1, a2]
    exact Nat.mul_lt_mul_of_pos_right (Nat.mul_lt_mul_of_pos_right hD (Nat.pow_pos (by omega))) (by omega)
  refine ⟨h1, ?_⟩
  have h2 : 10 ^ (nd' - 1) * 10 ^ δ < 10 ^ 16 * 10 ^ nd' := Nat.lt_of_le_of_lt (Nat.mul_le_mul_right _ lo) (Nat.lt_of_lt_of_le h1 (Nat.mul_le_mul_right _ (by omega)))
  rw [← Nat.pow_add, ← Nat.pow_add] at h2
  have := (Nat.pow_lt_pow_iff_right (by omega : 1 < 10)).1 h2
  omega

theorem fb_m {D nd δ p : Nat} (h : D * 10 ^ δ < 9007199254740992 * 10 ^ nd) (hp : p ≤ δ) (u : Bool) : preN D nd p + u.toNat ≤ 9007199254740992 := by
  have h1 : preN D nd p < 9007199254740992 := by
    unfold preN
    rw [Nat.div_lt_iff_lt_mul (Nat.pow_pos (by omega))]
    exact Nat.lt_of_le_of_lt (Nat.mul_le_mul_left _ (Nat.pow_le_pow_right (by omega) hp)) h
  cases u <;> simp <;> omega

/-- full: the first bit is set -/
theorem fb_full {M N : Nat} {y : Int} {D nd F : Nat} (h : Rel M N y D (0 - nd) ((F : Int) - 1021)) (h2 : 10 ^ nd ≤ 2 * D) : 9007199254740992 * 2 ^ F * 10 ^ (-y).toNat ≤ N * 10 ^ y.toNat * tw := by
  obtain ⟨c, hc⟩ : ∃ c, c = 1075 := ⟨_, rfl⟩
  have e := h.plain c (F + 54) (by omega)
  rw [tw_pow c hc]
  rw [show (0 : Int).toNat = 0 from rfl, show (-(0 : Int)).toNat = 0 from rfl, Nat.pow_zero, Nat.mul_one, Nat.mul_one, Nat.pow_add] at e
  refine Nat.le_of_mul_le_mul_right (c := 10 ^ nd) ?_ (Nat.pow_pos (by omega))
  rw [e, Nat.mul_comm]
  have a1 : D * (2 ^ F * 2 ^ 54 * 10 ^ (-y).toNat) = 2 * D * (9007199254740992 * 2 ^ F * 10 ^ (-y).toNat) := by
    rw [show (2 : Nat) ^ 54 = 2 * 9007199254740992 from rfl]
    generalize 2 ^ F = a
    generalize 10 ^ (-y).toNat = b
    generalize (9007199254740992 : Nat) = g
    generalize (2 : Nat) = f
    simp only [Nat.mul_comm, Nat.mul_left_comm]
  rw [a1]
  exact Nat.mul_le_mul_right _ h2

theorem fb_inf {n Y F : Nat} (hF : 2046 ≤ F) (h : 9007199254740992 * 2 ^ F * Y ≤ n * tw) : NearV n Y 9218868437227405312 := by
  refine near_inf Y (F - 1) n 2045 (n * tw) rfl (by omega) rfl ?_
  refine Nat.le_trans ?_ h
  rw [mulF]
  refine Nat.mul_le_mul_right Y ?_
  rw [two_up F (by omega), ← Nat.mul_assoc]
  exact Nat.mul_le_mul_right _ (by omega)

theorem fb_near {M N : Nat} {y : Int} {D nd : Nat} {dp : Int} {F m : Nat} (h : Rel M N y D (dp - nd) ((F : Int) - 1074)) (hm : preN D nd dp.toNat + (rndUp D nd dp).toNat = m) (hi : D < 10 ^ nd) (last : D % 10 ≠ 0) (hm2 : m ≤ 9007199254740992)
    (hfull : F ≠ 0 → 9007199254740992 * 2 ^ F * 10 ^ (-y).toNat ≤ N * 10 ^ y.toNat * tw) :
    NearV (N * 10 ^ y.toNat) (10 ^ (-y).toNat) (min (F * 4503599627370496 + m) 9218868437227405312) ∧ (F ≠ 0 → 4503599627370496 ≤ m) := by
  obtain ⟨c, hc⟩ : ∃ c, c = 1075 := ⟨_, rfl⟩
  have e := h.plain c (F + 1) (by omega)
  rw [← tw_pow c hc, Nat.pow_succ] at e
  obtain ⟨u, v⟩ := dec_round D nd dp m hm hi last
  have hK : 0 < 2 ^ F * 10 ^ (-y).toNat := Nat.mul_pos (Nat.pow_pos (by omega)) (Nat.pow_pos (by omega))
  have hB : 0 < 10 ^ nd * 10 ^ (-dp).toNat := Nat.mul_pos (Nat.pow_pos (by omega)) (Nat.pow_pos (by omega))
  have hY : 0 < 10 ^ (-y).toNat := Nat.pow_pos (by omega)
  generalize 10 ^ nd * 10 ^ (-dp).toNat = B at *
  generalize D * 10 ^ dp.toNat = A at *
  generalize N * 10 ^ y.toNat = n at *
  generalize 10 ^ (-y).toNat = Y at *
  have e' : n * tw * B = 2 * A * (2 ^ F * Y) := by
    rw [e]
    generalize 2 ^ F = a
    generalize (2 : Nat) = f
    simp only [Nat.mul_comm, Nat.mul_left_comm]
  have c1 : ∀ j, 2 * A < j * B → n * tw < j * 2 ^ F * Y := by
    intro j hj
    refine Nat.lt_of_mul_lt_mul_right (a := B) ?_
    rw [e', Nat.mul_assoc j, Nat.mul_right_comm j]
    exact Nat.mul_lt_mul_of_pos_right hj hK
  have c2 : ∀ j, j * B < 2 * A → j * 2 ^ F * Y < n * tw := by
    intro j hj
    refine Nat.lt_of_mul_lt_mul_right (a := B) ?_
    rw [e', Nat.mul_assoc j, Nat.mul_right_comm j]
    exact Nat.mul_lt_mul_of_pos_right hj hK
  have c3 : ∀ j, 2 * A = j * B → n * tw = j * 2 ^ F * Y := by
    intro j hj
    refine Nat.eq_of_mul_eq_mul_right hB ?_
    rw [e', Nat.mul_assoc j, Nat.mul_right_comm j, hj]
  have hup : n * tw < (2 * m + 1) * 2 ^ F * Y ∨ (n * tw = (2 * m + 1) * 2 ^ F * Y ∧ m % 2 = 0) := by
    rcases u with u | u
    · exact Or.inl (c1 _ u)
    · exact Or.inr ⟨c3 _ u.1, u.2⟩
  refine ⟨near_round (n * tw) Y F m n rfl hup (fun h => ?_) hfull hm2 hY, fun h => ?_⟩
  · rcases v h with v | v
    · exact Or.inl (c2 _ v)
    · exact Or.inr ⟨(c3 _ v.1.symm).symm, v.2⟩
  · rcases Nat.lt_or_ge m 4503599627370496 with q | q
    · exfalso
      have h1 := hfull h
      have h2 : (2 * m + 1) * 2 ^ F * Y < 9007199254740992 * 2 ^ F * Y := Nat.mul_lt_mul_of_pos_right (Nat.mul_lt_mul_of_pos_right (by omega) (Nat.pow_pos (by omega))) hY
      rcases hup with q | q <;> omega
    · exact q
end Go.Proofs.YtgekdmjneogdoaaGreatDoor

namespace Go.Proofs.YtgekdmjneogdoaaGreatDoor
open Go.RowKit

/-! the last shifts of floatBits, the tables that it reads, and its scope -/
theorem right_fb {w : World} {b M N : Nat} {y : Int} {neg : Bool} {D nd q : Nat} {x : Int} (h : FB w b M N y neg D nd (-(q : Int)) x) (k : Nat) (hk : k ≤ 60) (hM : M = 2000) (hn : 2 * nd + q + k + 59 ≤ 2000) (hn8 : nd + k ≤ 800) :
    Calls Tryz.prog 269 #[.pointer (some ⟨b, 0, none⟩), .int .u64 k] w fun e w' => e = .returned (.tuple #[]) ∧ (∃ (D' nd' q' : Nat), FB w' b M N y neg D' nd' (-(q' : Int)) (x + k) ∧ nd' ≤ nd + k ∧ q' ≤ q + nd + 59) ∧ Kept (But b) w w' := by
  have nd1 := h.dec.nd1
  have x0 := h.rel.x0
  have hdiv : D * 10 ^ k % 2 ^ k = 0 := by
    rw [show (10 : Nat) = 5 * 2 from rfl, Nat.mul_pow, ← Nat.mul_assoc]
    exact Nat.mul_mod_left _ _
  refine (right_dec h.dec k k hk hdiv hn8 (by omega) (by omega)).mono ?_
  rintro e w' ⟨rfl, ⟨D', nd', X', z, r0, q1, q2, q3, q4, q5⟩, hk'⟩
  refine ⟨rfl, ?_, hk'⟩
  have hs : D * 10 ^ X' * 2 ^ 0 = D' * 10 ^ (z + 1) * 2 ^ k := by
    rw [q2, Nat.pow_zero, Nat.mul_one, Nat.pow_succ]
    generalize 2 ^ k = r
    generalize 10 ^ z = t
    simp only [Nat.mul_assoc, Nat.mul_comm, Nat.mul_left_comm]
  have n8 := q1.nd8
  have hno : (-(q : Int) - nd) - k ≤ (-(q : Int) - ((r0 : Int) - 1)) - nd' := by
    obtain ⟨M', hM'⟩ : ∃ M', M' = 5000 := ⟨_, rfl⟩
    have s0 := Rel.start M' D (-(q : Int) - nd) (by omega)
    have s1 : Rel M' D (-(q : Int) - nd) D' ((-(q : Int) - ((r0 : Int) - 1)) - nd') (k : Nat) := s0.step hs (by omega) (by omega) (by omega) (by omega)
    exact s1.noughts q1.last
  have hrel : Rel M N y D' ((-(q : Int) - ((r0 : Int) - 1)) - nd') (x + k) := h.rel.step hs (by omega) (by omega) (by omega) (by omega)
  have hz : (-(q : Int) - ((r0 : Int) - 1)) = -((q + (r0 - 1) : Nat) : Int) := by omega
  rw [hz] at q1 hrel hno
  exact ⟨D', nd', q + (r0 - 1), ⟨q1.weak, hrel⟩, by omega, by omega⟩

/-- the shift of a number below the least exponent -/
theorem sub_fb {w : World} {b M N : Nat} {y : Int} {neg : Bool} {D nd q : Nat} {x : Int} (h : FB w b M N y neg D nd (-(q : Int)) x) (k : Nat) (hk1 : 1 ≤ k) (hk : k ≤ 120) (hM : M = 2000) (hn : nd + q ≤ 370) :
    Calls Tryz.prog 229 #[.pointer (some ⟨b, 0, none⟩), .int .i64 (-(k : Int))] w fun e w' => e = .returned (.tuple #[]) ∧ (∃ (D' nd' q' : Nat), FB w' b M N y neg D' nd' (-(q' : Int)) (x + k) ∧ nd' ≤ 780 ∧ q' ≤ 1000) ∧ Kept (But b) w w' := by
  obtain ⟨a, hm, _⟩ := h.dec.mem
  have nd1 := h.dec.nd1
  by_cases h6 : k ≤ 60
  · refine shift_right w b nd k _ hk1 h6 nd1 hm.nd ?_
    refine (right_fb h k h6 hM (by omega) (by omega)).mono ?_
    rintro e w' ⟨he, ⟨D', nd', q', g1, g2, g3⟩, hk'⟩
    exact ⟨he, ⟨D', nd', q', g1, by omega, by omega⟩, hk'⟩
  · refine shift_right2 w b nd k _ (fun w1 => (∃ (D' nd' q' : Nat), FB w1 b M N y neg D' nd' (-(q' : Int)) (x + (60 : Nat)) ∧ nd' ≤ nd + 60 ∧ q' ≤ q + nd + 59) ∧ Kept (But b) w w1) (by omega) hk nd1 hm.nd ?_ ?_
    · exact right_fb h 60 (by omega) hM (by omega) (by omega)
    · rintro w1 ⟨⟨D1, nd1', q1, g1, g2, g3⟩, hk1'⟩
      refine (right_fb g1 (k - 60) (by omega) hM (by omega) (by omega)).mono ?_
      rintro e w' ⟨he, ⟨D', nd', q', r1, r2, r3⟩, hk'⟩
      have ex : x + (60 : Nat) + (k - 60 : Nat) = x + k := by omega
      rw [ex] at r1
      exact ⟨he, ⟨D', nd', q', r1, by omega, by omega⟩, hk1'.trans hk'⟩

/-- the last shift: 53 to the left -/
theorem last_fb {w : World} {b M N : Nat} {y : Int} {neg : Bool} {D nd q : Nat} {x : Int} (h : FB w b M N y neg D nd (-(q : Int)) x) (hM : M = 2000) (hn : nd ≤ 780) (hq : q ≤ 1000) (hx : -1900 ≤ x) (hc : Cheat w) :
    Calls Tryz.prog 229 #[.pointer (some ⟨b, 0, none⟩), .int .i64 53] w fun e w' => e = .returned (.tuple #[]) ∧ (∃ (D' nd' : Nat) (dp' : Int), DecIs w' b D' nd' dp' neg ∧ Rel M N y D' (dp' - nd') (x - 53) ∧ preN D' nd' dp'.toNat + (rndUp D' nd' dp').toNat ≤ 9007199254740992 ∧ -5000 ≤ dp' ∧ dp' ≤ 18) ∧ Kept (But b) w w' := by
  obtain ⟨a, hm, _⟩ := h.dec.mem
  have nd1 := h.dec.nd1
  refine shift_left w b nd 53 _ (by omega) (by omega) nd1 hm.nd ?_
  refine (left_dec h.dec 53 (by omega) (by omega) hc hn (by omega) (by omega)).mono ?_
  rintro e w' ⟨rfl, ⟨D', nd', z, δ, q1, q2, q3, q4⟩, hk⟩
  refine ⟨rfl, ?_, hk⟩
  obtain ⟨s1, s2⟩ := fb_small h.dec.hi q2 q3 q1.lo q1.nd1
  have n8 := q1.nd8
  have hs : D * 10 ^ 0 * 2 ^ 53 = D' * 10 ^ z * 2 ^ 0 := by rw [Nat.pow_zero, Nat.mul_one, q2, Nat.mul_one]
  refine ⟨D', nd', -(q : Int) + δ, q1, h.rel.step hs (by omega) (by omega) (by omega) (by omega), ?_, by omega, by omega⟩
  exact fb_m s1 (by omega) _

/-- what floatBits reads beside the decimal -/
structure SlowT (w : World) (b : Nat) : Prop where
  cheat : Cheat w
  cheatB : ∀ B O, w.cell? ⟨11, 0, none⟩ = some (.slice (some ⟨B, O, none⟩) 61 61) → B ≠ b
  cheatG : 11 ≠ b
  pow : ∃ B O, B ≠ b ∧ w.cell? ⟨13, 0, none⟩ = some (.slice (some ⟨B, O, none⟩) 9 9) ∧ ∀ j, j < 9 → w.cell? ⟨B, O + j, none⟩ = some (.int .i64 (ptN j : Int))
  powG : 13 ≠ b
  infoG : 8 ≠ b
  mant : w.cell? ⟨8, 0, none⟩ = some (.int .u64 52)
  expb : w.cell? ⟨8, 1, none⟩ = some (.int .u64 11)
  bias : w.cell? ⟨8, 2, none⟩ = some (.int .i64 (-1023))

theorem SlowT.kept {w w' : World} {b : Nat} (h : SlowT w b) (hk : Kept (But b) w w') : SlowT w' b := by
  have cell : ∀ B O, B ≠ b → w'.cell? ⟨B, O, none⟩ = w.cell? ⟨B, O, none⟩ := by
    intro B O hB
    unfold World.cell?; rw [hk.block B hB]
  obtain ⟨B, O, p0, p1, p2⟩ := h.pow
  refine ⟨h.cheat.kept hk h.cheatB h.cheatG, fun B O e => h.cheatB B O (by rw [← cell _ _ h.cheatG]; exact e), h.cheatG, ⟨B, O, p0, ?_, fun j hj => ?_⟩, h.powG, h.infoG, ?_, ?_, ?_⟩
  · rw [cell _ _ h.powG]; exact p1
  · rw [cell _ _ p0]; exact p2 j hj
  · rw [cell _ _ h.infoG]; exact h.mant
  · rw [cell _ _ h.infoG]; exact h.expb
  · rw [cell _ _ h.infoG]; exact h.bias

/-- by a goto to label 0 or 1: what stands behind the label -/
def TailsD (P : Program) (r0 r1 : Code) (Q : Exit → Act → World → Prop) : Exit → Act → World → Prop
  | .goto 0, a, w => r0.wp P (Exit.noGoto Q) a w
  | .goto 1, a, w => r1.wp P (Exit.noGoto Q) a w
  | .goto _, _, _ => False
  | e, a, w => Q e a w

structure Tails (P : Program) (r0 r1 : Code) (Q : Exit → Act → World → Prop) (e : Exit) (a : Act) (w : World) : Prop where
  out : TailsD P r0 r1 Q e a w

section
variable {P : Program} {r0 r1 : Code} {a : Act} {w : World} {Q : Exit → Act → World → Prop}
theorem tails0 (h : r0.wp P (Exit.noGoto Q) a w) : Tails P r0 r1 Q (.goto 0) a w := ⟨h⟩
theorem tails1 (h : r1.wp P (Exit.noGoto Q) a w) : Tails P r0 r1 Q (.goto 1) a w := ⟨h⟩

theorem wp_scope_tails {c : Code} (h0 : findLabel c 0 = some r0) (h1 : findLabel c 1 = some r1) (h : c.wp P (Tails P r0 r1 Q) a w) : (Code.scope c).wp P Q a w := by
  intro b k cs
  have hg : ∀ l rest, findLabel c l = some rest → gotoIn l (.inScope c :: k) = some (.code rest :: .inScope c :: k) := fun l rest hf => by simp [gotoIn, hf]
  have tail : ∀ rest a w, rest.wp P (Exit.noGoto Q) a w → ∃ e a' w', Q e a' w' ∧ Arrives P (lone (b.at a (.code rest :: .inScope c :: k)) cs w) b k cs e a' w' := by
    intro rest a w hr
    obtain ⟨e, a₁, w₁, hq, harr⟩ := hr b (.inScope c :: k) cs
    cases e with
    | normal => exact ⟨.normal, a₁, w₁, hq, Steps.trans harr (.one step_inScope)⟩
    | exit id => exact ⟨.exit id, a₁, w₁, hq, fun k' hk => harr k' (by simp [exitTo, hk])⟩
    | goto l => exact hq.elim
    | ret => exact ⟨_, a₁, w₁, hq, harr⟩
    | panic ch => exact ⟨_, a₁, w₁, hq, harr⟩
    | outgrown => exact ⟨_, a₁, w₁, hq, harr⟩
  obtain ⟨e, a₁, w₁, hq, harr⟩ := h b (.inScope c :: k) cs
  have hq := hq.out
  unfold TailsD at hq
  cases e with
  | normal => exact ⟨.normal, a₁, w₁, hq, .head step_scope (Steps.trans harr (.one step_inScope))⟩
  | exit id => exact ⟨.exit id, a₁, w₁, hq, fun k' hk => .head step_scope (harr k' (by simp [exitTo, hk]))⟩
  | goto l =>
    match l, hq, harr with
    | 0, hq, harr =>
      obtain ⟨e₂, a₂, w₂, hq₂, harr₂⟩ := tail r0 a₁ w₁ hq
      exact ⟨e₂, a₂, w₂, hq₂, .of_steps (.head step_scope (harr _ (hg 0 r0 h0))) harr₂⟩
    | 1, hq, harr =>
      obtain ⟨e₂, a₂, w₂, hq₂, harr₂⟩ := tail r1 a₁ w₁ hq
      exact ⟨e₂, a₂, w₂, hq₂, .of_steps (.head step_scope (harr _ (hg 1 r1 h1))) harr₂⟩
    | _ + 2, hq, _ => exact hq.elim
  | ret => exact ⟨_, a₁, w₁, hq, .of_steps (.one step_scope) harr⟩
  | panic ch => exact ⟨_, a₁, w₁, hq, .of_steps (.one step_scope) harr⟩
  | outgrown => exact ⟨_, a₁, w₁, hq, .of_steps (.one step_scope) harr⟩
end
end Go.Proofs.YtgekdmjneogdoaaGreatDoor

namespace Go.Proofs.YtgekdmjneogdoaaGreatDoor
open Go.RowKit

/-! floatBits: far too great, far too small -/
set_option maxRecDepth 20000 in
set_option maxHeartbeats 800000 in
theorem fbits_hi (w : World) (b nd : Nat) (dp : Int) (neg : Bool) (a : Nat → Nat) (h : DM w b a nd dp neg false) (n1 : 1 ≤ nd) (hT : SlowT w b) (hd : 310 < dp) :
    Calls Tryz.prog 281 #[.pointer (some ⟨b, 0, none⟩), .pointer (some ⟨8, 0, none⟩)] w fun e w' => e = .returned (.tuple #[.int .u64 (sgn neg + 9218868437227405312 : Nat), .bool true]) ∧ ∃ n, w' = w.drewN n := by
  have c0 := h.nd
  have c1 := h.dp
  have c2 := h.neg
  have i0 := hT.mant
  have i1 := hT.expb
  have i2 := hT.bias
  have h0 : ((nd : Int) == 0) = false := by rw [beq_eq_false_iff_ne]; omega
  have hn0 : ¬ nd = 0 := by omega
  clear h hT
  go_enter Tryz.func281, Tryz.ntmps281
  go_wp2_with fail
  refine wp_scope_tails rfl rfl ?_
  go_wp2_with fail
  go_step3
  refine tails1 ?_
  go_wp2_with fail
  go_quiet (fail)
  go_wp2_with fail
  go_step3
  go_wp2_with fail
  go_quiet (fail)
  cases neg
  · go_wp2_with fail
    simp only [Exit.noGoto]
    go_ret2
    exact ⟨rfl, _, by first | rfl | (simp only [World.drewN_drewN]; rfl)⟩
  · go_wp2_with fail
    go_quiet (fail)
    go_wp2_with fail
    simp only [Exit.noGoto]
    go_ret2
    exact ⟨rfl, _, by first | rfl | (simp only [World.drewN_drewN]; rfl)⟩

set_option maxRecDepth 20000 in
set_option maxHeartbeats 800000 in
theorem fbits_lo (w : World) (b nd : Nat) (dp : Int) (neg : Bool) (a : Nat → Nat) (h : DM w b a nd dp neg false) (n1 : 1 ≤ nd) (hT : SlowT w b) (hd : dp < -330) :
    Calls Tryz.prog 281 #[.pointer (some ⟨b, 0, none⟩), .pointer (some ⟨8, 0, none⟩)] w fun e w' => e = .returned (.tuple #[.int .u64 (sgn neg + 0 : Nat), .bool false]) ∧ ∃ n, w' = w.drewN n := by
  have c0 := h.nd
  have c1 := h.dp
  have c2 := h.neg
  have i0 := hT.mant
  have i1 := hT.expb
  have i2 := hT.bias
  have h0 : ((nd : Int) == 0) = false := by rw [beq_eq_false_iff_ne]; omega
  have hn0 : ¬ nd = 0 := by omega
  have hno : ¬ (310 : Int) < dp := by omega
  clear h hT
  go_enter Tryz.func281, Tryz.ntmps281
  go_wp2_with fail
  refine wp_scope_tails rfl rfl ?_
  go_wp2_with fail
  go_step3
  refine tails0 ?_
  go_wp2_with fail
  go_quiet (fail)
  cases neg
  · go_wp2_with fail
    simp only [Exit.noGoto]
    go_ret2
    exact ⟨rfl, _, rfl⟩
  · go_wp2_with fail
    go_quiet (fail)
    go_wp2_with fail
    simp only [Exit.noGoto]
    go_ret2
    exact ⟨rfl, _, by first | rfl | (simp only [World.drewN_drewN]; rfl)⟩
end Go.Proofs.YtgekdmjneogdoaaGreatDoor

namespace Go.Proofs.YtgekdmjneogdoaaGreatDoor
open Go.RowKit

/-! FormatFloat at any finite value -/
theorem i64_and2047 (n : Int) : bits .and .i64 n 2047 = n % 2048 := by
  have h2047 : (BitVec.ofInt 64 2047).toNat = 2 ^ 11 - 1 := by decide
  have key : (BitVec.ofInt 64 n &&& BitVec.ofInt 64 2047).toNat = (n % ((2 ^ 64 : Nat) : Int)).toNat % 2 ^ 11 := by
    rw [BitVec.toNat_and, BitVec.toNat_ofInt, h2047, Nat.and_two_pow_sub_one_eq_mod]
  show IntKind.i64.wrap ((BitVec.ofInt 64 n &&& BitVec.ofInt 64 2047).toNat : Nat) = n % 2048
  rw [key, IntKind.wrap_i64]
  omega

theorem and52 (b : Nat) (h : b < 18446744073709551616) : bits BinOp.and IntKind.u64 (b : Int) 4503599627370495 = ((b % 4503599627370496 : Nat) : Int) := by
  have := u64_and_nat b 4503599627370495 h (by omega)
  rw [show (4503599627370495 : Nat) = 2 ^ 52 - 1 by decide, Nat.and_two_pow_sub_one_eq_mod] at this
  exact this

theorem or52 (f : Nat) (h : f < 4503599627370496) : bits BinOp.or IntKind.u64 (f : Int) 4503599627370496 = ((f + 4503599627370496 : Nat) : Int) := by
  have := u64_or_nat f 4503599627370496 (by omega) (by omega)
  have e := or_high f 1 h
  rw [Nat.one_mul] at e
  rw [e] at this
  exact this

def lenV (v : Nat) : Nat := Lib.bitLen (fpM v)
def mmV (v : Nat) : Nat := fpM v * 2 ^ (64 - lenV v)
def eeV (v : Nat) : Int := (fpE v : Int) - 1138 + lenV v
def digV (v k : Nat) : Nat := (fixD (mmV v) (eeV v) (k + 1)).1
def powV (v k : Nat) : Int := (fixD (mmV v) (eeV v) (k + 1)).2
def fmtV (neg : Bool) (v k : Nat) : List UInt8 :=
  efgText neg (fun t => Lib.dg (digV v k) (Lib.nDigits (digV v k) - 1 - t)) (trimN (fun t => Lib.dg (digV v k) (Lib.nDigits (digV v k) - 1 - t)) (Lib.nDigits (digV v k))) k ((Lib.nDigits (digV v k) : Int) + powV v k)

theorem lenV_ok (v : Nat) (hv0 : 1 ≤ v) (hv : v < 9218868437227405312) : 2 ^ (lenV v - 1) ≤ fpM v ∧ fpM v < 2 ^ lenV v ∧ 1 ≤ lenV v ∧ lenV v ≤ 53 := by
  have hM : 1 ≤ fpM v ∧ fpM v < 9007199254740992 := by
    rcases fp_cases v with h | ⟨m, e, h1, h2, rfl⟩
    · rw [fpM_sub h]; omega
    · rw [fpM_bits h1 h2]; omega
  obtain ⟨a, b, c, d⟩ := bitLen_bounds (fpM v) (by omega) hM.1
  refine ⟨c, a, d, ?_⟩
  unfold lenV
  rcases Nat.lt_or_ge 53 (Lib.bitLen (fpM v)) with h | h
  · have : 2 ^ 53 ≤ 2 ^ (Lib.bitLen (fpM v) - 1) := Nat.pow_le_pow_right (by omega) (by omega)
    omega
  · exact h

theorem digV_ok (v k : Nat) (hv0 : 1 ≤ v) (hv : v < 9218868437227405312) (hk : k ≤ 16) :
    fixOk (mmV v) (eeV v) (k + 1) = true ∧ 1 ≤ digV v k ∧ digV v k < 10 ^ (k + 1) ∧ -380 ≤ powV v k ∧ powV v k ≤ 380 ∧ (k = 16 → NearV (digV v k * 10 ^ (powV v k).toNat) (10 ^ (-powV v k).toNat) v) := by
  obtain ⟨l1, l2, l3, l4⟩ := lenV_ok v hv0 hv
  obtain ⟨a, b, c, d, e, f⟩ := fixD_all v (lenV v) (k + 1) hv0 hv l1 l2 l3 l4 (by omega) (by omega) (eeV v) rfl (digV v k) (powV v k) rfl
  exact ⟨a, b, c, d, e, fun h => f (by omega)⟩

theorem fmt_fin (neg : Bool) (v k : Nat) (hv0 : 1 ≤ v) (hv : v < 9218868437227405312) (hk : k ≤ 16) (w : World) (ht : Tabs w) :
    Calls Tryz.prog 75 #[.float .f64 (sgn neg + v : Nat), .int .u8 101, .int .i64 k, .int .i64 64] w fun z w' => z = .returned (.string ⟨(fmtV neg v k).toArray⟩) ∧ Below w.heap.size w w' := by
  obtain ⟨l1, l2, l3, l4⟩ := lenV_ok v hv0 hv
  obtain ⟨h1, h3, h4, h5, h6, _⟩ := digV_ok v k hv0 hv hk
  have hp : 10 ^ (k + 1) ≤ 10 ^ 17 := Nat.pow_le_pow_right (by omega) (by omega)
  obtain ⟨b, hbe⟩ : ∃ b, sgn neg + v = b := ⟨_, rfl⟩
  have hb : b < 18446744073709551616 := by rw [← hbe]; cases neg <;> simp [sgn] <;> omega
  have hneg : ((b : Int) / 9223372036854775808 != 0) = neg := by
    rw [← hbe]
    cases neg
    · rw [bne_eq_false_iff_eq]; simp only [sgn, Bool.false_eq_true, if_false]; omega
    · rw [bne_iff_ne]; simp only [sgn, if_true]; omega
  have hs0 : sgn neg = 0 ∨ sgn neg = 9223372036854775808 := by cases neg <;> simp [sgn]
  have hM0 : ((fpM v : Int) == 0) = false := by
    rw [beq_eq_false_iff_ne]
    have : 0 < 2 ^ (lenV v - 1) := Nat.pow_pos (by omega)
    omega
  have hMb : fpM v < 18446744073709551616 := by
    have : 2 ^ lenV v ≤ 2 ^ 53 := Nat.pow_le_pow_right (by omega) l4
    omega
  have hmm : IntKind.u64.wrap ((fpM v : Int) * 2 ^ (64 - lenV v)) = (mmV v : Int) := by
    rw [shl_nat, Nat.mod_eq_of_lt (shift_lt _ _ l2 (by omega))]; rfl
  rw [hbe]
  refine formatFloat_any b k _ w (format_any b k _ w hk ?_)
  intro w' hb' hr
  have ht' := ht.below hb'
  have hg : w.heap.size < w'.heap.size := (hr.own.lt w.heap.size rfl).2
  have hdne : ((digV v k : Int) != 0) = true := by rw [bne_iff_ne]; omega
  have e2 : ((k + 1 : Nat) : Int) = (k : Int) + 1 := by omega
  by_cases hs : v < 4503599627370496
  · refine ftoa_sub w' w.heap.size b (fpM v) (lenV v) (mmV v) (digV v k) (powV v k) neg k ht'.opt hk hb hneg ?_ ?_ hM0 hMb rfl l3 (by omega) hmm ?_ hdne h3 (by omega) h5 h6 ht' hr hg
    · rw [i64_and2047]; omega
    · rw [and52 b hb, fpM_sub hs]; omega
    · intro w'' hb''
      have hx := fixed_at (mmV v) (k + 1) (eeV v) k w'' (ht'.below hb'') h1
      rw [e2, show eeV v = -1022 - (64 - (lenV v : Int)) - 52 by unfold eeV; rw [fpE_sub hs]; omega] at hx
      unfold digV powV
      rw [show eeV v = -1022 - (64 - (lenV v : Int)) - 52 by unfold eeV; rw [fpE_sub hs]; omega]
      exact hx
  · refine ftoa_norm w' w.heap.size b (v / 4503599627370496) (v % 4503599627370496) (fpM v) (lenV v) (mmV v) (digV v k) (powV v k) neg k ht'.opt hk hb hneg ?_ ?_ (by omega) (by omega) ?_ hM0 hMb rfl l3 (by omega) hmm ?_ hdne h3 (by omega) h5 h6 ht' hr hg
    · rw [i64_and2047]; omega
    · rw [and52 b hb]; omega
    · rw [or52 _ (by omega)]
      unfold fpM
      rw [if_neg (by omega)]
    · intro w'' hb''
      have hx := fixed_at (mmV v) (k + 1) (eeV v) k w'' (ht'.below hb'') h1
      have e3 : eeV v = ((v / 4503599627370496 : Nat) : Int) + -1023 - (64 - (lenV v : Int)) - 52 := by unfold eeV fpE; omega
      rw [e2] at hx
      unfold digV powV
      rw [e3] at hx ⊢
      exact hx
end Go.Proofs.YtgekdmjneogdoaaGreatDoor

namespace Go.Proofs.YtgekdmjneogdoaaGreatDoor
open Go.RowKit

/-! floatBits -/
theorem DecW.drewN {w : World} {b D nd : Nat} {dp : Int} {neg : Bool} (h : DecW w b D nd dp neg) (n : Nat) : DecW (w.drewN n) b D nd dp neg := by
  obtain ⟨a, h1, h2⟩ := h.mem
  exact ⟨⟨a, h1.drewN n, h2⟩, h.lo, h.hi, h.nd1, h.nd8⟩
theorem FB.drewN {w : World} {b M N : Nat} {y : Int} {neg : Bool} {D nd : Nat} {dp x : Int} (h : FB w b M N y neg D nd dp x) (n : Nat) : FB (w.drewN n) b M N y neg D nd dp x := ⟨h.dec.drewN n, h.rel⟩
theorem SlowT.drewN {w : World} {b : Nat} (h : SlowT w b) (n : Nat) : SlowT (w.drewN n) b := h.kept (kdrewN _ n w)

theorem FB.first {w : World} {b M N : Nat} {y : Int} {neg : Bool} {D nd : Nat} {dp x : Int} (h : FB w b M N y neg D nd dp x) : ∃ g : Nat, g ≤ 9 ∧ w.cell? ⟨b, 0, none⟩ = some (.int .u8 ((48 + g : Nat) : Int)) ∧ (g < 5 → 2 * D < 10 ^ nd) ∧ (5 ≤ g → 10 ^ nd ≤ 2 * D) := by
  obtain ⟨a, h1, h2⟩ := h.dec.mem
  have nd1 := h.dec.nd1
  have hi := h.dec.hi
  have e := h1.dig 0 (by omega)
  rw [h2 0 (by omega), show nd - 1 - 0 = nd - 1 by omega] at e
  have hp : 0 < 10 ^ (nd - 1) := Nat.pow_pos (by omega)
  have e10 : 10 ^ nd = 10 * 10 ^ (nd - 1) := by
    obtain ⟨k, rfl⟩ : ∃ k, nd = k + 1 := ⟨nd - 1, by omega⟩
    rw [Nat.add_sub_cancel, Nat.pow_succ, Nat.mul_comm]
  have hlt : D / 10 ^ (nd - 1) < 10 := by rw [Nat.div_lt_iff_lt_mul hp]; omega
  rw [Nat.mod_eq_of_lt hlt] at e
  obtain ⟨g, hg⟩ : ∃ g, D / 10 ^ (nd - 1) = g := ⟨_, rfl⟩
  rw [hg] at e hlt
  have m1 := Nat.div_add_mod D (10 ^ (nd - 1))
  have m2 := Nat.mod_lt D hp
  rw [hg] at m1
  refine ⟨g, by omega, e, fun h5 => ?_, fun h5 => ?_⟩
  · have : 10 ^ (nd - 1) * (g + 1) ≤ 10 ^ (nd - 1) * 5 := Nat.mul_le_mul_left _ (by omega)
    rw [Nat.mul_add] at this
    omega
  · have : 10 ^ (nd - 1) * 5 ≤ 10 ^ (nd - 1) * g := Nat.mul_le_mul_left _ h5
    omega

theorem FB.xPos {w : World} {b M N nd0 : Nat} {y : Int} {neg : Bool} {D nd : Nat} {dp x : Int} (h : FB w b M N y neg D nd dp x) (h0 : Num0 M N nd0 y) (hd : 1 ≤ nd0 + y) (hdp : dp ≤ 0) : 0 < x := by
  rcases Int.lt_or_le 0 x with q | q
  · exact q
  · exfalso
    have h1 := h.rel.eq
    have y0 := h.rel.y0
    have e0 := h.rel.e0
    have x0 := h.rel.x0
    have hn1 := h.dec.nd1
    have hn := h0.n1
    have k1 : 10 ^ (nd0 - 1) * 10 ^ (y + M).toNat * 2 ^ M < 10 ^ nd * 10 ^ (dp - nd + M).toNat * 2 ^ M := by
      refine Nat.lt_of_le_of_lt (Nat.mul_le_mul_right _ (Nat.mul_le_mul_right _ h0.lo)) ?_
      rw [h1]
      refine Nat.lt_of_lt_of_le (Nat.mul_lt_mul_of_pos_right (Nat.mul_lt_mul_of_pos_right h.dec.hi (Nat.pow_pos (by omega))) (Nat.pow_pos (by omega))) ?_
      exact Nat.mul_le_mul_left _ (Nat.pow_le_pow_right (by omega) (by omega))
    have k2 := Nat.lt_of_mul_lt_mul_right k1
    rw [← Nat.pow_add, ← Nat.pow_add] at k2
    have := (Nat.pow_lt_pow_iff_right (by omega : 1 < 10)).1 k2
    omega

theorem or_pack (a E : Nat) (ha : a < 4503599627370496) (hE : E < 2048) : bits BinOp.or IntKind.u64 (a : Int) ((E * 4503599627370496 : Nat) : Int) = ((E * 4503599627370496 + a : Nat) : Int) := by
  rw [u64_or_nat a (E * 4503599627370496) (by omega) (by omega), Nat.or_comm, Nat.mul_comm E]
  exact congrArg _ (Nat.two_pow_add_eq_or_of_lt (i := 52) ha E).symm

theorem or_top (v : Nat) (hv : v < 9223372036854775808) : bits BinOp.or IntKind.u64 (v : Int) 9223372036854775808 = ((9223372036854775808 + v : Nat) : Int) := by
  have := u64_or_nat v 9223372036854775808 (by omega) (by omega)
  refine this.trans ?_
  rw [Nat.or_comm]
  exact congrArg _ (Nat.two_pow_add_eq_or_of_lt (i := 63) hv 1).symm

theorem and_bit52 (m : Nat) (h : m ≤ 9007199254740991) : bits BinOp.and IntKind.u64 (m : Int) 4503599627370496 = ((m / 4503599627370496 * 4503599627370496 : Nat) : Int) := by
  refine (u64_and_nat m 4503599627370496 (by omega) (by omega)).trans (congrArg _ ?_)
  have e : m = 2 ^ 52 * (m / 4503599627370496) + m % 4503599627370496 := by omega
  rcases (show m / 4503599627370496 = 0 ∨ m / 4503599627370496 = 1 by omega) with q | q
  · rw [q, Nat.zero_mul]
    apply Nat.eq_of_testBit_eq
    intro i
    rw [Nat.testBit_and, show (4503599627370496 : Nat) = 2 ^ 52 from rfl, Nat.testBit_two_pow, Nat.zero_testBit]
    by_cases hi : 52 = i
    · subst hi
      rw [Nat.testBit_lt_two_pow (show m < 2 ^ 52 by omega), Bool.false_and]
    · simp [hi]
  · rw [q, Nat.one_mul]
    apply Nat.eq_of_testBit_eq
    intro i
    rw [Nat.testBit_and, show (4503599627370496 : Nat) = 2 ^ 52 from rfl, Nat.testBit_two_pow]
    by_cases hi : 52 = i
    · subst hi
      have : m.testBit 52 = true := by
        rw [Nat.testBit_eq_decide_div_mod_eq]
        simp; omega
      rw [this, Bool.true_and]
    · simp [hi]

theorem fb_pack_f (mi Ei : Int) (mant E v : Nat) (h1 : mi = (mant : Int)) (h2 : Ei = (E : Int)) (hm : mant ≤ 9007199254740991) (hE : E < 2048) (hv : E * 4503599627370496 + mant % 4503599627370496 = v) :
    bits BinOp.or IntKind.u64 (bits BinOp.and IntKind.u64 mi 4503599627370495) (IntKind.u64.wrap (IntKind.u64.wrap (bits BinOp.and IntKind.i64 Ei 2047) * 4503599627370496)) = ((sgn false + v : Nat) : Int) := by
  subst h1 h2
  have e1 : bits BinOp.and IntKind.i64 (E : Int) 2047 = (E : Int) := by rw [i64_and2047]; omega
  have e2 : ∀ z : Nat, z < 18446744073709551616 → IntKind.u64.wrap (z : Int) = (z : Int) := fun z hz => by
    show (z : Int) % 18446744073709551616 = z
    omega
  have e3 : ((E : Int) * 4503599627370496) = ((E * 4503599627370496 : Nat) : Int) := by omega
  rw [e1, e2 E (by omega), e3, e2 _ (by omega), and52 mant (by omega), or_pack _ E (Nat.mod_lt _ (by omega)) hE, hv]
  show (v : Int) = ((0 + v : Nat) : Int)
  rw [Nat.zero_add]

theorem fb_pack_t (mi Ei : Int) (mant E v : Nat) (h1 : mi = (mant : Int)) (h2 : Ei = (E : Int)) (hm : mant ≤ 9007199254740991) (hE : E < 2048) (hv : E * 4503599627370496 + mant % 4503599627370496 = v) :
    bits BinOp.or IntKind.u64 (bits BinOp.or IntKind.u64 (bits BinOp.and IntKind.u64 mi 4503599627370495) (IntKind.u64.wrap (IntKind.u64.wrap (bits BinOp.and IntKind.i64 Ei 2047) * 4503599627370496))) 9223372036854775808 = ((sgn true + v : Nat) : Int) := by
  rw [fb_pack_f mi Ei mant E v h1 h2 hm hE hv]
  have e : sgn false + v = v := Nat.zero_add v
  rw [e, or_top v (by omega)]
  rfl

theorem pe0 {m : Nat} (h : m < 4503599627370496) : 0 * 4503599627370496 + m % 4503599627370496 = m := by rw [Nat.zero_mul, Nat.zero_add, Nat.mod_eq_of_lt h]
theorem pe1 {F m v : Nat} (hv : F * 4503599627370496 + m = v) (h1 : 4503599627370496 ≤ m) (h2 : m ≤ 9007199254740991) : (F + 1) * 4503599627370496 + m % 4503599627370496 = v := by
  obtain ⟨r, rfl⟩ : ∃ r, m = 4503599627370496 + r := ⟨m - 4503599627370496, by omega⟩
  rw [Nat.add_mod_left, Nat.mod_eq_of_lt (by omega), Nat.add_mul, Nat.one_mul, Nat.add_assoc]
  exact hv
theorem pe2 {F v : Nat} (hv : F * 4503599627370496 + 9007199254740992 = v) : (F + 2) * 4503599627370496 + 4503599627370496 % 4503599627370496 = v := by
  have e : 2 * 4503599627370496 = 9007199254740992 := by decide
  rw [Nat.mod_self, Nat.add_zero, Nat.add_mul, e]
  exact hv
theorem pe3 : 2047 * 4503599627370496 + 0 % 4503599627370496 = 9218868437227405312 := by omega
theorem near_inf_of {n d F m : Nat} (h : NearV n d (min (F * 4503599627370496 + m) 9218868437227405312)) (hF : F = 2045) (hm : m = 9007199254740992) : NearV n d 9218868437227405312 := by
  rw [show min (F * 4503599627370496 + m) 9218868437227405312 = 9218868437227405312 by omega] at h
  exact h
theorem near_v_of {n d F m v : Nat} (h : NearV n d (min (F * 4503599627370496 + m) 9218868437227405312)) (hv : F * 4503599627370496 + m = v) (hF : F ≤ 2045) (hm : m ≤ 9007199254740992) (hne : F = 2045 → m ≠ 9007199254740992) : NearV n d v ∧ v < 9218868437227405312 := by
  rw [show min (F * 4503599627370496 + m) 9218868437227405312 = v by omega] at h
  exact ⟨h, by omega⟩
theorem kept_more {K : Nat → Prop} {w u : World} (h : Kept K w u) (n m : Nat) : Kept K w ((u.drewN n).drewN m) := (h.trans (kdrewN _ _ _)).trans (kdrewN _ _ _)

theorem fb_end (neg : Bool) (z : Int) (v : Nat) (ov : Bool) (n d : Nat) (hN : NearV n d v) (hz : z = ((sgn neg + v : Nat) : Int)) (hov : decide (v = 9218868437227405312) = ov) : ∃ v : Nat, NearV n d v ∧ Ending.returned (.tuple #[.int .u64 z, .bool ov]) = .returned (.tuple #[.int .u64 (sgn neg + v : Nat), .bool (decide (v = 9218868437227405312))]) :=
  ⟨v, hN, by rw [hz, hov]⟩
end Go.Proofs.YtgekdmjneogdoaaGreatDoor
