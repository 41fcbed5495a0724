import Derived.Test.YtgekdmjneogdoaaGreatDoorHAk1
import Derived.Test.YtgekdmjneogdoaaGreatDoorHChU3
import Derived.Test.YtgekdmjneogdoaaGreatDoorHLw
import Derived.Test.YtgekdmjneogdoaaGreatDoorHMq1
import Derived.Test.YtgekdmjneogdoaaGreatDoorHMq4
import Derived.Test.YtgekdmjneogdoaaGreatDoorHMt1
import Derived.ChangeSlices
import Derived.Carry
namespace Go.Proofs.YtgekdmjneogdoaaGreatDoor
open Go.RowKit

/-! numbers in their order, off their bits -/
def ordI (v : Nat) : Int := if 9223372036854775808 ≤ v then -((v % 9223372036854775808 : Nat) : Int) else ((v % 9223372036854775808 : Nat) : Int)

def isNum (v : Nat) : Prop := v < 18446744073709551616 ∧ v % 9223372036854775808 ≤ 9218868437227405312

/-- a rung's magnitude, in units of the least one -/
def magR (r : Nat) : Nat := if r < 4503599627370496 then r else (4503599627370496 + r % 4503599627370496) * 2 ^ (r / 4503599627370496 - 1)

theorem magR_lt {r s : Nat} (h : r < s) : magR r < magR s := by
  have e1 : r = 4503599627370496 * (r / 4503599627370496) + r % 4503599627370496 := (Nat.div_add_mod _ _).symm
  have e2 : s = 4503599627370496 * (s / 4503599627370496) + s % 4503599627370496 := (Nat.div_add_mod _ _).symm
  have f1 : r % 4503599627370496 < 4503599627370496 := Nat.mod_lt _ (by omega)
  have f2 : s % 4503599627370496 < 4503599627370496 := Nat.mod_lt _ (by omega)
  unfold magR
  generalize hq : r / 4503599627370496 = q at *
  generalize hf : r % 4503599627370496 = f at *
  generalize hp : s / 4503599627370496 = p at *
  generalize hg : s % 4503599627370496 = g at *
  by_cases c1 : r < 4503599627370496
  · by_cases c2 : s < 4503599627370496
    · rw [if_pos c1, if_pos c2]; exact h
    · rw [if_pos c1, if_neg c2]
      have : 1 ≤ 2 ^ (p - 1) := Nat.one_le_two_pow
      have h2 : 4503599627370496 * 1 ≤ (4503599627370496 + g) * 2 ^ (p - 1) := Nat.mul_le_mul (by omega) this
      omega
  · have c2 : ¬ s < 4503599627370496 := by omega
    rw [if_neg c1, if_neg c2]
    have hq1 : 1 ≤ q := by omega
    have hpq : q ≤ p := by omega
    rcases Nat.lt_or_ge q p with hlt | hge
    · have k1 : (4503599627370496 + f) * 2 ^ (q - 1) < (4503599627370496 + 4503599627370496) * 2 ^ (q - 1) := Nat.mul_lt_mul_of_pos_right (by omega) (Nat.two_pow_pos _)
      have k2 : (4503599627370496 + 4503599627370496) * 2 ^ (q - 1) = 4503599627370496 * 2 ^ q := by
        have : 2 ^ q = 2 * 2 ^ (q - 1) := by
          conv => lhs; rw [show q = (q - 1) + 1 by omega, Nat.pow_succ, Nat.mul_comm]
        rw [this]; omega
      have k3 : 4503599627370496 * 2 ^ q ≤ (4503599627370496 + g) * 2 ^ (p - 1) := Nat.mul_le_mul (by omega) (Nat.pow_le_pow_right (by omega) (by omega))
      omega
    · obtain rfl : q = p := by omega
      exact Nat.mul_lt_mul_of_pos_right (by omega) (Nat.two_pow_pos _)

theorem magR_cmp (r s : Nat) : (magR r < magR s ↔ r < s) ∧ (magR r = magR s ↔ r = s) := by
  rcases Nat.lt_trichotomy r s with h | h | h
  · have := magR_lt h
    omega
  · subst h; omega
  · have := magR_lt h
    omega

theorem cmp_lt {a b : Int} (h : a < b) : compare a b = .lt := by
  rw [Int.compare_eq_lt]; exact h
theorem cmp_gt {a b : Int} (h : b < a) : compare a b = .gt := by
  rw [Int.compare_eq_gt]; exact h
theorem cmp_eq {a b : Int} (h : a = b) : compare a b = .eq := by
  rw [Int.compare_eq_eq]; exact h

theorem cmp_same {a b c d : Int} (h1 : a < b ↔ c < d) (h2 : a = b ↔ c = d) : compare a b = compare c d := by
  rcases Int.lt_trichotomy a b with h | h | h
  · rw [cmp_lt h, cmp_lt (h1.1 h)]
  · rw [cmp_eq h, cmp_eq (h2.1 h)]
  · have n1 : ¬ c < d := fun k => by have := h1.2 k; omega
    have n2 : ¬ c = d := fun k => by have := h2.2 k; omega
    rw [cmp_gt h, cmp_gt (by omega)]

def sgI (s : Bool) (x : Nat) : Int := if s then -(x : Int) else (x : Int)

theorem sg_mul (s t : Bool) (x y c : Nat) (hc : 0 < c) : compare (sgI s x) (sgI t y) = compare (sgI s (x * c)) (sgI t (y * c)) := by
  have key : ∀ u v : Int, (u < v ↔ u * (c : Int) < v * (c : Int)) ∧ (u = v ↔ u * (c : Int) = v * (c : Int)) := by
    intro u v
    have hc' : (0 : Int) < c := by omega
    rcases Int.lt_trichotomy u v with h | h | h
    · have := Int.mul_lt_mul_of_pos_right h hc'
      omega
    · subst h; omega
    · have := Int.mul_lt_mul_of_pos_right h hc'
      omega
  have e1 : sgI s (x * c) = sgI s x * (c : Int) := by
    unfold sgI; split
    · rw [Int.natCast_mul, Int.neg_mul]
    · rw [Int.natCast_mul]
  have e2 : sgI t (y * c) = sgI t y * (c : Int) := by
    unfold sgI; split
    · rw [Int.natCast_mul, Int.neg_mul]
    · rw [Int.natCast_mul]
  rw [e1, e2]
  exact cmp_same (key _ _).1 (key _ _).2

theorem order_num (s t : Bool) (m n e k : Nat) (L : Int) : (Ieee.Datum.number s m (L + e)).order (Ieee.Datum.number t n (L + k)) = some (compare (sgI s (m * 2 ^ e)) (sgI t (n * 2 ^ k))) := by
  show some (compare (Ieee.signed s m ((L + e) - min (L + e) (L + k)).toNat) (Ieee.signed t n ((L + k) - min (L + e) (L + k)).toNat)) = _
  have h1 : ((L + (e : Int)) - min (L + e) (L + k)).toNat = e - min e k := by omega
  have h2 : ((L + (k : Int)) - min (L + e) (L + k)).toNat = k - min e k := by omega
  rw [h1, h2]
  have hs : ∀ (b : Bool) (x u : Nat), Ieee.signed b x u = sgI b (x * 2 ^ u) := by
    intro b x u
    unfold Ieee.signed sgI
    rw [Nat.shiftLeft_eq]
  rw [hs, hs, sg_mul s t _ _ (2 ^ min e k) (Nat.two_pow_pos _)]
  have h3 : m * 2 ^ (e - min e k) * 2 ^ min e k = m * 2 ^ e := by
    rw [Nat.mul_assoc, ← Nat.pow_add]; congr 2; omega
  have h4 : n * 2 ^ (k - min e k) * 2 ^ min e k = n * 2 ^ k := by
    rw [Nat.mul_assoc, ← Nat.pow_add]; congr 2; omega
  rw [h3, h4]

theorem neg_bit (v : Nat) (h : v < 18446744073709551616) : (v / 9223372036854775808 % 2 == 1) = decide (9223372036854775808 ≤ v) := by
  by_cases c : 9223372036854775808 ≤ v
  · have : v / 9223372036854775808 = 1 := by omega
    simp [this, c]
  · have : v / 9223372036854775808 = 0 := by omega
    simp [this, c]

theorem read_num (v : Nat) (h : v < 18446744073709551616) (hf : v % 9223372036854775808 < 9218868437227405312) :
    ∃ m e : Nat, FloatKind.f64.format.read v = .number (decide (9223372036854775808 ≤ v)) m ((-1074 : Int) + e) ∧ m * 2 ^ e = magR (v % 9223372036854775808) := by
  have hb : Ieee.double.binade = 4503599627370496 := by decide
  have hi : Ieee.double.infRung = 9218868437227405312 := by decide
  have hw : Ieee.double.signWeight = 9223372036854775808 := by decide
  have hL : Ieee.double.leastPlace = -1074 := by decide
  show ∃ m e : Nat, Ieee.double.read v = _ ∧ _
  unfold Ieee.Format.read
  simp only [hb, hi, hw, hL, neg_bit v h]
  by_cases c : v % 9223372036854775808 < 4503599627370496
  · refine ⟨v % 9223372036854775808, 0, ?_, ?_⟩
    · rw [if_pos c]; simp
    · unfold magR; rw [if_pos c]; simp
  · refine ⟨4503599627370496 + v % 9223372036854775808 % 4503599627370496, v % 9223372036854775808 / 4503599627370496 - 1, ?_, ?_⟩
    · rw [if_neg c, if_pos hf]
    · unfold magR; rw [if_neg c]

theorem read_inf (v : Nat) (h : v < 18446744073709551616) (hf : v % 9223372036854775808 = 9218868437227405312) :
    FloatKind.f64.format.read v = .infinity (decide (9223372036854775808 ≤ v)) := by
  have hb : Ieee.double.binade = 4503599627370496 := by decide
  have hi : Ieee.double.infRung = 9218868437227405312 := by decide
  have hw : Ieee.double.signWeight = 9223372036854775808 := by decide
  show Ieee.double.read v = _
  unfold Ieee.Format.read
  simp only [hb, hi, hw, neg_bit v h, hf]
  rfl

theorem ordI_sg (v : Nat) : ordI v = sgI (decide (9223372036854775808 ≤ v)) (v % 9223372036854775808) := by
  unfold ordI sgI
  by_cases c : 9223372036854775808 ≤ v <;> simp [c]

theorem sg_mono (s t : Bool) (x y : Nat) : compare (sgI s (magR x)) (sgI t (magR y)) = compare (sgI s x) (sgI t y) := by
  have h1 := magR_cmp x y
  have h2 := magR_cmp y x
  have z : magR 0 = 0 := by decide
  have h3 := magR_cmp 0 x
  have h4 := magR_cmp 0 y
  rw [z] at h3 h4
  unfold sgI
  cases s <;> cases t <;> apply cmp_same <;> simp <;> omega

/-- float64s are compared as their bits' order says -/
theorem order_eq (a b : Nat) (ha : isNum a) (hb : isNum b) : FloatKind.f64.format.order a b = some (compare (ordI a) (ordI b)) := by
  rw [ordI_sg, ordI_sg]
  show (FloatKind.f64.format.read a).order (FloatKind.f64.format.read b) = _
  have ra := ha.2
  have rb := hb.2
  rcases Nat.lt_or_eq_of_le ra with ca | ca
  · obtain ⟨m, e, h1, h2⟩ := read_num a ha.1 ca
    rcases Nat.lt_or_eq_of_le rb with cb | cb
    · obtain ⟨n, k, h3, h4⟩ := read_num b hb.1 cb
      rw [h1, h3, order_num, h2, h4, sg_mono]
    · rw [h1, read_inf b hb.1 cb, cb]
      show some (if decide (9223372036854775808 ≤ b) then Ordering.gt else .lt) = _
      generalize a % 9223372036854775808 = x at *
      cases decide (9223372036854775808 ≤ b) <;> cases decide (9223372036854775808 ≤ a)
      · rw [cmp_lt (by simp [sgI]; omega)]; rfl
      · rw [cmp_lt (by simp [sgI]; omega)]; rfl
      · rw [cmp_gt (by simp [sgI]; omega)]; rfl
      · rw [cmp_gt (by simp [sgI]; omega)]; rfl
  · rcases Nat.lt_or_eq_of_le rb with cb | cb
    · obtain ⟨n, k, h3, h4⟩ := read_num b hb.1 cb
      rw [h3, read_inf a ha.1 ca, ca]
      show some (if decide (9223372036854775808 ≤ a) then Ordering.lt else .gt) = _
      generalize b % 9223372036854775808 = x at *
      cases decide (9223372036854775808 ≤ b) <;> cases decide (9223372036854775808 ≤ a)
      · rw [cmp_gt (by simp [sgI]; omega)]; rfl
      · rw [cmp_lt (by simp [sgI]; omega)]; rfl
      · rw [cmp_gt (by simp [sgI]; omega)]; rfl
      · rw [cmp_lt (by simp [sgI]; omega)]; rfl
    · rw [read_inf a ha.1 ca, read_inf b hb.1 cb, ca, cb]
      show some (compare (decide (9223372036854775808 ≤ b)).toNat (decide (9223372036854775808 ≤ a)).toNat) = _
      cases decide (9223372036854775808 ≤ b) <;> cases decide (9223372036854775808 ≤ a)
      · rw [cmp_eq rfl]; rfl
      · rw [cmp_lt (by simp [sgI])]; rfl
      · rw [cmp_gt (by simp [sgI])]; rfl
      · rw [cmp_eq rfl]; rfl

/-- no number: not the same as itself -/
theorem order_nan (a : Nat) (h : a < 18446744073709551616) (hn : 9218868437227405312 < a % 9223372036854775808) : FloatKind.f64.format.order a a = none := by
  have hb : Ieee.double.binade = 4503599627370496 := by decide
  have hi : Ieee.double.infRung = 9218868437227405312 := by decide
  have hw : Ieee.double.signWeight = 9223372036854775808 := by decide
  have hr : FloatKind.f64.format.read a = .nan (decide (9223372036854775808 ≤ a)) (a % 9223372036854775808 - 9218868437227405312) := by
    show Ieee.double.read a = _
    unfold Ieee.Format.read
    simp only [hb, hi, hw, neg_bit a h]
    rw [if_neg (by omega), if_neg (by omega), if_neg (by omega)]
  show (FloatKind.f64.format.read a).order (FloatKind.f64.format.read a) = _
  rw [hr]
  rfl

theorem num_iff (a : Nat) (h : a < 18446744073709551616) : (FloatKind.f64.format.order a a != some .eq) = decide (9218868437227405312 < a % 9223372036854775808) := by
  by_cases c : 9218868437227405312 < a % 9223372036854775808
  · rw [order_nan a h c]; simp [c]
  · rw [order_eq a a ⟨h, by omega⟩ ⟨h, by omega⟩, cmp_eq rfl]; simp [c]
end Go.Proofs.YtgekdmjneogdoaaGreatDoor

namespace Go.Proofs.YtgekdmjneogdoaaGreatDoor
open Go.RowKit Go.Shelf Go.Maps Go.Sort Go.Lib

/-! buckets in their order -/
def isB (x : Nat) : Prop := isNum x ∧ x ≠ 9223372036854775808

theorem ordI_inj {x y : Nat} (hx : isB x) (hy : isB y) (h : ordI x = ordI y) : x = y := by
  obtain ⟨⟨h1, _⟩, h2⟩ := hx
  obtain ⟨⟨h3, _⟩, h4⟩ := hy
  unfold ordI at h
  split at h <;> split at h <;> omega

theorem cmpV_ord (x y : Nat) (hx : isNum x) (hy : isNum y) : cmpV x y = if ordI x < ordI y then -1 else if ordI y < ordI x then 1 else 0 := by
  unfold cmpV
  rw [order_eq x y hx hy]
  rcases Int.lt_trichotomy (ordI x) (ordI y) with h | h | h
  · rw [cmp_lt h]; simp [h]
  · have n1 : ¬ ordI x < ordI y := by omega
    have n2 : ¬ ordI y < ordI x := by omega
    rw [cmp_eq h]; simp [n1, n2]
  · have n1 : ¬ ordI x < ordI y := by omega
    rw [cmp_gt h]; simp [n1, h]

abbrev Bkt := { x : Nat // isB x }

theorem isB_zero : isB 0 := ⟨⟨by omega, by omega⟩, by omega⟩

theorem sorted_eq : ∀ (l m : List Nat), l.Pairwise (fun x y => ordI x < ordI y) → m.Pairwise (fun x y => ordI x < ordI y) → (∀ x, x ∈ l ↔ x ∈ m) → l = m
  | [], [], _, _, _ => rfl
  | [], y :: m, _, _, h => by have := (h y).2 (by simp); cases this
  | x :: l, [], _, _, h => by have := (h x).1 (by simp); cases this
  | x :: l, y :: m, hl, hm, h => by
    obtain ⟨l1, l2⟩ := List.pairwise_cons.1 hl
    obtain ⟨m1, m2⟩ := List.pairwise_cons.1 hm
    have hxy : x = y := by
      rcases List.mem_cons.1 ((h x).1 (by simp)) with e | e
      · exact e
      · rcases List.mem_cons.1 ((h y).2 (by simp)) with e' | e'
        · exact e'.symm
        · have a1 := m1 x e
          have a2 := l1 y e'
          omega
    subst hxy
    have : l = m := sorted_eq l m l2 m2 (fun z => by
      constructor
      · intro hz
        rcases List.mem_cons.1 ((h z).1 (by simp [hz])) with e | e
        · subst e
          have := l1 z hz
          omega
        · exact e
      · intro hz
        rcases List.mem_cons.1 ((h z).2 (by simp [hz])) with e | e
        · subst e
          have := m1 z hz
          omega
        · exact e)
    rw [this]

/-- a bag's buckets, each once, in order -/
def ksOf (bag : List Nat) : List Nat := bag.eraseDups.mergeSort fun x y => decide (ordI x ≤ ordI y)

theorem mem_ksOf (bag : List Nat) (x : Nat) : x ∈ ksOf bag ↔ x ∈ bag := by
  unfold ksOf
  rw [List.mem_mergeSort, List.mem_eraseDups]

theorem strict_of {l : List Nat} (h : l.Pairwise (fun x y => ordI x ≤ ordI y)) (hn : l.Nodup) (hB : ∀ x ∈ l, isB x) : l.Pairwise (fun x y => ordI x < ordI y) := by
  induction l with
  | nil => exact List.Pairwise.nil
  | cons a r ih =>
    obtain ⟨h1, h2⟩ := List.pairwise_cons.1 h
    obtain ⟨n1, n2⟩ := List.nodup_cons.1 hn
    refine List.pairwise_cons.2 ⟨fun y hy => ?_, ih h2 n2 (fun x hx => hB x (by simp [hx]))⟩
    have k1 := h1 y hy
    have k2 : ordI a ≠ ordI y := fun e => n1 (ordI_inj (hB a (by simp)) (hB y (by simp [hy])) e ▸ hy)
    omega

theorem nodup_erase : ∀ (n : Nat) (l : List Nat), l.length ≤ n → l.eraseDups.Nodup
  | 0, l, h => by
    have : l = [] := List.eq_nil_of_length_eq_zero (by omega)
    subst this
    simp
  | n + 1, [], _ => by simp
  | n + 1, a :: l, h => by
    rw [List.eraseDups_cons, List.nodup_cons]
    refine ⟨?_, nodup_erase n _ ?_⟩
    · rw [List.mem_eraseDups]
      simp
    · have := List.length_filter_le (fun b => !b == a) l
      simp only [List.length_cons] at h
      omega

theorem ksOf_sorted (bag : List Nat) (hB : ∀ x ∈ bag, isB x) : (ksOf bag).Pairwise (fun x y => ordI x < ordI y) := by
  have h1 := List.pairwise_mergeSort (le := fun x y => decide (ordI x ≤ ordI y)) (fun a b c h1 h2 => by simp at *; omega) (fun a b => by simp; omega) bag.eraseDups
  refine strict_of (h1.imp (fun h => by simpa using h)) ?_ (fun x hx => hB x ((mem_ksOf bag x).1 hx))
  exact (List.mergeSort_perm _ _).nodup_iff.2 (nodup_erase _ bag (Nat.le_refl _))

theorem lt_cf (x y : Bkt) : ltOf (fun (x y : Bkt) => cmpV x.1 y.1) x y = decide (ordI x.1 < ordI y.1) := by
  show decide (cmpV x.1 y.1 < 0) = _
  rw [cmpV_ord x.1 y.1 x.2.1 y.2.1]
  by_cases h : ordI x.1 < ordI y.1
  · simp [h]
  · by_cases h2 : ordI y.1 < ordI x.1 <;> simp [h, h2]

theorem swo_cf : SWO (ltOf (fun (x y : Bkt) => cmpV x.1 y.1)) where
  irrefl x := by rw [lt_cf]; simp
  trans x y z h1 h2 := by rw [lt_cf] at *; simp at *; omega
  ntrans x y z h1 h2 := by rw [lt_cf] at *; simp at *; omega

theorem isB_num {x : Nat} (h : isB x) : (FloatKind.f64.format.order x x != some .eq) = false := by
  rw [num_iff x h.1.1]
  have := h.1.2
  simp; omega

theorem lift_bag : ∀ (bag : List Nat), (∀ x ∈ bag, isB x) → ∃ l : List Bkt, l.map (·.1) = bag
  | [], _ => ⟨[], rfl⟩
  | x :: r, h => by
    obtain ⟨l, hl⟩ := lift_bag r (fun y hy => h y (by simp [hy]))
    exact ⟨⟨x, h x (by simp)⟩ :: l, by simp [hl]⟩

/-- what SortedFunc makes of a tally's keys: the bag's buckets, each once, in order -/
theorem sorts_bag (bag : List Nat) (hB : ∀ x ∈ bag, isB x) (hl : bag.length < 4000000000000) : SortsTo bag (ksOf bag) := by
  intro w b hT
  obtain ⟨xs, hxs⟩ := lift_bag bag hB
  have hxl : xs.length = bag.length := by rw [← hxs]; simp
  have hI : Inhabited Bkt := ⟨⟨0, isB_zero⟩⟩
  have h0 := sortedF (α := Bkt) (fun x => x.1) (fun x y => cmpV x.1 y.1) swo_cf (fun x y h1 h2 => by
      rw [lt_cf] at h1 h2
      simp at h1 h2
      exact Subtype.ext (ordI_inj x.2 y.2 (by omega))) (fun x y w => compare_any x.1 y.1 w (isB_num x.2) (isB_num y.2)) w.heap.size b xs
    (w.alloc (.cells #[.map (some b)] 96)) (by omega) (by simp) (World.cell?_alloc_at _ _ _ _ rfl) (by rw [hxs]; exact hT.block (Below.heap_alloc w _ b hT.lt))
  refine h0.mono ?_
  rintro e W' ⟨v, ys, rfl, ⟨hnd, hmem⟩, hrow, hb⟩
  rw [World.size_alloc] at hrow hb
  have hle : (fun (x y : Bkt) => !(ltOf (fun (x y : Bkt) => cmpV x.1 y.1)) y x) = fun x y => decide (ordI x.1 ≤ ordI y.1) := by
    funext x y
    rw [lt_cf]
    by_cases h : ordI y.1 < ordI x.1
    · have : ¬ ordI x.1 ≤ ordI y.1 := by omega
      simp [h, this]
    · have : ordI x.1 ≤ ordI y.1 := by omega
      simp [h, this]
  rw [hle] at hrow
  have hks : (ys.mergeSort fun x y => decide (ordI x.1 ≤ ordI y.1)).map (·.1) = ksOf bag := by
    apply sorted_eq
    · have h1 := List.pairwise_mergeSort (le := fun (x y : Bkt) => decide (ordI x.1 ≤ ordI y.1)) (fun a b c h1 h2 => by simp at *; omega) (fun a b => by simp; omega) ys
      have h2 : ((ys.mergeSort fun x y => decide (ordI x.1 ≤ ordI y.1)).map (·.1)).Pairwise (fun x y => ordI x ≤ ordI y) := List.pairwise_map.2 (h1.imp (fun h => by simpa using h))
      refine strict_of h2 ?_ (fun x hx => ?_)
      · exact ((List.mergeSort_perm ys _).map (·.1)).nodup_iff.2 hnd
      · obtain ⟨a, _, rfl⟩ := List.mem_map.1 hx
        exact a.2
    · exact ksOf_sorted bag hB
    · intro x
      rw [mem_ksOf, ← hxs, ← hmem x]
      constructor
      · intro hx
        obtain ⟨a, ha, rfl⟩ := List.mem_map.1 hx
        exact List.mem_map.2 ⟨a, List.mem_mergeSort.1 ha, rfl⟩
      · intro hx
        obtain ⟨a, ha, rfl⟩ := List.mem_map.1 hx
        exact List.mem_map.2 ⟨a, List.mem_mergeSort.2 ha, rfl⟩
  have hlen : ys.length = (ksOf bag).length := by rw [← hks]; simp
  refine ⟨v, rfl, ?_, hb⟩
  have hmap : (ys.mergeSort fun x y => decide (ordI x.1 ≤ ordI y.1)).map (encV fun (x : Bkt) => x.1) = (ksOf bag).map encK := by
    rw [← hks, List.map_map]
    rfl
  rw [hmap, hlen] at hrow
  exact hrow
end Go.Proofs.YtgekdmjneogdoaaGreatDoor

namespace Go.Proofs.YtgekdmjneogdoaaGreatDoor
open Go.RowKit

/-! pick -/
def pickN (c : Int) (n : Nat) : Nat := (if c < 0 then -(c + 1) else c).toNat % n

theorem pickN_lt (c : Int) (n : Nat) (h : 0 < n) : pickN c n < n := Nat.mod_lt _ h

set_option maxRecDepth 20000 in
set_option maxHeartbeats 400000 in
theorem pick_any (c : Int) (n : Nat) (w : World) (hc1 : -9223372036854775808 ≤ c) (hc2 : c ≤ 9223372036854775807) (hn : 1 ≤ n) (hn2 : n ≤ 1000000) :
    Calls Tryz.prog 22 #[.int .i64 c, .int .i64 n] w fun e w' => e = .returned (.int .i64 (pickN c n)) ∧ w' = w := by
  have hp : pickN c n = (if c < 0 then -(c + 1) else c).toNat % n := rfl
  rcases Int.lt_or_le c 0 with h | h
  · obtain ⟨m, hm⟩ : ∃ m : Nat, -(c + 1) = (m : Int) := ⟨(-(c + 1)).toNat, by omega⟩
    rw [if_pos h, hm, Int.toNat_natCast] at hp
    have hlt : m % n < n := Nat.mod_lt _ (by omega)
    have hq : (m : Int) % (n : Int) = ((m % n : Nat) : Int) := (Int.natCast_emod m n).symm
    have HQ := hide (And.intro hp hq)
    have hm2 : m ≤ 9223372036854775807 := by omega
    obtain rfl : c = -(m : Int) - 1 := by omega
    clear hp hq hm
    go_enter Tryz.func22, Tryz.ntmps22
    go_wp2_with fail
    go_ret
    refine ⟨?_, rfl⟩
    apply retI
    rw [(unhide HQ).1]
    have h2 := (unhide HQ).2
    have h3 : wrap64 (-(wrap64 (-(m : Int) - 1 + 1))) = (m : Int) := by unfold wrap64; omega
    have h4 : -(-(m : Int) - 1 + 1) = (m : Int) := by omega
    first
      | (rw [h3, h2]; done)
      | (rw [h4, h2]; done)
      | (rw [← h2]; done)
      | (rw [← h2]; congr 1; omega)
  · obtain ⟨m, rfl⟩ : ∃ m : Nat, c = (m : Int) := ⟨c.toNat, by omega⟩
    rw [if_neg (by omega), Int.toNat_natCast] at hp
    have hlt : m % n < n := Nat.mod_lt _ (by omega)
    have hq : (m : Int) % (n : Int) = ((m % n : Nat) : Int) := (Int.natCast_emod m n).symm
    have HQ := hide (And.intro hp hq)
    clear hp hq
    go_enter Tryz.func22, Tryz.ntmps22
    go_wp2_with fail
    go_ret
    refine ⟨?_, rfl⟩
    apply retI
    rw [(unhide HQ).1]
    have h2 := (unhide HQ).2
    rw [h2]
end Go.Proofs.YtgekdmjneogdoaaGreatDoor

namespace Go.Proofs.YtgekdmjneogdoaaGreatDoor
open Go.RowKit

/-! samples that come evenly -/
def evL (t d : Int) (v k : Nat) : List Smp := (List.range k).map fun (i : Nat) => (wI (t + (i : Int) * d), v)

theorem evL_length (t d : Int) (v k : Nat) : (evL t d v k).length = k := by simp [evL]

theorem evL_snoc (t d : Int) (v k : Nat) : evL t d v (k + 1) = evL t d v k ++ [(wI (t + (k : Int) * d), v)] := by
  unfold evL
  rw [List.range_succ, List.map_append]
  rfl

theorem evL_ok (t d : Int) (v k : Nat) (hv : v < 18446744073709551616) : ∀ x ∈ evL t d v k, SOk x := by
  intro x hx
  obtain ⟨i, _, rfl⟩ := List.mem_map.1 hx
  exact ⟨by unfold I64 wI; omega, hv⟩

theorem evL_two (t d : Int) (v n : Nat) : evL t d v (n + 2) = (wI t, v) :: (wI (t + d), v) :: (List.range n).map fun (i : Nat) => (wI (wI (t + d) + (i + 1 : Int) * d), v) := by
  unfold evL
  rw [show n + 2 = 2 + n by omega, List.range_add, List.map_append]
  have h2 : (List.range 2).map (fun (i : Nat) => (wI (t + (i : Int) * d), v)) = [(wI t, v), (wI (t + d), v)] := by
    show [(wI (t + ((0 : Nat) : Int) * d), v), (wI (t + ((1 : Nat) : Int) * d), v)] = _
    simp
  rw [h2, List.map_map]
  have : (List.range n).map ((fun (i : Nat) => (wI (t + (i : Int) * d), v)) ∘ fun x => 2 + x) = (List.range n).map fun (i : Nat) => (wI (wI (t + d) + (i + 1 : Int) * d), v) := by
    apply List.map_congr_left
    intro i _
    simp only [Function.comp]
    congr 1
    have : ((2 + i : Nat) : Int) * d = d + (i + 1 : Int) * d := by
      rw [show ((2 + i : Nat) : Int) = 1 + (i + 1 : Int) by omega, Int.add_mul, Int.one_mul]
    rw [this]
    unfold wI; omega
  rw [this]
  rfl

theorem even_bits (t d : Int) (v n : Nat) (hd : I64 d) : (packN (evL t d v (n + 2))).length = (packN (evL t d v 2)).length + 2 * n := by
  have hr : ∀ m, (packN (evL t d v (m + 2))).length = 16 + 64 + 64 + (wrN ⟨wI t, v, 0, 0, 0⟩ (wI (t + d), v)).1.length + 2 * m := by
    intro m
    rw [evL_two, packN, restN]
    simp only [List.length_append, bitsN_length]
    have hs : (wrN ⟨wI t, v, 0, 0, 0⟩ (wI (t + d), v)).2.step = d := by
      show wI (wI (t + d) - wI t) = d
      unfold wI I64 at *; omega
    rw [restN_even v d hd m (wrN ⟨wI t, v, 0, 0, 0⟩ (wI (t + d), v)).2 (wI (t + d)) rfl hs rfl]
    omega
  rw [hr n, hr 0]
  omega

theorem even_small (t d : Int) (v n : Nat) (hd : I64 d) : (chunkN (evL t d v (n + 2))).length ≤ (chunkN (evL t d v 2)).length + (2 * n + 7) / 8 := by
  rw [chunkN_length, chunkN_length, even_bits t d v n hd]
  omega

/-! same -/
set_option maxRecDepth 20000 in
set_option maxHeartbeats 800000 in
theorem same_yes (K : Nat → Prop) (v u : Value) (l : List Smp) (w : World) (hv : RdS K w v l) (hu : RdS K w u l) (hl : l.length ≤ 1000) :
    Calls Tryz.prog 26 #[v, u] w fun e w' => e = .returned (.bool true) ∧ ∃ n, w' = w.drewN n := by
  obtain ⟨ao, cv, rfl, hcv, hv⟩ := hv
  obtain ⟨bo, cu, rfl, hcu, hu⟩ := hu
  have HV := hide hv
  have HU := hide hu
  clear hv hu
  go_enter Tryz.func26, Tryz.ntmps26
  generalize hN : l.length = n at *
  go_wp2_with fail
  go_loopw [5] (fun i wr => ∃ j : Nat, j ≤ n ∧ i = .int .i64 j ∧ ∃ q, wr = w.drewN q) (fun i _ => n - (RowKit.intOf i).toNat)
  case atStart => exact ⟨0, by omega, rfl, 0, rfl⟩
  case round =>
    obtain ⟨j, hj, rfl, q, rfl⟩ := hrel
    by_cases hjn : j < n
    · obtain ⟨g, o, _, rfl, hc⟩ := unhide HV (by omega)
      obtain ⟨g', o', _, rfl, hc'⟩ := unhide HU (by omega)
      have e1 := (hc j hjn).1
      have e2 := (hc j hjn).2
      have e3 := (hc' j hjn).1
      have e4 := (hc' j hjn).2
      clear hc hc'
      generalize (l.getD j (0, 0)).1 = T at *
      generalize (l.getD j (0, 0)).2 = V at *
      have m2 : 2 * j = j * 2 := Nat.mul_comm 2 j
      rw [m2] at e1 e2 e3 e4
      have d1 : (w.drewN q).cell? ⟨g, o + j * 2, none⟩ = some (.int .i64 T) := e1
      have d2 : (w.drewN q).cell? ⟨g, o + j * 2 + 1, none⟩ = some (.int .u64 V) := e2
      have d3 : (w.drewN q).cell? ⟨g', o' + j * 2, none⟩ = some (.int .i64 T) := e3
      have d4 : (w.drewN q).cell? ⟨g', o' + j * 2 + 1, none⟩ = some (.int .u64 V) := e4
      clear m2 e1 e2 e3 e4
      generalize hwq : w.drewN q = wq at *
      have HW := hide hwq
      clear hwq
      go_wp2_with fail
      go_quiet (fail)
      go_wp2_with fail
      go_roundw
      case rel => exact ⟨j + 1, by omega, rfl, q + nq, by rw [← unhide HW]; unfold World.drewN; rw [Nat.add_assoc]⟩
      case measure => simp [RowKit.intOf]; omega
    · obtain rfl : j = n := by omega
      go_wp2_with fail
      go_ret
      exact ⟨rfl, _, rfl⟩
end Go.Proofs.YtgekdmjneogdoaaGreatDoor

namespace Go.Proofs.YtgekdmjneogdoaaGreatDoor
open Go.RowKit Go.Shelf Go.Maps

/-! ranks -/
def cntP (p : Nat → Bool) (l : List Nat) : Nat := (l.filter p).length

theorem cntP_cons (p : Nat → Bool) (x : Nat) (l : List Nat) : cntP p (x :: l) = (if p x then 1 else 0) + cntP p l := by
  unfold cntP
  rw [List.filter_cons]
  split <;> simp <;> omega

theorem sum_count (p : Nat → Bool) : ∀ (bag ks : List Nat), ks.Nodup → (∀ x ∈ bag, x ∈ ks) → ((ks.filter p).map fun k => bag.count k).sum = cntP p bag
  | [], ks, _, _ => by
    have : (ks.filter p).map (fun k => ([] : List Nat).count k) = (ks.filter p).map fun _ => 0 := by simp
    rw [this]
    induction ks.filter p with
    | nil => rfl
    | cons a r ih => simpa using ih
  | x :: bag, ks, hn, hs => by
    have ih := sum_count p bag ks hn (fun y hy => hs y (by simp [hy]))
    rw [cntP_cons, ← ih]
    have hx := hs x (by simp)
    have key : ∀ l : List Nat, l.Nodup → (l.map fun k => (x :: bag).count k).sum = (if x ∈ l then 1 else 0) + (l.map fun k => bag.count k).sum := by
      intro l hl
      induction l with
      | nil => simp
      | cons a r ihr =>
        obtain ⟨h1, h2⟩ := List.nodup_cons.1 hl
        rw [List.map_cons, List.sum_cons, List.map_cons, List.sum_cons, ihr h2, List.count_cons]
        by_cases e : x = a
        · subst e
          simp [h1]
          omega
        · have e2 : (x == a) = false := by simp [e]
          have e3 : (x ∈ a :: r) ↔ x ∈ r := by simp [e]
          simp only [e2, Bool.false_eq_true, if_false, Nat.add_zero]
          by_cases hr : x ∈ r
          · rw [if_pos hr, if_pos (e3.2 hr)]; omega
          · rw [if_neg hr, if_neg (fun k => hr (e3.1 k))]; omega
    rw [key _ (hn.filter p)]
    congr 1
    by_cases hp : p x = true
    · rw [if_pos hp, if_pos (List.mem_filter.2 ⟨hx, hp⟩)]
    · rw [if_neg hp, if_neg (fun k => hp (List.mem_filter.1 k).2)]

theorem nodup_of_strict {l : List Nat} (h : l.Pairwise (fun x y => ordI x < ordI y)) : l.Nodup := by
  refine List.Pairwise.imp ?_ h
  intro a b hab e
  subst e
  omega

theorem total_ks (bag : List Nat) (hB : ∀ x ∈ bag, isB x) : totalOf (fun k => bag.count k) (ksOf bag) = bag.length := by
  have h := sum_count (fun _ => true) bag (ksOf bag) (nodup_of_strict (ksOf_sorted bag hB)) (fun x hx => (mem_ksOf bag x).2 hx)
  have e1 : (ksOf bag).filter (fun _ => true) = ksOf bag := List.filter_eq_self.2 (fun _ _ => rfl)
  have e2 : cntP (fun _ => true) bag = bag.length := by
    unfold cntP
    rw [List.filter_eq_self.2 (fun _ _ => rfl)]
  rw [e1, e2] at h
  exact h

theorem rank_is (cnt : Nat → Nat) (b : Nat) : ∀ (ks : List Nat) (r : Nat), ks.Pairwise (fun x y => ordI x < ordI y) → b ∈ ks → ((ks.filter fun y => decide (ordI y < ordI b)).map cnt).sum < r → r ≤ ((ks.filter fun y => decide (ordI y < ordI b)).map cnt).sum + cnt b → rankOf cnt ks r = b
  | [], _, _, hb, _, _ => by cases hb
  | k :: ks, r, hs, hb, h1, h2 => by
    obtain ⟨s1, s2⟩ := List.pairwise_cons.1 hs
    by_cases e : b = k
    · subst e
      have e0 : (b :: ks).filter (fun y => decide (ordI y < ordI b)) = [] := by
        rw [List.filter_eq_nil_iff]
        intro y hy
        rcases List.mem_cons.1 hy with rfl | hy
        · simp
        · have := s1 y hy
          simp; omega
      rw [e0] at h2
      simp at h2
      rw [rankOf, if_pos h2]
    · have hb2 : b ∈ ks := by
        rcases List.mem_cons.1 hb with h | h
        · exact absurd h e
        · exact h
      have hkb := s1 b hb2
      have e0 : (k :: ks).filter (fun y => decide (ordI y < ordI b)) = k :: ks.filter (fun y => decide (ordI y < ordI b)) := by
        rw [List.filter_cons, if_pos (by simpa using hkb)]
      rw [e0, List.map_cons, List.sum_cons] at h1 h2
      rw [rankOf, if_neg (by omega)]
      exact rank_is cnt b ks (r - cnt k) s2 hb2 (by omega) (by omega)

/-- the bucket at a rank, by how many lie below it -/
theorem rank_bag (bag : List Nat) (hB : ∀ x ∈ bag, isB x) (b r : Nat) (hb : b ∈ bag) (h1 : cntP (fun y => decide (ordI y < ordI b)) bag < r) (h2 : r ≤ cntP (fun y => decide (ordI y ≤ ordI b)) bag) :
    rankOf (fun k => bag.count k) (ksOf bag) r = b := by
  have hs := ksOf_sorted bag hB
  have hsum := sum_count (fun y => decide (ordI y < ordI b)) bag (ksOf bag) (nodup_of_strict hs) (fun x hx => (mem_ksOf bag x).2 hx)
  refine rank_is _ b (ksOf bag) r hs ((mem_ksOf bag b).2 hb) (by rw [hsum]; exact h1) ?_
  rw [hsum]
  refine Nat.le_trans h2 ?_
  have : ∀ l : List Nat, (∀ x ∈ l, isB x) → cntP (fun y => decide (ordI y ≤ ordI b)) l ≤ cntP (fun y => decide (ordI y < ordI b)) l + l.count b := by
    intro l hl
    induction l with
    | nil => simp [cntP]
    | cons a r ih =>
      have ih2 := ih (fun x hx => hl x (by simp [hx]))
      rw [cntP_cons, cntP_cons, List.count_cons]
      by_cases k1 : ordI a < ordI b
      · have k2 : ordI a ≤ ordI b := by omega
        simp only [k1, k2, decide_true, if_true]
        omega
      · by_cases k2 : ordI a ≤ ordI b
        · have e : a = b := ordI_inj (hl a (by simp)) (hB b hb) (by omega)
          simp [e]
          omega
        · simp only [k1, k2, decide_false, Bool.false_eq_true, if_false]
          omega
  exact this bag hB
end Go.Proofs.YtgekdmjneogdoaaGreatDoor

namespace Go.Proofs.YtgekdmjneogdoaaGreatDoor
open Go.RowKit Go.Shelf Go.Maps

/-! buckets keep the order -/
def rB (r : Nat) : Nat := if r < 4503599627370496 then 0 else r / 35184372088832 * 35184372088832

theorem small_iff (v : Nat) (h : isNum v) : smallB v = decide (v % 9223372036854775808 < 4503599627370496) := by
  obtain ⟨h1, h2⟩ := h
  unfold smallB
  have hr : v % 9223372036854775808 < 9223372036854775808 := Nat.mod_lt _ (by omega)
  generalize v % 9223372036854775808 = r at *
  rw [order_eq r 4503599627370496 ⟨by omega, by rw [Nat.mod_eq_of_lt hr]; exact h2⟩ ⟨by omega, by omega⟩]
  have e1 : ordI r = (r : Int) := by
    unfold ordI
    rw [if_neg (by omega), Nat.mod_eq_of_lt hr]
  have e2 : ordI 4503599627370496 = 4503599627370496 := by decide
  rw [e1, e2]
  by_cases c : r < 4503599627370496
  · rw [cmp_lt (by omega)]; simp [c]
  · rcases Nat.lt_or_ge 4503599627370496 r with c2 | c2
    · rw [cmp_gt (by omega)]; simp [c]
    · rw [cmp_eq (by omega)]; simp [c]

theorem bucket_val (v : Nat) (h : isNum v) : bucketN v = if v % 9223372036854775808 < 4503599627370496 then 0 else v / 35184372088832 * 35184372088832 := by
  unfold bucketN
  rw [small_iff v h]
  simp

theorem bucket_ord (v : Nat) (h : isNum v) : ordI (bucketN v) = sgI (decide (9223372036854775808 ≤ v)) (rB (v % 9223372036854775808)) := by
  obtain ⟨h1, h2⟩ := h
  rw [bucket_val v ⟨h1, h2⟩]
  unfold ordI sgI rB
  by_cases c : v % 9223372036854775808 < 4503599627370496
  · rw [if_pos c, if_pos c]
    simp
  · rw [if_neg c, if_neg c]
    by_cases s : 9223372036854775808 ≤ v
    · simp only [s, decide_true, if_true]
      rw [if_pos (by omega)]
      omega
    · simp only [s, decide_false, Bool.false_eq_true, if_false]
      rw [if_neg (by omega)]
      omega

theorem bucket_isB (v : Nat) (h : isNum v) : isB (bucketN v) := by
  obtain ⟨h1, h2⟩ := h
  rw [bucket_val v ⟨h1, h2⟩]
  unfold isB isNum
  split
  · omega
  · omega

theorem rB_mono {r s : Nat} (h : r ≤ s) : rB r ≤ rB s := by
  unfold rB
  split <;> split <;> omega

theorem rB_zero {r : Nat} (h : r = 0) : rB r = 0 := by subst h; rfl

theorem rB_sg (s t : Bool) {r q : Nat} (h : sgI s r ≤ sgI t q) : sgI s (rB r) ≤ sgI t (rB q) := by
  cases s
  · cases t
    · have h' : (r : Int) ≤ (q : Int) := h
      have := @rB_mono r q (by omega)
      show ((rB r : Nat) : Int) ≤ ((rB q : Nat) : Int)
      omega
    · have h' : (r : Int) ≤ -(q : Int) := h
      have z1 := @rB_zero r (by omega)
      have z2 := @rB_zero q (by omega)
      show ((rB r : Nat) : Int) ≤ -((rB q : Nat) : Int)
      omega
  · cases t
    · show -((rB r : Nat) : Int) ≤ ((rB q : Nat) : Int)
      omega
    · have h' : -(r : Int) ≤ -(q : Int) := h
      have := @rB_mono q r (by omega)
      show -((rB r : Nat) : Int) ≤ -((rB q : Nat) : Int)
      omega

theorem bucket_mono {x y : Nat} (hx : isNum x) (hy : isNum y) (h : ordI x ≤ ordI y) : ordI (bucketN x) ≤ ordI (bucketN y) := by
  rw [bucket_ord x hx, bucket_ord y hy]
  rw [ordI_sg, ordI_sg] at h
  exact rB_sg _ _ h

theorem cnt_le {p q : Nat → Bool} {l : List Nat} (h : ∀ x ∈ l, p x = true → q x = true) : cntP p l ≤ cntP q l := by
  induction l with
  | nil => simp [cntP]
  | cons a r ih =>
    have i2 := ih (fun x hx => h x (by simp [hx]))
    have i1 := h a (by simp)
    rw [cntP_cons, cntP_cons]
    by_cases hp : p a = true
    · rw [if_pos hp, if_pos (i1 hp)]; omega
    · rw [if_neg hp]; omega

theorem cnt_map (p : Nat → Bool) (f : Nat → Nat) (l : List Nat) : cntP p (l.map f) = cntP (fun x => p (f x)) l := by
  induction l with
  | nil => rfl
  | cons a r ih => rw [List.map_cons, cntP_cons, cntP_cons, ih]

/-- the value with the rank has the bucket at the rank -/
theorem rank_of_value (L : List Nat) (hL : ∀ x ∈ L, isNum x) (v r : Nat) (hv : v ∈ L) (h1 : cntP (fun y => decide (ordI y < ordI v)) L < r) (h2 : r ≤ cntP (fun y => decide (ordI y < ordI v)) L + cntP (fun y => decide (ordI y = ordI v)) L) :
    rankOf (fun k => (L.map bucketN).count k) (ksOf (L.map bucketN)) r = bucketN v := by
  refine rank_bag (L.map bucketN) (fun x hx => ?_) (bucketN v) r (List.mem_map.2 ⟨v, hv, rfl⟩) ?_ ?_
  · obtain ⟨y, hy, rfl⟩ := List.mem_map.1 hx
    exact bucket_isB y (hL y hy)
  · rw [cnt_map]
    refine Nat.lt_of_le_of_lt (cnt_le (fun x hx hp => ?_)) h1
    simp only [decide_eq_true_eq] at hp ⊢
    rcases Int.lt_or_le (ordI x) (ordI v) with h | h
    · exact h
    · have := bucket_mono (hL v hv) (hL x hx) h
      omega
  · rw [cnt_map]
    refine Nat.le_trans h2 ?_
    have hsum : ∀ l : List Nat, cntP (fun y => decide (ordI y < ordI v)) l + cntP (fun y => decide (ordI y = ordI v)) l = cntP (fun y => decide (ordI y ≤ ordI v)) l := by
      intro l
      induction l with
      | nil => rfl
      | cons a r ih =>
        rw [cntP_cons, cntP_cons, cntP_cons, ← ih]
        rcases Int.lt_trichotomy (ordI a) (ordI v) with h | h | h
        · have k1 : ¬ ordI a = ordI v := by omega
          have k2 : ordI a ≤ ordI v := by omega
          simp only [h, k1, k2, decide_true, decide_false, if_true, Bool.false_eq_true, if_false]
          omega
        · have k1 : ¬ ordI a < ordI v := by omega
          have k2 : ordI a ≤ ordI v := by omega
          simp only [h, decide_true, Int.lt_irrefl, decide_false, if_true, Bool.false_eq_true, if_false, Int.le_refl]
          omega
        · have k0 : ¬ ordI a < ordI v := by omega
          have k1 : ¬ ordI a = ordI v := by omega
          have k2 : ¬ ordI a ≤ ordI v := by omega
          simp only [k0, k1, k2, decide_false, Bool.false_eq_true, if_false]
          omega
    rw [hsum]
    refine cnt_le (fun x hx hp => ?_)
    simp only [decide_eq_true_eq] at hp ⊢
    exact bucket_mono (hL x hx) (hL v hv) hp

theorem exists_max : ∀ (l : List Nat), l ≠ [] → ∃ m ∈ l, ∀ x ∈ l, ordI x ≤ ordI m
  | [], h => absurd rfl h
  | [a], _ => ⟨a, by simp, fun x hx => by rw [List.mem_singleton.1 hx]; exact Int.le_refl _⟩
  | a :: b :: r, _ => by
    obtain ⟨m, hm, hmax⟩ := exists_max (b :: r) (by simp)
    by_cases h : ordI m ≤ ordI a
    · refine ⟨a, by simp, fun x hx => ?_⟩
      rcases List.mem_cons.1 hx with rfl | hx
      · exact Int.le_refl _
      · have := hmax x hx; omega
    · refine ⟨m, by simp [hm], fun x hx => ?_⟩
      rcases List.mem_cons.1 hx with rfl | hx
      · omega
      · exact hmax x hx

theorem cnt_all (p : Nat → Bool) (l : List Nat) (h : ∀ x ∈ l, p x = true) : cntP p l = l.length := by
  unfold cntP
  rw [List.filter_eq_self.2 h]

/-- some value has the rank -/
theorem exists_rank (L : List Nat) (r : Nat) (hr1 : 1 ≤ r) (hr2 : r ≤ L.length) : ∃ v ∈ L, cntP (fun y => decide (ordI y < ordI v)) L < r ∧ r ≤ cntP (fun y => decide (ordI y ≤ ordI v)) L := by
  have step : ∀ (n : Nat) (v : Nat), v ∈ L → r ≤ cntP (fun y => decide (ordI y ≤ ordI v)) L → cntP (fun y => decide (ordI y < ordI v)) L ≤ n → ∃ v ∈ L, cntP (fun y => decide (ordI y < ordI v)) L < r ∧ r ≤ cntP (fun y => decide (ordI y ≤ ordI v)) L := by
    intro n
    induction n with
    | zero => intro v hv h1 h2; exact ⟨v, hv, by omega, h1⟩
    | succ n ih =>
      intro v hv h1 h2
      by_cases hlt : cntP (fun y => decide (ordI y < ordI v)) L < r
      · exact ⟨v, hv, hlt, h1⟩
      · have hne : L.filter (fun y => decide (ordI y < ordI v)) ≠ [] := fun e => by
          unfold cntP at hlt
          rw [e] at hlt
          simp at hlt
          omega
        obtain ⟨m, hm, hmax⟩ := exists_max _ hne
        obtain ⟨m1, m2⟩ := List.mem_filter.1 hm
        simp only [decide_eq_true_eq] at m2
        have e1 : cntP (fun y => decide (ordI y < ordI v)) L ≤ cntP (fun y => decide (ordI y ≤ ordI m)) L := cnt_le (fun x hx hp => by
          simp only [decide_eq_true_eq] at hp ⊢
          exact hmax x (List.mem_filter.2 ⟨hx, by simpa using hp⟩))
        have e2 : cntP (fun y => decide (ordI y < ordI m)) L < cntP (fun y => decide (ordI y < ordI v)) L := by
          have key : ∀ l : List Nat, m ∈ l → cntP (fun y => decide (ordI y < ordI m)) l + 1 ≤ cntP (fun y => decide (ordI y < ordI v)) l := by
            intro l
            induction l with
            | nil => intro h; cases h
            | cons a r ihl =>
              intro hmem
              rw [cntP_cons, cntP_cons]
              by_cases ea : m = a
              · subst ea
                have := cnt_le (p := fun y => decide (ordI y < ordI m)) (q := fun y => decide (ordI y < ordI v)) (l := r) (fun x _ hp => by simp only [decide_eq_true_eq] at hp ⊢; omega)
                simp only [Int.lt_irrefl, decide_false, m2, decide_true, if_true, Bool.false_eq_true, if_false]
                omega
              · have hr := ihl (by
                  rcases List.mem_cons.1 hmem with h | h
                  · exact absurd h ea
                  · exact h)
                by_cases k1 : ordI a < ordI m
                · have k2 : ordI a < ordI v := by omega
                  simp only [k1, k2, decide_true, if_true]
                  omega
                · simp only [k1, decide_false, Bool.false_eq_true, if_false]
                  omega
          exact key L m1
        exact ih m m1 (by omega) (by omega)
  have hne : L ≠ [] := fun e => by subst e; simp at hr2; omega
  obtain ⟨m, hm, hmax⟩ := exists_max L hne
  refine step L.length m hm ?_ (List.length_filter_le _ _)
  rw [cnt_all _ L (fun x hx => by simpa using hmax x hx)]
  exact hr2
end Go.Proofs.YtgekdmjneogdoaaGreatDoor

namespace Go.Proofs.YtgekdmjneogdoaaGreatDoor
open Go.RowKit Go.Shelf Go.Maps

/-! one sample, so many slices ago -/
def oneBag (n old : Nat) (x : Nat) : List (List Nat) := (List.range n).map fun i => if i = old then [x] else []

theorem oneBag_length (n old x : Nat) : (oneBag n old x).length = n := by simp [oneBag]

theorem oneBag_get (n old x i : Nat) (h : i < n) : (oneBag n old x)[i]? = some (if i = old then [x] else []) := by
  simp [oneBag, h]

theorem oneBag_none (n old x : Nat) (h : n ≤ old) : oneBag n old x = List.replicate n [] := by
  apply List.ext_getElem?
  intro i
  rcases Nat.lt_or_ge i n with hi | hi
  · rw [oneBag_get n old x i hi, List.getElem?_replicate, if_pos hi, if_neg (by omega)]
  · rw [List.getElem?_eq_none (by rw [oneBag_length]; exact hi), List.getElem?_eq_none (by simpa using hi)]

theorem oneBag_shift (n old x δ : Nat) : shiftB (min δ n) (oneBag n old x) = oneBag n (old + δ) x := by
  apply List.ext_getElem?
  intro i
  have hl := shiftB_length (min δ n) (oneBag n old x) (by rw [oneBag_length]; omega)
  rw [oneBag_length] at hl
  rcases Nat.lt_or_ge i n with hi | hi
  · rw [oneBag_get n (old + δ) x i hi]
    unfold shiftB
    rw [oneBag_length]
    rcases Nat.lt_or_ge i (min δ n) with h1 | h1
    · rw [List.getElem?_append_left (by simpa using h1), List.getElem?_replicate, if_pos h1, if_neg (by omega)]
    · rw [List.getElem?_append_right (by simpa using h1), List.length_replicate, List.getElem?_take_of_lt (by omega), oneBag_get n old x _ (by omega)]
      congr 1
      have : (i - min δ n = old) ↔ (i = old + δ) := by omega
      simp [this]
  · rw [List.getElem?_eq_none (by rw [hl]; exact hi), List.getElem?_eq_none (by rw [oneBag_length]; exact hi)]

theorem oneBag_take (n old x k : Nat) (hk : k ≤ n) : ((oneBag n old x).take k).flatten.length = if old < k then 1 else 0 := by
  induction k with
  | zero => simp
  | succ k ih =>
    rw [take_flat (oneBag n old x) k _ (oneBag_get n old x k (by omega)), ih (by omega)]
    by_cases h : k = old
    · subst h
      simp
    · rw [if_neg h]
      by_cases h2 : old < k
      · rw [if_pos h2, if_pos (by omega)]; rfl
      · rw [if_neg h2, if_neg (by omega)]; rfl

theorem oneBag_flat (n old x : Nat) : (oneBag n old x).flatten.length ≤ 1 := by
  have h := oneBag_take n old x n (Nat.le_refl _)
  rw [List.take_of_length_le (by rw [oneBag_length]; exact Nat.le_refl _)] at h
  rw [h]
  split <;> omega

theorem oneBag_zero (n x : Nat) (h : 0 < n) : (List.replicate n ([] : List Nat)).set 0 [x] = oneBag n 0 x := by
  apply List.ext_getElem?
  intro i
  rcases Nat.lt_or_ge i n with hi | hi
  · rw [oneBag_get n 0 x i hi]
    by_cases h0 : i = 0
    · subst h0
      rw [List.getElem?_set_self (by simpa using h), if_pos rfl]
    · rw [List.getElem?_set_ne (Ne.symm h0), List.getElem?_replicate, if_pos hi, if_neg h0]
  · rw [List.getElem?_eq_none (by simpa using hi), List.getElem?_eq_none (by rw [oneBag_length]; exact hi)]

theorem shift_empty (n f : Nat) (h : f ≤ n) : shiftB f (List.replicate n ([] : List Nat)) = List.replicate n [] := by
  unfold shiftB
  rw [List.length_replicate, List.take_replicate, List.replicate_append_replicate]
  congr 1
  omega

/-- a meter that has its one sample -/
def Has (K : Nat → Prop) (w : World) (mb W C n old : Nat) : Prop := ∃ (kb : Nat) (ms : List (Option Nat)), ms.length = n ∧ Mtr K w mb kb W C MS.zero ms (oneBag n old 4607182418800017408)

theorem one_num : (FloatKind.f64.format.order 4607182418800017408 4607182418800017408 != some .eq) = false := by kernel_rfl
theorem one_bucket : bucketN 4607182418800017408 = 4607182418800017408 := by kernel_rfl

theorem has_tick {K : Nat → Prop} {w : World} {mb W C n old : Nat} (h : Has K w mb W C n old) (t : Nat) (h1 : C ≤ t) (h2 : t ≤ 1099511627776) :
    Calls Tryz.prog 31 #[.pointer (some ⟨mb, 0, none⟩), .int .i64 t] w fun e w' => e = .returned (.int .i64 0) ∧ Has K w' mb W t n (old + (t / W - C / W)) ∧ Kept K w w' := by
  obtain ⟨kb, ms, hl, hM⟩ := h
  refine (tick_ok hM t h1 h2).mono ?_
  rintro e w' ⟨he, hM', hk⟩
  rw [hl, oneBag_shift] at hM'
  exact ⟨he, ⟨kb, shifted (min (t / W - C / W) n) ms, by rw [shifted_length _ _ (by omega)]; exact hl, hM'⟩, hk⟩

theorem has_count {K : Nat → Prop} {w : World} {mb W C n old : Nat} (h : Has K w mb W C n old) (k : Nat) (h1 : 1 ≤ k) (h2 : k ≤ n) :
    Calls Tryz.prog 33 #[.pointer (some ⟨mb, 0, none⟩), .int .i64 k] w fun e w' => e = .returned (.tuple #[.int .i64 ((if old < k then 1 else 0 : Nat) : Int), .int .i64 0]) ∧ Has K w' mb W C n old ∧ Kept K w w' := by
  obtain ⟨kb, ms, hl, hM⟩ := h
  have hf := oneBag_flat n old 4607182418800017408
  refine (count_ok hM k h1 (by omega) (by omega)).mono ?_
  rintro e w' ⟨he, hb⟩
  rw [oneBag_take n old _ k h2] at he
  exact ⟨he, ⟨kb, ms, hl, hM.below hb⟩, hM.keptBelow hb⟩

theorem Has.drewN {K : Nat → Prop} {w : World} {mb W C n old : Nat} (h : Has K w mb W C n old) (q : Nat) : Has K (w.drewN q) mb W C n old := by
  obtain ⟨kb, ms, hl, hM⟩ := h
  exact ⟨kb, ms, hl, hM.drewN q⟩

theorem has_old {K : Nat → Prop} {w : World} {mb W C n old : Nat} (h : Has K w mb W C n old) (t : Nat) (h2 : t ≤ 1099511627776) (ho : t / W + n ≤ C / W) :
    Calls Tryz.prog 32 #[.pointer (some ⟨mb, 0, none⟩), .int .i64 t, .int .u64 4607182418800017408] w fun e w' => e = .returned (.int .i64 7) ∧ Has K w' mb W C n old ∧ Kept K w w' := by
  have h0 := h
  obtain ⟨kb, ms, hl, hM⟩ := h
  refine (add_old hM.z hM.hW hM.hC hM.hn.2 t 4607182418800017408 h2 one_num (by omega)).mono ?_
  rintro e w' ⟨he, q, hw⟩
  rw [hw]
  exact ⟨he, h0.drewN q, ⟨rfl, rfl, rfl, Nat.le_refl _, fun _ _ => rfl⟩⟩

/-- one sample more in that slice -/
theorem has_add {K : Nat → Prop} {w : World} {mb W C n old : Nat} (h : Has K w mb W C n old) (t : Nat) (h2 : t ≤ 1099511627776) (ho : t / W + old = C / W) (hn : old < n) :
    Calls Tryz.prog 32 #[.pointer (some ⟨mb, 0, none⟩), .int .i64 t, .int .u64 4607182418800017408] w fun e w' => e = .returned (.int .i64 0) ∧ Kept K w w' := by
  obtain ⟨kb, ms, hl, hM⟩ := h
  obtain ⟨m, hm⟩ : ∃ m, ms[old]? = some m := ⟨_, List.getElem?_eq_getElem (by omega)⟩
  have hg := oneBag_get n old 4607182418800017408 old hn
  rw [if_pos rfl] at hg
  rcases hM.sl old m _ hm hg with ⟨_, e⟩ | ⟨b, rfl, _⟩
  · cases e
  · refine (add_some hM t 4607182418800017408 old b _ h2 (by omega) one_num ho hm hg (by simp)).mono ?_
    rintro e w' ⟨he, _, hk⟩
    exact ⟨he, hk⟩

/-- a new meter, without a sample -/
def Bare (K : Nat → Prop) (w : World) (mb W C n : Nat) : Prop := ∃ (kb : Nat), Mtr K w mb kb W C MS.zero (List.replicate n none) (List.replicate n [])

theorem bare_new (K : Nat → Prop) (n wd : Nat) (hn1 : 1 ≤ n) (hn2 : n ≤ 8) (hw1 : 1 ≤ wd) (hw2 : wd ≤ 1000000) (w : World) (hK : ∀ k, K k → k < w.heap.size) :
    Calls Tryz.prog 30 #[.int .i64 n, .int .i64 wd] w fun e w' => ∃ mb, e = .returned (.tuple #[.pointer (some ⟨mb, 0, none⟩), .int .i64 0]) ∧ Bare K w' mb wd 0 n ∧ Kept K w w' := by
  refine (new_ok n wd hn1 hn2 hw1 hw2 w).mono ?_
  rintro e w' ⟨he, hw⟩
  refine ⟨_, he, ⟨w.heap.size, ?_⟩, ?_⟩
  · rw [hw]; exact new_mtr K n wd hn1 hn2 hw1 hw2 w hK
  · rw [hw]
    exact ((Kept.refl K w).alloc hK _).alloc hK _

theorem shifted_none (n f : Nat) (h : f ≤ n) : shifted f (List.replicate n none) = List.replicate n none := by
  unfold shifted
  rw [List.length_replicate, List.take_replicate, List.replicate_append_replicate]
  congr 1
  omega

theorem bare_tick {K : Nat → Prop} {w : World} {mb W C n : Nat} (h : Bare K w mb W C n) (t : Nat) (h1 : C ≤ t) (h2 : t ≤ 1099511627776) :
    Calls Tryz.prog 31 #[.pointer (some ⟨mb, 0, none⟩), .int .i64 t] w fun e w' => e = .returned (.int .i64 0) ∧ Bare K w' mb W t n ∧ Kept K w w' := by
  obtain ⟨kb, hM⟩ := h
  refine (tick_ok hM t h1 h2).mono ?_
  rintro e w' ⟨he, hM', hk⟩
  rw [List.length_replicate, shifted_none n _ (by omega), shift_empty n _ (by omega)] at hM'
  exact ⟨he, ⟨kb, hM'⟩, hk⟩

theorem bare_add {K : Nat → Prop} {w : World} {mb W C n : Nat} (h : Bare K w mb W C n) (hn : 0 < n) :
    Calls Tryz.prog 32 #[.pointer (some ⟨mb, 0, none⟩), .int .i64 C, .int .u64 4607182418800017408] w fun e w' => e = .returned (.int .i64 0) ∧ Has K w' mb W C n 0 ∧ Kept K w w' := by
  obtain ⟨kb, hM⟩ := h
  have hC := hM.hC
  refine (add_none hM C 4607182418800017408 0 hC (by omega) one_num (by omega) (by rw [List.getElem?_replicate, if_pos hn])).mono ?_
  rintro e w' ⟨he, ⟨b, hM'⟩, hk⟩
  rw [one_bucket, oneBag_zero n _ hn] at hM'
  exact ⟨he, ⟨kb, _, by simp, hM'⟩, hk⟩
end Go.Proofs.YtgekdmjneogdoaaGreatDoor

namespace Go.Proofs.YtgekdmjneogdoaaGreatDoor
open Go.RowKit Go.Shelf Go.Maps

def numB (v : Nat) : Bool := decide (v % 9223372036854775808 ≤ 9218868437227405312)

set_option maxRecDepth 20000 in
set_option maxHeartbeats 400000 in
theorem keepnum_any (v : Nat) (hv : v < 18446744073709551616) (w : World) :
    Calls Tryz.prog 19 #[.int .u64 v] w fun e w' => e = .returned (.bool (numB v)) ∧ w' = w := by
  have e0 : ((v : Int) % 9223372036854775808) = ((v % 9223372036854775808 : Nat) : Int) := by omega
  have hm : v % 9223372036854775808 < 9223372036854775808 := Nat.mod_lt _ (by omega)
  have hd : decide (((v % 9223372036854775808 : Nat) : Int) ≤ 9218868437227405312) = numB v := by
    unfold numB
    by_cases c : v % 9223372036854775808 ≤ 9218868437227405312
    · have c2 : ((v % 9223372036854775808 : Nat) : Int) ≤ 9218868437227405312 := by omega
      simp only [c, c2, decide_true]
    · have c2 : ¬ ((v % 9223372036854775808 : Nat) : Int) ≤ 9218868437227405312 := by omega
      simp only [c, c2, decide_false]
  rw [← hd, ← e0]
  clear hd e0 hm
  go_enter Tryz.func19, Tryz.ntmps19
  go_wp2_with fail
  go_ret
  exact ⟨rfl, rfl⟩

set_option maxRecDepth 20000 in
set_option maxHeartbeats 400000 in
theorem keeporder_hi (z r : Int) (hz1 : 9223372036854775808 ≤ z) (hz2 : z ≤ 18446744073709551615) (hr : z % 9223372036854775808 = r) (_hr1 : 0 ≤ r) (_hr2 : r ≤ 9223372036854775807) (w : World) :
    Calls Tryz.prog 29 #[.int .u64 z] w fun e w' => e = .returned (.int .i64 (-r)) ∧ w' = w := by
  have hd : decide (z ≥ 9223372036854775808) = true := by simp; omega
  go_enter Tryz.func29, Tryz.ntmps29
  go_wp2_with fail
  go_ret
  exact ⟨rfl, rfl⟩

set_option maxRecDepth 20000 in
set_option maxHeartbeats 400000 in
theorem keeporder_lo (z : Int) (hz1 : 0 ≤ z) (hz2 : z ≤ 9223372036854775807) (w : World) :
    Calls Tryz.prog 29 #[.int .u64 z] w fun e w' => e = .returned (.int .i64 z) ∧ w' = w := by
  have hr : z % 9223372036854775808 = z := by omega
  have hd : decide (9223372036854775808 ≤ z) = false := by simp; omega
  go_enter Tryz.func29, Tryz.ntmps29
  go_wp2_with fail
  go_ret
  exact ⟨rfl, rfl⟩

theorem keeporder_any (v : Nat) (hv : v < 18446744073709551616) (w : World) :
    Calls Tryz.prog 29 #[.int .u64 v] w fun e w' => e = .returned (.int .i64 (ordI v)) ∧ w' = w := by
  unfold ordI
  by_cases c : 9223372036854775808 ≤ v
  · rw [if_pos c]
    exact keeporder_hi v _ (by omega) (by omega) (by omega) (by omega) (by omega) w
  · rw [if_neg c, Nat.mod_eq_of_lt (by omega)]
    exact keeporder_lo v (by omega) (by omega) w

/-! a meter beside a row -/
theorem Mtr.same {K : Nat → Prop} {w w' : World} {mb kb W C : Nat} {S : MS} {ms : List (Option Nat)} {bags : List (List Nat)} (h : Mtr K w mb kb W C S ms bags) (hs : w.heap.size ≤ w'.heap.size) (hk : ∀ k, k < w.heap.size → (k = mb ∨ k = kb ∨ some k ∈ ms) → w'.heap[k]? = w.heap[k]?) : Mtr K w' mb kb W C S ms bags := by
  have hmlt : mb < w.heap.size := (Array.getElem?_eq_some_iff.1 h.z.hm).1
  have hklt : kb < w.heap.size := (Array.getElem?_eq_some_iff.1 h.z.hk).1
  refine ⟨⟨(hk mb hmlt (Or.inl rfl)).trans h.z.hm, (hk kb hklt (Or.inr (Or.inl rfl))).trans h.z.hk⟩, h.len, fun i m g h1 h2 => (h.sl i m g h1 h2).block (fun b hb => ?_), h.nd, h.hW, h.hC, h.hn, fun k hK => ?_⟩
  · subst hb
    have hm := List.mem_of_getElem? h1
    exact hk b (h.apart hm).2.2 (Or.inr (Or.inr hm))
  · obtain ⟨a1, a2⟩ := h.out k hK
    exact ⟨Nat.lt_of_lt_of_le a1 hs, a2⟩

/-- a row of values is none of its blocks -/
theorem Mtr.withRow {K : Nat → Prop} {w : World} {mb kb W C : Nat} {S : MS} {ms : List (Option Nat)} {bags : List (List Nat)} (h : Mtr K w mb kb W C S ms bags) {base n : Nat} {v : Value} {xs : List Value} (ho : w.ownsRow base 25 1 v n xs) : Mtr (fun k => K k ∨ v.ownBlock = some k) w mb kb W C S ms bags := by
  refine ⟨h.z, h.len, h.sl, h.nd, h.hW, h.hC, h.hn, fun k hk => ?_⟩
  rcases hk with hk | hk
  · exact h.out k hk
  · have hlt := (ho.lt k hk).2
    rcases ho.2 with ⟨rfl, _⟩ | ⟨g, cap, cur, rfl, hb, hgg, _⟩
    · simp [Value.ownBlock] at hk
    · simp [Value.ownBlock] at hk
      subst hk
      refine ⟨hlt, fun e => ?_, fun e => ?_, fun hm => ?_⟩
      · subst e
        have := h.z.hm.symm.trans hgg
        injection this with this
        injection this with _ e2 _
        exact absurd e2 (by decide)
      · subst e
        have := h.z.hk.symm.trans hgg
        injection this with this
        injection this with _ e2 _
        exact absurd e2 (by decide)
      · obtain ⟨i, hi⟩ := List.mem_iff_getElem?.1 hm
        have hi2 : i < ms.length := (List.getElem?_eq_some_iff.1 hi).1
        obtain ⟨q, hq⟩ : ∃ q, bags[i]? = some q := ⟨_, List.getElem?_eq_getElem (by rw [← h.len]; exact hi2)⟩
        rcases h.sl i _ q hi hq with ⟨e, _⟩ | ⟨b', e, hT⟩
        · cases e
        · cases e
          obtain ⟨D, m, ⟨es, clock, h0, _⟩, _⟩ := hT
          rw [hgg] at h0
          cases h0

/-- behind a row's growing -/
theorem Mtr.rowGrown {K : Nat → Prop} {w w' : World} {mb kb W C : Nat} {S : MS} {ms : List (Option Nat)} {bags : List (List Nat)} {r : Option Nat} (h : Mtr (fun k => K k ∨ r = some k) w mb kb W C S ms bags) (hg : w.grownBy w' r) : Mtr K w' mb kb W C S ms bags := by
  refine (h.sub (J := K) (fun k hk => Or.inl hk)).same hg.size (fun k hk hw => hg.block k hk (fun e => ?_))
  obtain ⟨_, a2, a3, a4⟩ := h.out k (Or.inr e.symm)
  rcases hw with e1 | e1 | e1
  · exact a2 e1
  · exact a3 e1
  · exact a4 e1

/-- a meter of four slices that has these values in its present one -/
def Fill (K : Nat → Prop) (w : World) (mb : Nat) (l : List Nat) : Prop := ∃ (kb : Nat) (ms : List (Option Nat)), ms.length = 4 ∧ Mtr K w mb kb 100 0 MS.zero ms [l.map bucketN, [], [], []]

theorem fill_new (K : Nat → Prop) (w : World) (hK : ∀ k, K k → k < w.heap.size) :
    Calls Tryz.prog 30 #[.int .i64 4, .int .i64 100] w fun e w' => ∃ mb, e = .returned (.tuple #[.pointer (some ⟨mb, 0, none⟩), .int .i64 0]) ∧ Fill K w' mb [] ∧ Kept K w w' := by
  refine (bare_new K 4 100 (by omega) (by omega) (by omega) (by omega) w hK).mono ?_
  rintro e w' ⟨mb, he, ⟨kb, hM⟩, hk⟩
  exact ⟨mb, he, ⟨kb, _, by simp, hM⟩, hk⟩

theorem num_of {v : Nat} (hv : v < 18446744073709551616) (h : numB v = true) : isNum v := ⟨hv, of_decide_eq_true h⟩

theorem fill_add {K : Nat → Prop} {w : World} {mb : Nat} {l : List Nat} (h : Fill K w mb l) (v : Nat) (hv : v < 18446744073709551616) (hn : numB v = true) (hl : l.length < 50) :
    Calls Tryz.prog 32 #[.pointer (some ⟨mb, 0, none⟩), .int .i64 7, .int .u64 v] w fun e w' => e = .returned (.int .i64 0) ∧ Fill K w' mb (l ++ [v]) ∧ Kept K w w' := by
  obtain ⟨kb, ms, hm4, hM⟩ := h
  have hno : (FloatKind.f64.format.order v v != some .eq) = false := by
    rw [num_iff v hv]
    have := of_decide_eq_true hn
    simp only [decide_eq_false_iff_not]; omega
  obtain ⟨m, hm⟩ : ∃ m, ms[0]? = some m := ⟨_, List.getElem?_eq_getElem (by omega)⟩
  cases m with
  | none =>
    have hl0 : l.map bucketN = [] := by
      rcases hM.sl 0 none _ hm rfl with ⟨_, e⟩ | ⟨b, e, _⟩
      · exact e
      · cases e
    refine (add_none hM 7 v 0 (by omega) hv hno (by decide) hm).mono ?_
    rintro e w' ⟨he, ⟨b, hM'⟩, hk⟩
    refine ⟨he, ⟨kb, ms.set 0 (some b), by rw [List.length_set]; exact hm4, ?_⟩, hk⟩
    rw [List.map_append, hl0]
    exact hM'
  | some b =>
    refine (add_some hM 7 v 0 b (l.map bucketN) (by omega) hv hno (by decide) hm rfl (by rw [List.length_map]; omega)).mono ?_
    rintro e w' ⟨he, hM', hk⟩
    refine ⟨he, ⟨kb, ms, hm4, ?_⟩, hk⟩
    rw [List.map_append]
    exact hM'

theorem fill_nan (mb v : Nat) (hv : v < 18446744073709551616) (hn : numB v = false) (w : World) :
    Calls Tryz.prog 32 #[.pointer (some ⟨mb, 0, none⟩), .int .i64 7, .int .u64 v] w fun e w' => e = .returned (.int .i64 6) ∧ w' = w := by
  refine add_nan mb 7 v w (by omega) ?_
  rw [num_iff v hv]
  have := of_decide_eq_false hn
  simp only [decide_eq_true_eq]; omega

theorem take_first (g : List Nat) (k : Nat) (h1 : 1 ≤ k) (h2 : k ≤ 4) : (([g, [], [], []] : List (List Nat)).take k).flatten = g := by
  obtain rfl | rfl | rfl | rfl : k = 1 ∨ k = 2 ∨ k = 3 ∨ k = 4 := by omega
  all_goals simp

theorem erase_length : ∀ (n : Nat) (l : List Nat), l.length ≤ n → l.eraseDups.length ≤ l.length
  | 0, l, h => by
    have : l = [] := List.eq_nil_of_length_eq_zero (by omega)
    subst this; simp
  | n + 1, [], _ => by simp
  | n + 1, a :: r, h => by
    rw [List.eraseDups_cons]
    have h1 : (r.filter fun b => !b == a).length ≤ r.length := List.length_filter_le _ _
    have h2 := erase_length n (r.filter fun b => !b == a) (by simp at h; omega)
    simp only [List.length_cons]
    omega

theorem ksOf_length (bag : List Nat) : (ksOf bag).length ≤ bag.length := by
  unfold ksOf
  rw [List.length_mergeSort]
  exact erase_length _ bag (Nat.le_refl _)

theorem fill_quant {K : Nat → Prop} {w : World} {mb : Nat} {l : List Nat} (h : Fill K w mb l) (k a b : Nat) (hk1 : 1 ≤ k) (hk2 : k ≤ 4) (hb1 : 1 ≤ b) (hb2 : b ≤ 1000) (hab : a ≤ b) (hl : l.length ≤ 50) (hne : l ≠ []) (hnum : ∀ x ∈ l, isNum x) :
    Calls Tryz.prog 28 #[.pointer (some ⟨mb, 0, none⟩), .int .i64 k, .int .i64 a, .int .i64 b] w fun e w' => e = .returned (.tuple #[.int .u64 (rankOf (fun x => (l.map bucketN).count x) (ksOf (l.map bucketN)) (rankN a b l.length)), .int .i64 0]) ∧ Fill K w' mb l ∧ Below w.heap.size w w' := by
  obtain ⟨kb, ms, hm4, hM⟩ := h
  have hB : ∀ x ∈ l.map bucketN, isB x := fun x hx => by
    obtain ⟨y, hy, rfl⟩ := List.mem_map.1 hx
    exact bucket_isB y (hnum y hy)
  have hS := sorts_bag (l.map bucketN) hB (by rw [List.length_map]; omega)
  have hks : ∀ x ∈ ksOf (l.map bucketN), x < 18446744073709551616 := fun x hx => (hB x ((mem_ksOf _ x).1 hx)).1.1
  have hkl : (ksOf (l.map bucketN)).length ≤ (l.map bucketN).length := ksOf_length _
  have hq := quant_ok hM k a b hk1 (by omega) (by simp; omega) hb1 hb2 hab (l.map bucketN) (ksOf (l.map bucketN)) (take_first _ k hk1 hk2) (by simpa using hne) hS hks (by rw [List.length_map] at hkl; omega) (total_ks _ hB)
  rw [List.length_map] at hq
  refine hq.mono ?_
  rintro e w' ⟨he, hb⟩
  exact ⟨he, ⟨kb, ms, hm4, hM.below hb⟩, hb⟩

set_option maxRecDepth 20000 in
set_option maxHeartbeats 1600000 in
theorem fill_quant_nil {K : Nat → Prop} {w : World} {mb : Nat} (h : Fill K w mb []) (k a b : Nat) (hk1 : 1 ≤ k) (hk2 : k ≤ 4) (hb1 : 1 ≤ b) (hb2 : b ≤ 1000) (hab : a ≤ b) :
    Calls Tryz.prog 28 #[.pointer (some ⟨mb, 0, none⟩), .int .i64 k, .int .i64 a, .int .i64 b] w fun e w' => e = .returned (.tuple #[.int .u64 0, .int .i64 9]) ∧ Fill K w' mb [] ∧ Below w.heap.size w w' := by
  have HF := hide h
  obtain ⟨kb, ms, hm4, hM⟩ := h
  have c2 := hM.z.c2
  rw [hm4] at c2
  have HLa := hide (last_ok hM k hk1 (by omega) (by simp))
  rw [List.map_nil, take_first _ k hk1 hk2] at HLa
  have HKe := hide hM
  clear hM
  go_enter Tryz.func28, Tryz.ntmps28
  go_wp2_with fail
  refine (unhide HLa).mono ?_
  rintro e w1 ⟨rfl, hT1, hb1'⟩
  have HSa := hide (tsamples_any w.heap.size [] w1 hT1 (by simp))
  have HB1 := hide hb1'
  clear hT1 hb1'
  go_wp2_with fail
  refine (unhide HSa).mono ?_
  rintro e w2 ⟨rfl, hb2'⟩
  have HB2 := hide ((unhide HB1).trans (hb2'.mono (unhide HB1).size))
  clear hb2' HB1
  go_wp2_with fail
  go_ret2
  exact ⟨rfl, ⟨kb, ms, hm4, (unhide HKe).below (unhide HB2)⟩, unhide HB2⟩

theorem Fill.withRow {K : Nat → Prop} {w : World} {mb : Nat} {l : List Nat} (h : Fill K w mb l) {base n : Nat} {v : Value} {xs : List Value} (ho : w.ownsRow base 25 1 v n xs) : Fill (fun k => K k ∨ v.ownBlock = some k) w mb l := by
  obtain ⟨kb, ms, h4, hM⟩ := h
  exact ⟨kb, ms, h4, hM.withRow ho⟩

theorem Fill.rowGrown {K : Nat → Prop} {w w' : World} {mb : Nat} {l : List Nat} {r : Option Nat} (h : Fill (fun k => K k ∨ r = some k) w mb l) (hg : w.grownBy w' r) : Fill K w' mb l := by
  obtain ⟨kb, ms, h4, hM⟩ := h
  exact ⟨kb, ms, h4, hM.rowGrown hg⟩

theorem Fill.sub {K J : Nat → Prop} {w : World} {mb : Nat} {l : List Nat} (h : Fill K w mb l) (hj : ∀ k, J k → K k) : Fill J w mb l := by
  obtain ⟨kb, ms, h4, hM⟩ := h
  exact ⟨kb, ms, h4, hM.sub hj⟩

theorem Fill.below {K : Nat → Prop} {w w' : World} {mb : Nat} {l : List Nat} (h : Fill K w mb l) (hb : Below w.heap.size w w') : Fill K w' mb l := by
  obtain ⟨kb, ms, h4, hM⟩ := h
  exact ⟨kb, ms, h4, hM.below hb⟩

theorem Fill.drewN {K : Nat → Prop} {w : World} {mb : Nat} {l : List Nat} (h : Fill K w mb l) (n : Nat) : Fill K (w.drewN n) mb l := by
  obtain ⟨kb, ms, h4, hM⟩ := h
  exact ⟨kb, ms, h4, hM.drewN n⟩

/-- a row behind a call that keeps its block -/
theorem row_kept {K : Nat → Prop} {w w' : World} {base n : Nat} {v : Value} {xs : List Value} (ho : w.ownsRow base 25 1 v n xs) (hk : Kept (fun k => K k ∨ v.ownBlock = some k) w w') : w'.ownsRow base 25 1 v n xs := by
  refine ⟨ho.1, ?_⟩
  rcases ho.2 with h | ⟨g, cap, cur, rfl, hb, hgg, rest⟩
  · exact Or.inl h
  · exact Or.inr ⟨g, cap, cur, rfl, hb, (hk.block g (Or.inr rfl)).trans hgg, rest⟩
end Go.Proofs.YtgekdmjneogdoaaGreatDoor

namespace Go.Proofs.YtgekdmjneogdoaaGreatDoor
open Go.RowKit Go.Shelf Go.Maps

/-- a slice that reads as values, in blocks of K -/
def RdU (K : Nat → Prop) (w : World) (v : Value) (l : List Nat) : Prop :=
  ∃ ao cap, v = .slice ao l.length cap ∧ l.length ≤ cap ∧ (0 < l.length → ∃ g o, K g ∧ ao = some ⟨g, o, none⟩ ∧ ∀ j, j < l.length → w.cell? ⟨g, o + j, none⟩ = some (.int .u64 (l.getD j 0 : Nat)))

def inOf (l : List Nat) (j : Nat) : List Nat := (l.take j).filter numB

theorem inOf_step (l : List Nat) (j : Nat) (h : j < l.length) : inOf l (j + 1) = inOf l j ++ (if numB (l.getD j 0) then [l.getD j 0] else []) := by
  unfold inOf
  rw [List.take_succ_eq_append_getElem h, List.filter_append]
  have e : l.getD j 0 = l[j] := by rw [List.getD_eq_getElem?_getD, List.getElem?_eq_getElem h]; rfl
  rw [e]
  congr 1
  simp [List.filter_cons]

theorem inOf_length (l : List Nat) (j : Nat) : (inOf l j).length ≤ j := by
  unfold inOf
  exact Nat.le_trans (List.length_filter_le _ _) (by rw [List.length_take]; omega)

theorem inOf_num (l : List Nat) (j : Nat) (hl : ∀ x ∈ l, x < 18446744073709551616) : ∀ x ∈ inOf l j, isNum x := by
  intro x hx
  obtain ⟨h1, h2⟩ := List.mem_filter.1 hx
  exact num_of (hl x (List.mem_of_mem_take h1)) h2

theorem not_nil_pointer (b : Nat) (w : World) : (binOp BinOp.eql 48 (.pointer (some ⟨b, 0, none⟩)) (.pointer none)).run Tryz.prog w = .ok (.bool false) w := by kernel_rfl

set_option maxRecDepth 40000 in
set_option maxHeartbeats 4000000 in
theorem added_ok (v : Value) (l : List Nat) (w : World) (hv : RdU (Under w) w v l) (hz : ∀ z ∈ l, z < 18446744073709551616) (hzl : l.length ≤ 9223372036854775807) (hT : Tabs w) (hC : CTabs w) (hG : GK (Under w)) (hS : SortsTo [halfN, halfN] [halfN]) :
    Calls Tryz.prog 27 #[v] w fun e w' => ∃ (mb : Nat) (u : Value), e = .returned (.tuple #[.pointer (some ⟨mb, 0, none⟩), u]) ∧ Fill (Under w) w' mb (inOf l 50) ∧ w'.ownsRow w.heap.size 25 1 u (inOf l 50).length ((inOf l 50).map encK) ∧ Below w.heap.size w w' := by
  have HA := hide (awake_ok w hT hC hG hS)
  obtain ⟨i0, hi, hz0, hz1, hz2⟩ := info_parts infoU
  clear hT hC hG hS
  obtain ⟨ao, cap, rfl, hcap, hcells⟩ := hv
  have HCe := hide hcells
  have HZ := hide hz
  clear hcells hz
  generalize hL : l.length = L at *
  go_enter Tryz.func27, Tryz.ntmps27
  go_wp2_with fail
  refine (unhide HA).mono ?_
  rintro e w1 ⟨rfl, hb1'⟩
  have HB1 := hide hb1'
  clear hb1' HA
  go_wp2_with fail
  refine (fill_new (Under w) w1 (fun k hk => Nat.lt_of_lt_of_le hk (unhide HB1).size)).mono ?_
  rintro e w2 ⟨mb, rfl, hF, hk2⟩
  have HF2 := hide hF
  have HB2 := hide (below_of_under (unhide HB1) hk2)
  clear hF hk2 HB1
  go_wp2_with fail
  go_loopw [7, 8, 9, 10] (fun s i _ _ wr => ∃ j : Nat, j ≤ 50 ∧ j ≤ L ∧ i = .int .i64 j ∧ Hid (wr.ownsRow w.heap.size 25 1 s (inOf l j).length ((inOf l j).map encK)) ∧ Hid (Fill (Under w) wr mb (inOf l j)) ∧ Hid (Below w.heap.size w wr)) (fun _ i _ _ _ => 50 - (RowKit.intOf i).toNat)
  case atStart => exact ⟨0, by omega, by omega, rfl, World.ownsRow_nil _ _ _ _, HF2, HB2⟩
  case round =>
    clear HF2 HB2
    obtain ⟨j, hj50, hjL, rfl, hO, hF, hB⟩ := hrel
    by_cases hgo : j < L ∧ j < 50
    · obtain ⟨hjl, hj5⟩ := hgo
      obtain ⟨g, o, hgK, rfl, hce⟩ := unhide HCe (by omega)
      have hcz := hce j hjl
      have hbz := unhide HZ (l.getD j 0) (by
        rw [List.getD_eq_getElem?_getD, List.getElem?_eq_getElem (by rw [hL]; exact hjl)]
        exact List.getElem_mem _)
      have hst := inOf_step l j (by rw [hL]; exact hjl)
      have hlen := inOf_length l j
      generalize l.getD j 0 = z at hcz hbz hst
      have hcw : wr.cell? ⟨g, o + j, none⟩ = some (.int .u64 z) := ((unhide hB).cell (p := ⟨g, o + j, none⟩) hgK).trans hcz
      have HNu := hide (keepnum_any z hbz)
      have hdj1 : decide ((j : Int) < (L : Int)) = true := by simp; omega
      have hdj2 : decide ((j : Int) < 50) = true := by simp; omega
      clear hce hcz
      cases hnz : numB z with
      | true =>
        rw [hnz, if_pos rfl] at hst
        rw [hnz] at HNu
        have HS := hide hst
        clear hst
        have HAd := hide (fill_add ((unhide hF).withRow (unhide hO)) z hbz hnz (by omega))
        go_wp2_with fail
        refine (unhide HAd).mono ?_
        rintro e w5 ⟨rfl, hF5, hk5⟩
        have hc5 : w5.cell? ⟨g, o + j, none⟩ = some (.int .u64 z) := (hk5.cell (p := ⟨g, o + j, none⟩) (Or.inl hgK)).trans hcw
        have HF5 := hide (hF5.sub (J := Under w) (fun k hk => Or.inl hk))
        have HO5 := hide (row_kept (unhide hO) hk5)
        have HB5 := hide (below_of_under (unhide hB) (hk5.sub (fun k hk => Or.inl hk)))
        clear hF5 hk5 HAd hcw
        go_wp2_with fail
        refine (unhide HNu _).mono ?_
        rintro e w6 ⟨rfl, e6⟩
        rw [e6]
        clear e6 w6
        have ho := unhide HO5
        have hs5 := (unhide HB5).size
        go_wp2_with (first
          | (at_builtin; refine wpList_append_own_at _ rfl _ _ 47 rfl w.heap.size 25 i0 (.int .u64 0) 1 8 Tryz.underlying47 hi hz0 hz1 hz2 rfl (by decide) _ _ _ rfl (ho.alloc _) ⟨w5.heap.size, 0, none⟩ 1 1 [.int .u64 z] rfl rfl (cell_one_new _ _ _) (by simp [Value.oneCell']) (by unfold maxLen; omega) (by omega) (by simp; omega) ?_; intro v' W8 hown' hgrow _ hat)
          | go_in)
        have hw8 : W8.ownsRow w.heap.size 25 1 v' (inOf l (j + 1)).length ((inOf l (j + 1)).map encK) := by
          rw [unhide HS, List.length_append, List.map_append]; exact hown'
        have hF8 : Fill (Under w) W8 mb (inOf l (j + 1)) := by
          rw [unhide HS]
          have h1 := (unhide HF5).below ((Below.refl w5.heap.size w5).alloc (Nat.le_refl _) (.cells #[.int .u64 z] 25))
          exact (h1.withRow (ho.alloc _)).rowGrown hgrow
        have hb8 : Below w.heap.size w W8 := ((unhide HB5).alloc (unhide HB5).size _).grown hgrow (by simp; omega) (fun k e => (ho.lt k e).1)
        go_roundw
        case rel => exact ⟨j + 1, by omega, by omega, rfl, hw8, hF8, hb8⟩
        case measure => simp [RowKit.intOf]; omega
      | false =>
        rw [hnz, if_neg (by decide), List.append_nil] at hst
        rw [hnz] at HNu
        have HS := hide hst
        clear hst
        have HAd := hide (fill_nan mb z hbz hnz wr)
        go_wp2_with fail
        refine (unhide HAd).mono ?_
        rintro e w5 ⟨rfl, e5⟩
        rw [e5]
        clear e5 w5 HAd
        go_wp2_with fail
        refine (unhide HNu _).mono ?_
        rintro e w6 ⟨rfl, e6⟩
        rw [e6]
        clear e6 w6
        go_wp2_with fail
        go_roundw
        case rel => exact ⟨j + 1, by omega, by omega, rfl, by rw [unhide HS]; exact hO, by rw [unhide HS]; exact hF, hB⟩
        case measure => simp [RowKit.intOf]; omega
    · have hin : inOf l j = inOf l 50 := by
        unfold inOf
        rcases Nat.lt_or_ge j 50 with h | h
        · rw [List.take_of_length_le (by omega), List.take_of_length_le (by omega)]
        · obtain rfl : j = 50 := by omega
          rfl
      rw [hin] at hO hF
      clear hin
      by_cases hjl : j < L
      · have hdj1 : decide ((j : Int) < (L : Int)) = true := by simp; omega
        have hdj2 : decide ((j : Int) < 50) = false := by simp; omega
        go_wp2_with fail
        go_ret2
        exact ⟨mb, _, rfl, unhide hF, unhide hO, unhide hB⟩
      · have hdj1 : decide ((j : Int) < (L : Int)) = false := by simp; omega
        go_wp2_with fail
        go_ret2
        exact ⟨mb, _, rfl, unhide hF, unhide hO, unhide hB⟩
end Go.Proofs.YtgekdmjneogdoaaGreatDoor

namespace Go.Proofs.YtgekdmjneogdoaaGreatDoor
open Go.RowKit Go.Lib Go.ChangeShapes Go.WideShapes Go.ChangeAt Go.ChangeMaps

/-- a slice of values that came in -/
theorem rdu_of {H : Type} {enc : TypeId × Value → H} {W : World} {a0 : Option Addr} {len cap : Nat} {d : DataW H} {p : List MemPlace} (h : DataW.Trod enc Tryz.prog W 0 (fun _ => true) true 47 (.slice a0 len cap) d p) :
    ∃ l : List Nat, RdU (Under W) W (.slice a0 len cap) l ∧ (∀ z ∈ l, z < 18446744073709551616) ∧ l.length = len ∧ len ≤ 9223372036854775807 := by
  obtain ⟨fuel, hf⟩ := h
  rcases open_ints Tryz.underlying47 Tryz.underlying25 (by kernel_rfl) hf with ⟨hcs, _⟩ | ⟨a, l, c, zs, hcs, _, h1, h2, h3, _, h4, h5⟩
  · simp [Value.cells] at hcs
    obtain ⟨rfl, rfl, rfl⟩ := hcs
    exact ⟨[], ⟨none, 0, rfl, by simp, fun h => by simp at h⟩, by simp, rfl, by omega⟩
  · simp [Value.cells] at hcs
    obtain ⟨rfl, rfl, rfl⟩ := hcs
    rw [if_pos rfl] at h3
    have hl : ((zs.take len).map Int.toNat).length = len := by rw [List.length_map, List.length_take]; omega
    have hm : cap ≤ 9223372036854775807 := by unfold maxLen at h2; omega
    refine ⟨(zs.take len).map Int.toNat, ⟨some a, cap, by rw [hl], by rw [hl]; exact h1, fun h0 => ?_⟩, fun z hz => ?_, hl, by omega⟩
    · rw [hl] at h0
      obtain ⟨R, o, sR⟩ := a
      have h00 := h4 0 (by omega)
      have e0 : (Addr.add ⟨R, o, sR⟩ 0) = ⟨R, o, sR⟩ := by simp [Addr.add]
      rw [e0] at h00
      obtain rfl : sR = none := Go.Proofs.cell_spot h00
      refine ⟨R, o, lt_of_cell h00, rfl, fun j hj => ?_⟩
      rw [hl] at hj
      have := h4 j (by omega)
      rw [Addr.add_lit] at this
      rw [this]
      have hjz : j < zs.length := by omega
      have e1 : zs.getD j 0 = zs[j] := by rw [List.getD_eq_getElem?_getD, List.getElem?_eq_getElem hjz]; rfl
      obtain ⟨n, hn, _⟩ := wfu64 (h5 zs[j] (List.getElem_mem hjz))
      have e2 : ((zs.take len).map Int.toNat).getD j 0 = n := by
        rw [List.getD_eq_getElem?_getD, List.getElem?_map, List.getElem?_take_of_lt hj, List.getElem?_eq_getElem hjz, hn]
        rfl
      rw [e1, e2, hn]
    · obtain ⟨y, hy, rfl⟩ := List.mem_map.1 hz
      obtain ⟨n, hn, hlt⟩ := wfu64 (h5 y (List.mem_of_mem_take hy))
      rw [hn]
      exact hlt
end Go.Proofs.YtgekdmjneogdoaaGreatDoor

namespace Go.Proofs.YtgekdmjneogdoaaGreatDoor
open Go.RowKit Go.Shelf Go.Maps

theorem rdu_own {w : World} {base : Nat} {v : Value} {l : List Nat} (h : w.ownsRow base 25 1 v l.length (l.map encK)) : RdU (Under w) w v l := by
  have hlt := h.lt
  rcases h.2 with ⟨rfl, h0⟩ | ⟨g, cap, cur, rfl, hb, hg, hn, hm, hsz, ht⟩
  · exact ⟨none, 0, by rw [h0], by omega, fun h1 => by omega⟩
  · refine ⟨_, cap, rfl, hn, fun _ => ⟨g, 0, (hlt g rfl).2, rfl, fun j hj => ?_⟩⟩
    have hc : ∀ (i : Nat) (u : Value), (l.map encK)[i]? = some u → w.cell? ⟨g, i, none⟩ = some u := by
      intro i u hu
      rw [cell_of_row w g i cur _ _ hg]
      rw [← ht, List.getElem?_take] at hu
      split at hu
      · simpa using hu
      · cases hu
    rw [Nat.zero_add]
    refine hc j _ ?_
    rw [List.getElem?_map, List.getD_eq_getElem?_getD, List.getElem?_eq_getElem hj]
    rfl

def cL (D : List Nat) (z t : Nat) : Nat := cntP (fun y => decide (ordI y < ordI z)) (D.take t)
def cE (D : List Nat) (z t : Nat) : Nat := cntP (fun y => decide (ordI y = ordI z)) (D.take t)

theorem cntP_snoc (p : Nat → Bool) (l : List Nat) (x : Nat) : cntP p (l ++ [x]) = cntP p l + (if p x then 1 else 0) := by
  unfold cntP
  rw [List.filter_append, List.length_append]
  by_cases h : p x = true
  · simp [h]
  · simp [h]

theorem cL_step (D : List Nat) (z t : Nat) (h : t < D.length) : cL D z (t + 1) = cL D z t + (if ordI (D.getD t 0) < ordI z then 1 else 0) := by
  unfold cL
  rw [List.take_succ_eq_append_getElem h, cntP_snoc]
  have e : D.getD t 0 = D[t] := by rw [List.getD_eq_getElem?_getD, List.getElem?_eq_getElem h]; rfl
  rw [e]
  simp

theorem cE_step (D : List Nat) (z t : Nat) (h : t < D.length) : cE D z (t + 1) = cE D z t + (if ordI (D.getD t 0) = ordI z then 1 else 0) := by
  unfold cE
  rw [List.take_succ_eq_append_getElem h, cntP_snoc]
  have e : D.getD t 0 = D[t] := by rw [List.getD_eq_getElem?_getD, List.getElem?_eq_getElem h]; rfl
  rw [e]
  simp

theorem cL_le (D : List Nat) (z t : Nat) : cL D z t ≤ t := Nat.le_trans (List.length_filter_le _ _) (by rw [List.length_take]; omega)
theorem cE_le (D : List Nat) (z t : Nat) : cE D z t ≤ t := Nat.le_trans (List.length_filter_le _ _) (by rw [List.length_take]; omega)

theorem cLE (D : List Nat) (z t : Nat) : cL D z t + cE D z t = cntP (fun y => decide (ordI y ≤ ordI z)) (D.take t) := by
  unfold cL cE
  induction D.take t with
  | nil => rfl
  | cons a r ih =>
    rw [cntP_cons, cntP_cons, cntP_cons, ← ih]
    rcases Int.lt_trichotomy (ordI a) (ordI z) with h | h | h
    · have k1 : ¬ ordI a = ordI z := by omega
      have k2 : ordI a ≤ ordI z := by omega
      simp only [h, k1, k2, decide_true, decide_false, if_true, Bool.false_eq_true, if_false]
      omega
    · simp only [h, decide_true, Int.lt_irrefl, decide_false, if_true, Bool.false_eq_true, if_false, Int.le_refl]
      omega
    · have k0 : ¬ ordI a < ordI z := by omega
      have k1 : ¬ ordI a = ordI z := by omega
      have k2 : ¬ ordI a ≤ ordI z := by omega
      simp only [k0, k1, k2, decide_false, Bool.false_eq_true, if_false]
      omega

/-- the value at a place has the rank -/
def hasRank (D : List Nat) (R t : Nat) : Prop := cL D (D.getD t 0) D.length < R ∧ R ≤ cL D (D.getD t 0) D.length + cE D (D.getD t 0) D.length

theorem some_rank (D : List Nat) (R : Nat) (h1 : 1 ≤ R) (h2 : R ≤ D.length) : ∃ t, t < D.length ∧ hasRank D R t := by
  obtain ⟨v, hv, k1, k2⟩ := exists_rank D R h1 h2
  obtain ⟨t, ht, rfl⟩ := List.mem_iff_getElem.1 hv
  refine ⟨t, ht, ?_⟩
  have e : D.getD t 0 = D[t] := by rw [List.getD_eq_getElem?_getD, List.getElem?_eq_getElem ht]; rfl
  unfold hasRank
  rw [e, cLE, List.take_length]
  unfold cL
  rw [List.take_length]
  exact ⟨k1, k2⟩

theorem rank_at (D : List Nat) (hD : ∀ x ∈ D, isNum x) (R t : Nat) (ht : t < D.length) (h : hasRank D R t) : rankOf (fun k => (D.map bucketN).count k) (ksOf (D.map bucketN)) R = bucketN (D.getD t 0) := by
  have e : D.getD t 0 = D[t] := by rw [List.getD_eq_getElem?_getD, List.getElem?_eq_getElem ht]; rfl
  unfold hasRank cL cE at h
  rw [List.take_length] at h
  rw [e] at h ⊢
  exact rank_of_value D hD D[t] R (List.getElem_mem ht) h.1 h.2

end Go.Proofs.YtgekdmjneogdoaaGreatDoor
