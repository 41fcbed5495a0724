import Derived.Test.YtgjhjfldocapjaaGreatDoorHAk1
import Derived.Test.YtgjhjfldocapjaaGreatDoorHChU3
import Derived.Test.YtgjhjfldocapjaaGreatDoorHMq4
import Derived.Test.YtgjhjfldocapjaaGreatDoorHMt1
import Derived.Deep.RegionHeld3
namespace Go.Proofs.YtgjhjfldocapjaaGreatDoor
open Go.RowKit

/-! numbers in their order, off their bits -/
def ordI (v : Nat) : Int := if 9223372036854775808 ≤ v then -((v % 9223372036854775808 : Nat) : Int) else ((v % 9223372036854775808 : Nat) : Int)

def isNum (v : Nat) : Prop := v < 18446744073709551616 ∧ v % 9223372036854775808 ≤ 9218868437227405312

/-- a rung's magnitude, in units of the least one -/
def magR (r : Nat) : Nat := if r < 4503599627370496 then r else (4503599627370496 + r % 4503599627370496) * 2 ^ (r / 4503599627370496 - 1)

theorem magR_lt {r s : Nat} (h : r < s) : magR r < magR s := by
  have e1 : r = 4503599627370496 * (r / 4503599627370496) + r % 4503599627370496 := (Nat.div_add_mod _ _).symm
  have e2 : s = 4503599627370496 * (s / 4503599627370496) + s % 4503599627370496 := (Nat.div_add_mod _ _).symm
  have f1 : r % 4503599627370496 < 4503599627370496 := Nat.mod_lt _ (by omega)
  have f2 : s % 4503599627370496 < 4503599627370496 := Nat.mod_lt _ (by omega)
  unfold magR
  generalize hq : r / 4503599627370496 = q at *
  generalize hf : r % 4503599627370496 = f at *
  generalize hp : s / 4503599627370496 = p at *
  generalize hg : s % 4503599627370496 = g at *
  by_cases c1 : r < 4503599627370496
  · by_cases c2 : s < 4503599627370496
    · rw [if_pos c1, if_pos c2]; exact h
    · rw [if_pos c1, if_neg c2]
      have : 1 ≤ 2 ^ (p - 1) := Nat.one_le_two_pow
      have h2 : 4503599627370496 * 1 ≤ (4503599627370496 + g) * 2 ^ (p - 1) := Nat.mul_le_mul (by omega) this
      omega
  · have c2 : ¬ s < 4503599627370496 := by omega
    rw [if_neg c1, if_neg c2]
    have hq1 : 1 ≤ q := by omega
    have hpq : q ≤ p := by omega
    rcases Nat.lt_or_ge q p with hlt | hge
    · have k1 : (4503599627370496 + f) * 2 ^ (q - 1) < (4503599627370496 + 4503599627370496) * 2 ^ (q - 1) := Nat.mul_lt_mul_of_pos_right (by omega) (Nat.two_pow_pos _)
      have k2 : (4503599627370496 + 4503599627370496) * 2 ^ (q - 1) = 4503599627370496 * 2 ^ q := by
        have : 2 ^ q = 2 * 2 ^ (q - 1) := by
          conv => lhs; rw [show q = (q - 1) + 1 by omega, Nat.pow_succ, Nat.mul_comm]
        rw [this]; omega
      have k3 : 4503599627370496 * 2 ^ q ≤ (4503599627370496 + g) * 2 ^ (p - 1) := Nat.mul_le_mul (by omega) (Nat.pow_le_pow_right (by omega) (by omega))
      omega
    · obtain rfl : q = p := by omega
      exact Nat.mul_lt_mul_of_pos_right (by omega) (Nat.two_pow_pos _)

theorem magR_cmp (r s : Nat) : (magR r < magR s ↔ r < s) ∧ (magR r = magR s ↔ r = s) := by
  rcases Nat.lt_trichotomy r s with h | h | h
  · have := magR_lt h
    omega
  · subst h; omega
  · have := magR_lt h
    omega

theorem cmp_lt {a b : Int} (h : a < b) : compare a b = .lt := by
  rw [Int.compare_eq_lt]; exact h
theorem cmp_gt {a b : Int} (h : b < a) : compare a b = .gt := by
  rw [Int.compare_eq_gt]; exact h
theorem cmp_eq {a b : Int} (h : a = b) : compare a b = .eq := by
  rw [Int.compare_eq_eq]; exact h

theorem cmp_same {a b c d : Int} (h1 : a < b ↔ c < d) (h2 : a = b ↔ c = d) : compare a b = compare c d := by
  rcases Int.lt_trichotomy a b with h | h | h
  · rw [cmp_lt h, cmp_lt (h1.1 h)]
  · rw [cmp_eq h, cmp_eq (h2.1 h)]
  · have n1 : ¬ c < d := fun k => by have := h1.2 k; omega
    have n2 : ¬ c = d := fun k => by have := h2.2 k; omega
    rw [cmp_gt h, cmp_gt (by omega)]

def sgI (s : Bool) (x : Nat) : Int := if s then -(x : Int) else (x : Int)

theorem sg_mul (s t : Bool) (x y c : Nat) (hc : 0 < c) : compare (sgI s x) (sgI t y) = compare (sgI s (x * c)) (sgI t (y * c)) := by
  have key : ∀ u v : Int, (u < v ↔ u * (c : Int) < v * (c : Int)) ∧ (u = v ↔ u * (c : Int) = v * (c : Int)) := by
    intro u v
    have hc' : (0 : Int) < c := by omega
    rcases Int.lt_trichotomy u v with h | h | h
    · have := Int.mul_lt_mul_of_pos_right h hc'
      omega
    · subst h; omega
    · have := Int.mul_lt_mul_of_pos_right h hc'
      omega
  have e1 : sgI s (x * c) = sgI s x * (c : Int) := by
    unfold sgI; split
    · rw [Int.natCast_mul, Int.neg_mul]
    · rw [Int.natCast_mul]
  have e2 : sgI t (y * c) = sgI t y * (c : Int) := by
    unfold sgI; split
    · rw [Int.natCast_mul, Int.neg_mul]
    · rw [Int.natCast_mul]
  rw [e1, e2]
  exact cmp_same (key _ _).1 (key _ _).2

theorem order_num (s t : Bool) (m n e k : Nat) (L : Int) : (Ieee.Datum.number s m (L + e)).order (Ieee.Datum.number t n (L + k)) = some (compare (sgI s (m * 2 ^ e)) (sgI t (n * 2 ^ k))) := by
  show some (compare (Ieee.signed s m ((L + e) - min (L + e) (L + k)).toNat) (Ieee.signed t n ((L + k) - min (L + e) (L + k)).toNat)) = _
  have h1 : ((L + (e : Int)) - min (L + e) (L + k)).toNat = e - min e k := by omega
  have h2 : ((L + (k : Int)) - min (L + e) (L + k)).toNat = k - min e k := by omega
  rw [h1, h2]
  have hs : ∀ (b : Bool) (x u : Nat), Ieee.signed b x u = sgI b (x * 2 ^ u) := by
    intro b x u
    unfold Ieee.signed sgI
    rw [Nat.shiftLeft_eq]
  rw [hs, hs, sg_mul s t _ _ (2 ^ min e k) (Nat.two_pow_pos _)]
  have h3 : m * 2 ^ (e - min e k) * 2 ^ min e k = m * 2 ^ e := by
    rw [Nat.mul_assoc, ← Nat.pow_add]; congr 2; omega
  have h4 : n * 2 ^ (k - min e k) * 2 ^ min e k = n * 2 ^ k := by
    rw [Nat.mul_assoc, ← Nat.pow_add]; congr 2; omega
  rw [h3, h4]

theorem neg_bit (v : Nat) (h : v < 18446744073709551616) : (v / 9223372036854775808 % 2 == 1) = decide (9223372036854775808 ≤ v) := by
  by_cases c : 9223372036854775808 ≤ v
  · have : v / 9223372036854775808 = 1 := by omega
    simp [this, c]
  · have : v / 9223372036854775808 = 0 := by omega
    simp [this, c]

theorem read_num (v : Nat) (h : v < 18446744073709551616) (hf : v % 9223372036854775808 < 9218868437227405312) :
    ∃ m e : Nat, FloatKind.f64.format.read v = .number (decide (9223372036854775808 ≤ v)) m ((-1074 : Int) + e) ∧ m * 2 ^ e = magR (v % 9223372036854775808) := by
  have hb : Ieee.double.binade = 4503599627370496 := by decide
  have hi : Ieee.double.infRung = 9218868437227405312 := by decide
  have hw : Ieee.double.signWeight = 9223372036854775808 := by decide
  have hL : Ieee.double.leastPlace = -1074 := by decide
  show ∃ m e : Nat, Ieee.double.read v = _ ∧ _
  unfold Ieee.Format.read
  simp only [hb, hi, hw, hL, neg_bit v h]
  by_cases c : v % 9223372036854775808 < 4503599627370496
  · refine ⟨v % 9223372036854775808, 0, ?_, ?_⟩
    · rw [if_pos c]; simp
    · unfold magR; rw [if_pos c]; simp
  · refine ⟨4503599627370496 + v % 9223372036854775808 % 4503599627370496, v % 9223372036854775808 / 4503599627370496 - 1, ?_, ?_⟩
    · rw [if_neg c, if_pos hf]
    · unfold magR; rw [if_neg c]

theorem read_inf (v : Nat) (h : v < 18446744073709551616) (hf : v % 9223372036854775808 = 9218868437227405312) :
    FloatKind.f64.format.read v = .infinity (decide (9223372036854775808 ≤ v)) := by
  have hb : Ieee.double.binade = 4503599627370496 := by decide
  have hi : Ieee.double.infRung = 9218868437227405312 := by decide
  have hw : Ieee.double.signWeight = 9223372036854775808 := by decide
  show Ieee.double.read v = _
  unfold Ieee.Format.read
  simp only [hb, hi, hw, neg_bit v h, hf]
  rfl

theorem ordI_sg (v : Nat) : ordI v = sgI (decide (9223372036854775808 ≤ v)) (v % 9223372036854775808) := by
  unfold ordI sgI
  by_cases c : 9223372036854775808 ≤ v <;> simp [c]

theorem sg_mono (s t : Bool) (x y : Nat) : compare (sgI s (magR x)) (sgI t (magR y)) = compare (sgI s x) (sgI t y) := by
  have h1 := magR_cmp x y
  have h2 := magR_cmp y x
  have z : magR 0 = 0 := by decide
  have h3 := magR_cmp 0 x
  have h4 := magR_cmp 0 y
  rw [z] at h3 h4
  unfold sgI
  cases s <;> cases t <;> apply cmp_same <;> simp <;> omega

/-- float64s are compared as their bits' order says -/
theorem order_eq (a b : Nat) (ha : isNum a) (hb : isNum b) : FloatKind.f64.format.order a b = some (compare (ordI a) (ordI b)) := by
  rw [ordI_sg, ordI_sg]
  show (FloatKind.f64.format.read a).order (FloatKind.f64.format.read b) = _
  have ra := ha.2
  have rb := hb.2
  rcases Nat.lt_or_eq_of_le ra with ca | ca
  · obtain ⟨m, e, h1, h2⟩ := read_num a ha.1 ca
    rcases Nat.lt_or_eq_of_le rb with cb | cb
    · obtain ⟨n, k, h3, h4⟩ := read_num b hb.1 cb
      rw [h1, h3, order_num, h2, h4, sg_mono]
    · rw [h1, read_inf b hb.1 cb, cb]
      show some (if decide (9223372036854775808 ≤ b) then Ordering.gt else .lt) = _
      generalize a % 9223372036854775808 = x at *
      cases decide (9223372036854775808 ≤ b) <;> cases decide (9223372036854775808 ≤ a)
      · rw [cmp_lt (by simp [sgI]; omega)]; rfl
      · rw [cmp_lt (by simp [sgI]; omega)]; rfl
      · rw [cmp_gt (by simp [sgI]; omega)]; rfl
      · rw [cmp_gt (by simp [sgI]; omega)]; rfl
  · rcases Nat.lt_or_eq_of_le rb with cb | cb
    · obtain ⟨n, k, h3, h4⟩ := read_num b hb.1 cb
      rw [h3, read_inf a ha.1 ca, ca]
      show some (if decide (9223372036854775808 ≤ a) then Ordering.lt else .gt) = _
      generalize b % 9223372036854775808 = x at *
      cases decide (9223372036854775808 ≤ b) <;> cases decide (9223372036854775808 ≤ a)
      · rw [cmp_gt (by simp [sgI]; omega)]; rfl
      · rw [cmp_lt (by simp [sgI]; omega)]; rfl
      · rw [cmp_gt (by simp [sgI]; omega)]; rfl
      · rw [cmp_lt (by simp [sgI]; omega)]; rfl
    · rw [read_inf a ha.1 ca, read_inf b hb.1 cb, ca, cb]
      show some (compare (decide (9223372036854775808 ≤ b)).toNat (decide (9223372036854775808 ≤ a)).toNat) = _
      cases decide (9223372036854775808 ≤ b) <;> cases decide (9223372036854775808 ≤ a)
      · rw [cmp_eq rfl]; rfl
      · rw [cmp_lt (by simp [sgI])]; rfl
      · rw [cmp_gt (by simp [sgI])]; rfl
      · rw [cmp_eq rfl]; rfl

/-- no number: not the same as itself -/
theorem order_nan (a : Nat) (h : a < 18446744073709551616) (hn : 9218868437227405312 < a % 9223372036854775808) : FloatKind.f64.format.order a a = none := by
  have hb : Ieee.double.binade = 4503599627370496 := by decide
  have hi : Ieee.double.infRung = 9218868437227405312 := by decide
  have hw : Ieee.double.signWeight = 9223372036854775808 := by decide
  have hr : FloatKind.f64.format.read a = .nan (decide (9223372036854775808 ≤ a)) (a % 9223372036854775808 - 9218868437227405312) := by
    show Ieee.double.read a = _
    unfold Ieee.Format.read
    simp only [hb, hi, hw, neg_bit a h]
    rw [if_neg (by omega), if_neg (by omega), if_neg (by omega)]
  show (FloatKind.f64.format.read a).order (FloatKind.f64.format.read a) = _
  rw [hr]
  rfl

theorem num_iff (a : Nat) (h : a < 18446744073709551616) : (FloatKind.f64.format.order a a != some .eq) = decide (9218868437227405312 < a % 9223372036854775808) := by
  by_cases c : 9218868437227405312 < a % 9223372036854775808
  · rw [order_nan a h c]; simp [c]
  · rw [order_eq a a ⟨h, by omega⟩ ⟨h, by omega⟩, cmp_eq rfl]; simp [c]
end Go.Proofs.YtgjhjfldocapjaaGreatDoor

namespace Go.Proofs.YtgjhjfldocapjaaGreatDoor
open Go.RowKit Go.Shelf Go.Maps Go.Sort Go.Lib

/-! buckets in their order -/
def isB (x : Nat) : Prop := isNum x ∧ x ≠ 9223372036854775808

theorem ordI_inj {x y : Nat} (hx : isB x) (hy : isB y) (h : ordI x = ordI y) : x = y := by
  obtain ⟨⟨h1, _⟩, h2⟩ := hx
  obtain ⟨⟨h3, _⟩, h4⟩ := hy
  unfold ordI at h
  split at h <;> split at h <;> omega

theorem cmpV_ord (x y : Nat) (hx : isNum x) (hy : isNum y) : cmpV x y = if ordI x < ordI y then -1 else if ordI y < ordI x then 1 else 0 := by
  unfold cmpV
  rw [order_eq x y hx hy]
  rcases Int.lt_trichotomy (ordI x) (ordI y) with h | h | h
  · rw [cmp_lt h]; simp [h]
  · have n1 : ¬ ordI x < ordI y := by omega
    have n2 : ¬ ordI y < ordI x := by omega
    rw [cmp_eq h]; simp [n1, n2]
  · have n1 : ¬ ordI x < ordI y := by omega
    rw [cmp_gt h]; simp [n1, h]

abbrev Bkt := { x : Nat // isB x }

theorem isB_zero : isB 0 := ⟨⟨by omega, by omega⟩, by omega⟩

theorem sorted_eq : ∀ (l m : List Nat), l.Pairwise (fun x y => ordI x < ordI y) → m.Pairwise (fun x y => ordI x < ordI y) → (∀ x, x ∈ l ↔ x ∈ m) → l = m
  | [], [], _, _, _ => rfl
  | [], y :: m, _, _, h => by have := (h y).2 (by simp); cases this
  | x :: l, [], _, _, h => by have := (h x).1 (by simp); cases this
  | x :: l, y :: m, hl, hm, h => by
    obtain ⟨l1, l2⟩ := List.pairwise_cons.1 hl
    obtain ⟨m1, m2⟩ := List.pairwise_cons.1 hm
    have hxy : x = y := by
      rcases List.mem_cons.1 ((h x).1 (by simp)) with e | e
      · exact e
      · rcases List.mem_cons.1 ((h y).2 (by simp)) with e' | e'
        · exact e'.symm
        · have a1 := m1 x e
          have a2 := l1 y e'
          omega
    subst hxy
    have : l = m := sorted_eq l m l2 m2 (fun z => by
      constructor
      · intro hz
        rcases List.mem_cons.1 ((h z).1 (by simp [hz])) with e | e
        · subst e
          have := l1 z hz
          omega
        · exact e
      · intro hz
        rcases List.mem_cons.1 ((h z).2 (by simp [hz])) with e | e
        · subst e
          have := m1 z hz
          omega
        · exact e)
    rw [this]

/-- a bag's buckets, each once, in order -/
def ksOf (bag : List Nat) : List Nat := bag.eraseDups.mergeSort fun x y => decide (ordI x ≤ ordI y)

theorem mem_ksOf (bag : List Nat) (x : Nat) : x ∈ ksOf bag ↔ x ∈ bag := by
  unfold ksOf
  rw [List.mem_mergeSort, List.mem_eraseDups]

theorem strict_of {l : List Nat} (h : l.Pairwise (fun x y => ordI x ≤ ordI y)) (hn : l.Nodup) (hB : ∀ x ∈ l, isB x) : l.Pairwise (fun x y => ordI x < ordI y) := by
  induction l with
  | nil => exact List.Pairwise.nil
  | cons a r ih =>
    obtain ⟨h1, h2⟩ := List.pairwise_cons.1 h
    obtain ⟨n1, n2⟩ := List.nodup_cons.1 hn
    refine List.pairwise_cons.2 ⟨fun y hy => ?_, ih h2 n2 (fun x hx => hB x (by simp [hx]))⟩
    have k1 := h1 y hy
    have k2 : ordI a ≠ ordI y := fun e => n1 (ordI_inj (hB a (by simp)) (hB y (by simp [hy])) e ▸ hy)
    omega

theorem nodup_erase : ∀ (n : Nat) (l : List Nat), l.length ≤ n → l.eraseDups.Nodup
  | 0, l, h => by
    have : l = [] := List.eq_nil_of_length_eq_zero (by omega)
    subst this
    simp
  | n + 1, [], _ => by simp
  | n + 1, a :: l, h => by
    rw [List.eraseDups_cons, List.nodup_cons]
    refine ⟨?_, nodup_erase n _ ?_⟩
    · rw [List.mem_eraseDups]
      simp
    · have := List.length_filter_le (fun b => !b == a) l
      simp only [List.length_cons] at h
      omega

theorem ksOf_sorted (bag : List Nat) (hB : ∀ x ∈ bag, isB x) : (ksOf bag).Pairwise (fun x y => ordI x < ordI y) := by
  have h1 := List.pairwise_mergeSort (le := fun x y => decide (ordI x ≤ ordI y)) (fun a b c h1 h2 => by simp at *; omega) (fun a b => by simp; omega) bag.eraseDups
  refine strict_of (h1.imp (fun h => by simpa using h)) ?_ (fun x hx => hB x ((mem_ksOf bag x).1 hx))
  exact (List.mergeSort_perm _ _).nodup_iff.2 (nodup_erase _ bag (Nat.le_refl _))

theorem lt_cf (x y : Bkt) : ltOf (fun (x y : Bkt) => cmpV x.1 y.1) x y = decide (ordI x.1 < ordI y.1) := by
  show decide (cmpV x.1 y.1 < 0) = _
  rw [cmpV_ord x.1 y.1 x.2.1 y.2.1]
  by_cases h : ordI x.1 < ordI y.1
  · simp [h]
  · by_cases h2 : ordI y.1 < ordI x.1 <;> simp [h, h2]

theorem swo_cf : SWO (ltOf (fun (x y : Bkt) => cmpV x.1 y.1)) where
  irrefl x := by rw [lt_cf]; simp
  trans x y z h1 h2 := by rw [lt_cf] at *; simp at *; omega
  ntrans x y z h1 h2 := by rw [lt_cf] at *; simp at *; omega

theorem isB_num {x : Nat} (h : isB x) : (FloatKind.f64.format.order x x != some .eq) = false := by
  rw [num_iff x h.1.1]
  have := h.1.2
  simp; omega

theorem lift_bag : ∀ (bag : List Nat), (∀ x ∈ bag, isB x) → ∃ l : List Bkt, l.map (·.1) = bag
  | [], _ => ⟨[], rfl⟩
  | x :: r, h => by
    obtain ⟨l, hl⟩ := lift_bag r (fun y hy => h y (by simp [hy]))
    exact ⟨⟨x, h x (by simp)⟩ :: l, by simp [hl]⟩

/-- what SortedFunc makes of a tally's keys: the bag's buckets, each once, in order -/
theorem sorts_bag (bag : List Nat) (hB : ∀ x ∈ bag, isB x) (hl : bag.length < 4000000000000) : SortsTo bag (ksOf bag) := by
  intro w b hT
  obtain ⟨xs, hxs⟩ := lift_bag bag hB
  have hxl : xs.length = bag.length := by rw [← hxs]; simp
  have hI : Inhabited Bkt := ⟨⟨0, isB_zero⟩⟩
  have h0 := sortedF (α := Bkt) (fun x => x.1) (fun x y => cmpV x.1 y.1) swo_cf (fun x y h1 h2 => by
      rw [lt_cf] at h1 h2
      simp at h1 h2
      exact Subtype.ext (ordI_inj x.2 y.2 (by omega))) (fun x y w => compare_any x.1 y.1 w (isB_num x.2) (isB_num y.2)) w.heap.size b xs
    (w.alloc (.cells #[.map (some b)] 91)) (by omega) (by simp) (World.cell?_alloc_at _ _ _ _ rfl) (by rw [hxs]; exact hT.block (Below.heap_alloc w _ b hT.lt))
  refine h0.mono ?_
  rintro e W' ⟨v, ys, rfl, ⟨hnd, hmem⟩, hrow, hb⟩
  rw [World.size_alloc] at hrow hb
  have hle : (fun (x y : Bkt) => !(ltOf (fun (x y : Bkt) => cmpV x.1 y.1)) y x) = fun x y => decide (ordI x.1 ≤ ordI y.1) := by
    funext x y
    rw [lt_cf]
    by_cases h : ordI y.1 < ordI x.1
    · have : ¬ ordI x.1 ≤ ordI y.1 := by omega
      simp [h, this]
    · have : ordI x.1 ≤ ordI y.1 := by omega
      simp [h, this]
  rw [hle] at hrow
  have hks : (ys.mergeSort fun x y => decide (ordI x.1 ≤ ordI y.1)).map (·.1) = ksOf bag := by
    apply sorted_eq
    · have h1 := List.pairwise_mergeSort (le := fun (x y : Bkt) => decide (ordI x.1 ≤ ordI y.1)) (fun a b c h1 h2 => by simp at *; omega) (fun a b => by simp; omega) ys
      have h2 : ((ys.mergeSort fun x y => decide (ordI x.1 ≤ ordI y.1)).map (·.1)).Pairwise (fun x y => ordI x ≤ ordI y) := List.pairwise_map.2 (h1.imp (fun h => by simpa using h))
      refine strict_of h2 ?_ (fun x hx => ?_)
      · exact ((List.mergeSort_perm ys _).map (·.1)).nodup_iff.2 hnd
      · obtain ⟨a, _, rfl⟩ := List.mem_map.1 hx
        exact a.2
    · exact ksOf_sorted bag hB
    · intro x
      rw [mem_ksOf, ← hxs, ← hmem x]
      constructor
      · intro hx
        obtain ⟨a, ha, rfl⟩ := List.mem_map.1 hx
        exact List.mem_map.2 ⟨a, List.mem_mergeSort.1 ha, rfl⟩
      · intro hx
        obtain ⟨a, ha, rfl⟩ := List.mem_map.1 hx
        exact List.mem_map.2 ⟨a, List.mem_mergeSort.2 ha, rfl⟩
  have hlen : ys.length = (ksOf bag).length := by rw [← hks]; simp
  refine ⟨v, rfl, ?_, hb⟩
  have hmap : (ys.mergeSort fun x y => decide (ordI x.1 ≤ ordI y.1)).map (encV fun (x : Bkt) => x.1) = (ksOf bag).map encK := by
    rw [← hks, List.map_map]
    rfl
  rw [hmap, hlen] at hrow
  exact hrow
end Go.Proofs.YtgjhjfldocapjaaGreatDoor

namespace Go.Proofs.YtgjhjfldocapjaaGreatDoor
open Go.RowKit

/-! samples that come evenly -/
def evL (t d : Int) (v k : Nat) : List Smp := (List.range k).map fun (i : Nat) => (wI (t + (i : Int) * d), v)

theorem evL_length (t d : Int) (v k : Nat) : (evL t d v k).length = k := by simp [evL]

theorem evL_snoc (t d : Int) (v k : Nat) : evL t d v (k + 1) = evL t d v k ++ [(wI (t + (k : Int) * d), v)] := by
  unfold evL
  rw [List.range_succ, List.map_append]
  rfl

theorem evL_ok (t d : Int) (v k : Nat) (hv : v < 18446744073709551616) : ∀ x ∈ evL t d v k, SOk x := by
  intro x hx
  obtain ⟨i, _, rfl⟩ := List.mem_map.1 hx
  exact ⟨by unfold I64 wI; omega, hv⟩

theorem evL_two (t d : Int) (v n : Nat) : evL t d v (n + 2) = (wI t, v) :: (wI (t + d), v) :: (List.range n).map fun (i : Nat) => (wI (wI (t + d) + (i + 1 : Int) * d), v) := by
  unfold evL
  rw [show n + 2 = 2 + n by omega, List.range_add, List.map_append]
  have h2 : (List.range 2).map (fun (i : Nat) => (wI (t + (i : Int) * d), v)) = [(wI t, v), (wI (t + d), v)] := by
    show [(wI (t + ((0 : Nat) : Int) * d), v), (wI (t + ((1 : Nat) : Int) * d), v)] = _
    simp
  rw [h2, List.map_map]
  have : (List.range n).map ((fun (i : Nat) => (wI (t + (i : Int) * d), v)) ∘ fun x => 2 + x) = (List.range n).map fun (i : Nat) => (wI (wI (t + d) + (i + 1 : Int) * d), v) := by
    apply List.map_congr_left
    intro i _
    simp only [Function.comp]
    congr 1
    have : ((2 + i : Nat) : Int) * d = d + (i + 1 : Int) * d := by
      rw [show ((2 + i : Nat) : Int) = 1 + (i + 1 : Int) by omega, Int.add_mul, Int.one_mul]
    rw [this]
    unfold wI; omega
  rw [this]
  rfl

theorem even_bits (t d : Int) (v n : Nat) (hd : I64 d) : (packN (evL t d v (n + 2))).length = (packN (evL t d v 2)).length + 2 * n := by
  have hr : ∀ m, (packN (evL t d v (m + 2))).length = 16 + 64 + 64 + (wrN ⟨wI t, v, 0, 0, 0⟩ (wI (t + d), v)).1.length + 2 * m := by
    intro m
    rw [evL_two, packN, restN]
    simp only [List.length_append, bitsN_length]
    have hs : (wrN ⟨wI t, v, 0, 0, 0⟩ (wI (t + d), v)).2.step = d := by
      show wI (wI (t + d) - wI t) = d
      unfold wI I64 at *; omega
    rw [restN_even v d hd m (wrN ⟨wI t, v, 0, 0, 0⟩ (wI (t + d), v)).2 (wI (t + d)) rfl hs rfl]
    omega
  rw [hr n, hr 0]
  omega

theorem even_small (t d : Int) (v n : Nat) (hd : I64 d) : (chunkN (evL t d v (n + 2))).length ≤ (chunkN (evL t d v 2)).length + (2 * n + 7) / 8 := by
  rw [chunkN_length, chunkN_length, even_bits t d v n hd]
  omega

/-! pick -/
def pickN (c : Int) (n : Nat) : Nat := (if c < 0 then -(c + 1) else c).toNat % n

theorem pickN_lt (c : Int) (n : Nat) (h : 0 < n) : pickN c n < n := Nat.mod_lt _ h

set_option maxRecDepth 20000 in
set_option maxHeartbeats 400000 in
theorem pick_any (c : Int) (n : Nat) (w : World) (hc1 : -9223372036854775808 ≤ c) (hc2 : c ≤ 9223372036854775807) (hn : 1 ≤ n) (hn2 : n ≤ 1000000) :
    Calls Tryz.prog 20 #[.int .i64 c, .int .i64 n] w fun e w' => e = .returned (.int .i64 (pickN c n)) ∧ w' = w := by
  have hp : pickN c n = (if c < 0 then -(c + 1) else c).toNat % n := rfl
  rcases Int.lt_or_le c 0 with h | h
  · obtain ⟨m, hm⟩ : ∃ m : Nat, -(c + 1) = (m : Int) := ⟨(-(c + 1)).toNat, by omega⟩
    rw [if_pos h, hm, Int.toNat_natCast] at hp
    have hlt : m % n < n := Nat.mod_lt _ (by omega)
    have hq : (m : Int) % (n : Int) = ((m % n : Nat) : Int) := (Int.natCast_emod m n).symm
    have HQ := hide (And.intro hp hq)
    have hm2 : m ≤ 9223372036854775807 := by omega
    obtain rfl : c = -(m : Int) - 1 := by omega
    clear hp hq hm
    go_enter Tryz.func20, Tryz.ntmps20
    go_wp2_with fail
    go_ret
    refine ⟨?_, rfl⟩
    apply retI
    rw [(unhide HQ).1]
    have h2 := (unhide HQ).2
    have h3 : wrap64 (-(wrap64 (-(m : Int) - 1 + 1))) = (m : Int) := by unfold wrap64; omega
    have h4 : -(-(m : Int) - 1 + 1) = (m : Int) := by omega
    first
      | (rw [h3, h2]; done)
      | (rw [h4, h2]; done)
      | (rw [← h2]; done)
      | (rw [← h2]; congr 1; omega)
  · obtain ⟨m, rfl⟩ : ∃ m : Nat, c = (m : Int) := ⟨c.toNat, by omega⟩
    rw [if_neg (by omega), Int.toNat_natCast] at hp
    have hlt : m % n < n := Nat.mod_lt _ (by omega)
    have hq : (m : Int) % (n : Int) = ((m % n : Nat) : Int) := (Int.natCast_emod m n).symm
    have HQ := hide (And.intro hp hq)
    clear hp hq
    go_enter Tryz.func20, Tryz.ntmps20
    go_wp2_with fail
    go_ret
    refine ⟨?_, rfl⟩
    apply retI
    rw [(unhide HQ).1]
    have h2 := (unhide HQ).2
    rw [h2]

/-! same -/
set_option maxRecDepth 20000 in
set_option maxHeartbeats 800000 in
theorem same_yes (K : Nat → Prop) (v u : Value) (l : List Smp) (w : World) (hv : RdS K w v l) (hu : RdS K w u l) (hl : l.length ≤ 1000) :
    Calls Tryz.prog 24 #[v, u] w fun e w' => e = .returned (.bool true) ∧ ∃ n, w' = w.drewN n := by
  obtain ⟨ao, cv, rfl, hcv, hv⟩ := hv
  obtain ⟨bo, cu, rfl, hcu, hu⟩ := hu
  have HV := hide hv
  have HU := hide hu
  clear hv hu
  go_enter Tryz.func24, Tryz.ntmps24
  generalize hN : l.length = n at *
  go_wp2_with fail
  go_loopw [5] (fun i wr => ∃ j : Nat, j ≤ n ∧ i = .int .i64 j ∧ ∃ q, wr = w.drewN q) (fun i _ => n - (RowKit.intOf i).toNat)
  case atStart => exact ⟨0, by omega, rfl, 0, rfl⟩
  case round =>
    obtain ⟨j, hj, rfl, q, rfl⟩ := hrel
    by_cases hjn : j < n
    · obtain ⟨g, o, _, rfl, hc⟩ := unhide HV (by omega)
      obtain ⟨g', o', _, rfl, hc'⟩ := unhide HU (by omega)
      have e1 := (hc j hjn).1
      have e2 := (hc j hjn).2
      have e3 := (hc' j hjn).1
      have e4 := (hc' j hjn).2
      clear hc hc'
      generalize (l.getD j (0, 0)).1 = T at *
      generalize (l.getD j (0, 0)).2 = V at *
      have m2 : 2 * j = j * 2 := Nat.mul_comm 2 j
      rw [m2] at e1 e2 e3 e4
      have d1 : (w.drewN q).cell? ⟨g, o + j * 2, none⟩ = some (.int .i64 T) := e1
      have d2 : (w.drewN q).cell? ⟨g, o + j * 2 + 1, none⟩ = some (.int .u64 V) := e2
      have d3 : (w.drewN q).cell? ⟨g', o' + j * 2, none⟩ = some (.int .i64 T) := e3
      have d4 : (w.drewN q).cell? ⟨g', o' + j * 2 + 1, none⟩ = some (.int .u64 V) := e4
      clear m2 e1 e2 e3 e4
      generalize hwq : w.drewN q = wq at *
      have HW := hide hwq
      clear hwq
      go_wp2_with fail
      go_quiet (fail)
      go_wp2_with fail
      go_roundw
      case rel => exact ⟨j + 1, by omega, rfl, q + nq, by rw [← unhide HW]; unfold World.drewN; rw [Nat.add_assoc]⟩
      case measure => simp [RowKit.intOf]; omega
    · obtain rfl : j = n := by omega
      go_wp2_with fail
      go_ret
      exact ⟨rfl, _, rfl⟩
end Go.Proofs.YtgjhjfldocapjaaGreatDoor

namespace Go.Proofs.YtgjhjfldocapjaaGreatDoor
open Go.RowKit Go.Shelf Go.Maps

/-! ranks -/
def cntP (p : Nat → Bool) (l : List Nat) : Nat := (l.filter p).length

theorem cntP_cons (p : Nat → Bool) (x : Nat) (l : List Nat) : cntP p (x :: l) = (if p x then 1 else 0) + cntP p l := by
  unfold cntP
  rw [List.filter_cons]
  split <;> simp <;> omega

theorem sum_count (p : Nat → Bool) : ∀ (bag ks : List Nat), ks.Nodup → (∀ x ∈ bag, x ∈ ks) → ((ks.filter p).map fun k => bag.count k).sum = cntP p bag
  | [], ks, _, _ => by
    have : (ks.filter p).map (fun k => ([] : List Nat).count k) = (ks.filter p).map fun _ => 0 := by simp
    rw [this]
    induction ks.filter p with
    | nil => rfl
    | cons a r ih => simpa using ih
  | x :: bag, ks, hn, hs => by
    have ih := sum_count p bag ks hn (fun y hy => hs y (by simp [hy]))
    rw [cntP_cons, ← ih]
    have hx := hs x (by simp)
    have key : ∀ l : List Nat, l.Nodup → (l.map fun k => (x :: bag).count k).sum = (if x ∈ l then 1 else 0) + (l.map fun k => bag.count k).sum := by
      intro l hl
      induction l with
      | nil => simp
      | cons a r ihr =>
        obtain ⟨h1, h2⟩ := List.nodup_cons.1 hl
        rw [List.map_cons, List.sum_cons, List.map_cons, List.sum_cons, ihr h2, List.count_cons]
        by_cases e : x = a
        · subst e
          simp [h1]
          omega
        · have e2 : (x == a) = false := by simp [e]
          have e3 : (x ∈ a :: r) ↔ x ∈ r := by simp [e]
          simp only [e2, Bool.false_eq_true, if_false, Nat.add_zero]
          by_cases hr : x ∈ r
          · rw [if_pos hr, if_pos (e3.2 hr)]; omega
          · rw [if_neg hr, if_neg (fun k => hr (e3.1 k))]; omega
    rw [key _ (hn.filter p)]
    congr 1
    by_cases hp : p x = true
    · rw [if_pos hp, if_pos (List.mem_filter.2 ⟨hx, hp⟩)]
    · rw [if_neg hp, if_neg (fun k => hp (List.mem_filter.1 k).2)]

theorem nodup_of_strict {l : List Nat} (h : l.Pairwise (fun x y => ordI x < ordI y)) : l.Nodup := by
  refine List.Pairwise.imp ?_ h
  intro a b hab e
  subst e
  omega

theorem total_ks (bag : List Nat) (hB : ∀ x ∈ bag, isB x) : totalOf (fun k => bag.count k) (ksOf bag) = bag.length := by
  have h := sum_count (fun _ => true) bag (ksOf bag) (nodup_of_strict (ksOf_sorted bag hB)) (fun x hx => (mem_ksOf bag x).2 hx)
  have e1 : (ksOf bag).filter (fun _ => true) = ksOf bag := List.filter_eq_self.2 (fun _ _ => rfl)
  have e2 : cntP (fun _ => true) bag = bag.length := by
    unfold cntP
    rw [List.filter_eq_self.2 (fun _ _ => rfl)]
  rw [e1, e2] at h
  exact h

theorem rank_is (cnt : Nat → Nat) (b : Nat) : ∀ (ks : List Nat) (r : Nat), ks.Pairwise (fun x y => ordI x < ordI y) → b ∈ ks → ((ks.filter fun y => decide (ordI y < ordI b)).map cnt).sum < r → r ≤ ((ks.filter fun y => decide (ordI y < ordI b)).map cnt).sum + cnt b → rankOf cnt ks r = b
  | [], _, _, hb, _, _ => by cases hb
  | k :: ks, r, hs, hb, h1, h2 => by
    obtain ⟨s1, s2⟩ := List.pairwise_cons.1 hs
    by_cases e : b = k
    · subst e
      have e0 : (b :: ks).filter (fun y => decide (ordI y < ordI b)) = [] := by
        rw [List.filter_eq_nil_iff]
        intro y hy
        rcases List.mem_cons.1 hy with rfl | hy
        · simp
        · have := s1 y hy
          simp; omega
      rw [e0] at h2
      simp at h2
      rw [rankOf, if_pos h2]
    · have hb2 : b ∈ ks := by
        rcases List.mem_cons.1 hb with h | h
        · exact absurd h e
        · exact h
      have hkb := s1 b hb2
      have e0 : (k :: ks).filter (fun y => decide (ordI y < ordI b)) = k :: ks.filter (fun y => decide (ordI y < ordI b)) := by
        rw [List.filter_cons, if_pos (by simpa using hkb)]
      rw [e0, List.map_cons, List.sum_cons] at h1 h2
      rw [rankOf, if_neg (by omega)]
      exact rank_is cnt b ks (r - cnt k) s2 hb2 (by omega) (by omega)

/-- the bucket at a rank, by how many lie below it -/
theorem rank_bag (bag : List Nat) (hB : ∀ x ∈ bag, isB x) (b r : Nat) (hb : b ∈ bag) (h1 : cntP (fun y => decide (ordI y < ordI b)) bag < r) (h2 : r ≤ cntP (fun y => decide (ordI y ≤ ordI b)) bag) :
    rankOf (fun k => bag.count k) (ksOf bag) r = b := by
  have hs := ksOf_sorted bag hB
  have hsum := sum_count (fun y => decide (ordI y < ordI b)) bag (ksOf bag) (nodup_of_strict hs) (fun x hx => (mem_ksOf bag x).2 hx)
  refine rank_is _ b (ksOf bag) r hs ((mem_ksOf bag b).2 hb) (by rw [hsum]; exact h1) ?_
  rw [hsum]
  refine Nat.le_trans h2 ?_
  have : ∀ l : List Nat, (∀ x ∈ l, isB x) → cntP (fun y => decide (ordI y ≤ ordI b)) l ≤ cntP (fun y => decide (ordI y < ordI b)) l + l.count b := by
    intro l hl
    induction l with
    | nil => simp [cntP]
    | cons a r ih =>
      have ih2 := ih (fun x hx => hl x (by simp [hx]))
      rw [cntP_cons, cntP_cons, List.count_cons]
      by_cases k1 : ordI a < ordI b
      · have k2 : ordI a ≤ ordI b := by omega
        simp only [k1, k2, decide_true, if_true]
        omega
      · by_cases k2 : ordI a ≤ ordI b
        · have e : a = b := ordI_inj (hl a (by simp)) (hB b hb) (by omega)
          simp [e]
          omega
        · simp only [k1, k2, decide_false, Bool.false_eq_true, if_false]
          omega
  exact this bag hB
end Go.Proofs.YtgjhjfldocapjaaGreatDoor

namespace Go.Proofs.YtgjhjfldocapjaaGreatDoor
open Go.RowKit Go.Shelf Go.Maps

/-! buckets keep the order -/
def rB (r : Nat) : Nat := if r < 4503599627370496 then 0 else r / 35184372088832 * 35184372088832

theorem small_iff (v : Nat) (h : isNum v) : smallB v = decide (v % 9223372036854775808 < 4503599627370496) := by
  obtain ⟨h1, h2⟩ := h
  unfold smallB
  have hr : v % 9223372036854775808 < 9223372036854775808 := Nat.mod_lt _ (by omega)
  generalize v % 9223372036854775808 = r at *
  rw [order_eq r 4503599627370496 ⟨by omega, by rw [Nat.mod_eq_of_lt hr]; exact h2⟩ ⟨by omega, by omega⟩]
  have e1 : ordI r = (r : Int) := by
    unfold ordI
    rw [if_neg (by omega), Nat.mod_eq_of_lt hr]
  have e2 : ordI 4503599627370496 = 4503599627370496 := by decide
  rw [e1, e2]
  by_cases c : r < 4503599627370496
  · rw [cmp_lt (by omega)]; simp [c]
  · rcases Nat.lt_or_ge 4503599627370496 r with c2 | c2
    · rw [cmp_gt (by omega)]; simp [c]
    · rw [cmp_eq (by omega)]; simp [c]

theorem bucket_val (v : Nat) (h : isNum v) : bucketN v = if v % 9223372036854775808 < 4503599627370496 then 0 else v / 35184372088832 * 35184372088832 := by
  unfold bucketN
  rw [small_iff v h]
  simp

theorem bucket_ord (v : Nat) (h : isNum v) : ordI (bucketN v) = sgI (decide (9223372036854775808 ≤ v)) (rB (v % 9223372036854775808)) := by
  obtain ⟨h1, h2⟩ := h
  rw [bucket_val v ⟨h1, h2⟩]
  unfold ordI sgI rB
  by_cases c : v % 9223372036854775808 < 4503599627370496
  · rw [if_pos c, if_pos c]
    simp
  · rw [if_neg c, if_neg c]
    by_cases s : 9223372036854775808 ≤ v
    · simp only [s, decide_true, if_true]
      rw [if_pos (by omega)]
      omega
    · simp only [s, decide_false, Bool.false_eq_true, if_false]
      rw [if_neg (by omega)]
      omega

theorem bucket_isB (v : Nat) (h : isNum v) : isB (bucketN v) := by
  obtain ⟨h1, h2⟩ := h
  rw [bucket_val v ⟨h1, h2⟩]
  unfold isB isNum
  split
  · omega
  · omega

theorem rB_mono {r s : Nat} (h : r ≤ s) : rB r ≤ rB s := by
  unfold rB
  split <;> split <;> omega

theorem rB_zero {r : Nat} (h : r = 0) : rB r = 0 := by subst h; rfl

theorem rB_sg (s t : Bool) {r q : Nat} (h : sgI s r ≤ sgI t q) : sgI s (rB r) ≤ sgI t (rB q) := by
  cases s
  · cases t
    · have h' : (r : Int) ≤ (q : Int) := h
      have := @rB_mono r q (by omega)
      show ((rB r : Nat) : Int) ≤ ((rB q : Nat) : Int)
      omega
    · have h' : (r : Int) ≤ -(q : Int) := h
      have z1 := @rB_zero r (by omega)
      have z2 := @rB_zero q (by omega)
      show ((rB r : Nat) : Int) ≤ -((rB q : Nat) : Int)
      omega
  · cases t
    · show -((rB r : Nat) : Int) ≤ ((rB q : Nat) : Int)
      omega
    · have h' : -(r : Int) ≤ -(q : Int) := h
      have := @rB_mono q r (by omega)
      show -((rB r : Nat) : Int) ≤ -((rB q : Nat) : Int)
      omega

theorem bucket_mono {x y : Nat} (hx : isNum x) (hy : isNum y) (h : ordI x ≤ ordI y) : ordI (bucketN x) ≤ ordI (bucketN y) := by
  rw [bucket_ord x hx, bucket_ord y hy]
  rw [ordI_sg, ordI_sg] at h
  exact rB_sg _ _ h

theorem cnt_le {p q : Nat → Bool} {l : List Nat} (h : ∀ x ∈ l, p x = true → q x = true) : cntP p l ≤ cntP q l := by
  induction l with
  | nil => simp [cntP]
  | cons a r ih =>
    have i2 := ih (fun x hx => h x (by simp [hx]))
    have i1 := h a (by simp)
    rw [cntP_cons, cntP_cons]
    by_cases hp : p a = true
    · rw [if_pos hp, if_pos (i1 hp)]; omega
    · rw [if_neg hp]; omega

theorem cnt_map (p : Nat → Bool) (f : Nat → Nat) (l : List Nat) : cntP p (l.map f) = cntP (fun x => p (f x)) l := by
  induction l with
  | nil => rfl
  | cons a r ih => rw [List.map_cons, cntP_cons, cntP_cons, ih]

/-- the value with the rank has the bucket at the rank -/
theorem rank_of_value (L : List Nat) (hL : ∀ x ∈ L, isNum x) (v r : Nat) (hv : v ∈ L) (h1 : cntP (fun y => decide (ordI y < ordI v)) L < r) (h2 : r ≤ cntP (fun y => decide (ordI y < ordI v)) L + cntP (fun y => decide (ordI y = ordI v)) L) :
    rankOf (fun k => (L.map bucketN).count k) (ksOf (L.map bucketN)) r = bucketN v := by
  refine rank_bag (L.map bucketN) (fun x hx => ?_) (bucketN v) r (List.mem_map.2 ⟨v, hv, rfl⟩) ?_ ?_
  · obtain ⟨y, hy, rfl⟩ := List.mem_map.1 hx
    exact bucket_isB y (hL y hy)
  · rw [cnt_map]
    refine Nat.lt_of_le_of_lt (cnt_le (fun x hx hp => ?_)) h1
    simp only [decide_eq_true_eq] at hp ⊢
    rcases Int.lt_or_le (ordI x) (ordI v) with h | h
    · exact h
    · have := bucket_mono (hL v hv) (hL x hx) h
      omega
  · rw [cnt_map]
    refine Nat.le_trans h2 ?_
    have hsum : ∀ l : List Nat, cntP (fun y => decide (ordI y < ordI v)) l + cntP (fun y => decide (ordI y = ordI v)) l = cntP (fun y => decide (ordI y ≤ ordI v)) l := by
      intro l
      induction l with
      | nil => rfl
      | cons a r ih =>
        rw [cntP_cons, cntP_cons, cntP_cons, ← ih]
        rcases Int.lt_trichotomy (ordI a) (ordI v) with h | h | h
        · have k1 : ¬ ordI a = ordI v := by omega
          have k2 : ordI a ≤ ordI v := by omega
          simp only [h, k1, k2, decide_true, decide_false, if_true, Bool.false_eq_true, if_false]
          omega
        · have k1 : ¬ ordI a < ordI v := by omega
          have k2 : ordI a ≤ ordI v := by omega
          simp only [h, decide_true, Int.lt_irrefl, decide_false, if_true, Bool.false_eq_true, if_false, Int.le_refl]
          omega
        · have k0 : ¬ ordI a < ordI v := by omega
          have k1 : ¬ ordI a = ordI v := by omega
          have k2 : ¬ ordI a ≤ ordI v := by omega
          simp only [k0, k1, k2, decide_false, Bool.false_eq_true, if_false]
          omega
    rw [hsum]
    refine cnt_le (fun x hx hp => ?_)
    simp only [decide_eq_true_eq] at hp ⊢
    exact bucket_mono (hL x hx) (hL v hv) hp

theorem exists_max : ∀ (l : List Nat), l ≠ [] → ∃ m ∈ l, ∀ x ∈ l, ordI x ≤ ordI m
  | [], h => absurd rfl h
  | [a], _ => ⟨a, by simp, fun x hx => by rw [List.mem_singleton.1 hx]; exact Int.le_refl _⟩
  | a :: b :: r, _ => by
    obtain ⟨m, hm, hmax⟩ := exists_max (b :: r) (by simp)
    by_cases h : ordI m ≤ ordI a
    · refine ⟨a, by simp, fun x hx => ?_⟩
      rcases List.mem_cons.1 hx with rfl | hx
      · exact Int.le_refl _
      · have := hmax x hx; omega
    · refine ⟨m, by simp [hm], fun x hx => ?_⟩
      rcases List.mem_cons.1 hx with rfl | hx
      · omega
      · exact hmax x hx

theorem cnt_all (p : Nat → Bool) (l : List Nat) (h : ∀ x ∈ l, p x = true) : cntP p l = l.length := by
  unfold cntP
  rw [List.filter_eq_self.2 h]

/-- some value has the rank -/
theorem exists_rank (L : List Nat) (r : Nat) (hr1 : 1 ≤ r) (hr2 : r ≤ L.length) : ∃ v ∈ L, cntP (fun y => decide (ordI y < ordI v)) L < r ∧ r ≤ cntP (fun y => decide (ordI y ≤ ordI v)) L := by
  have step : ∀ (n : Nat) (v : Nat), v ∈ L → r ≤ cntP (fun y => decide (ordI y ≤ ordI v)) L → cntP (fun y => decide (ordI y < ordI v)) L ≤ n → ∃ v ∈ L, cntP (fun y => decide (ordI y < ordI v)) L < r ∧ r ≤ cntP (fun y => decide (ordI y ≤ ordI v)) L := by
    intro n
    induction n with
    | zero => intro v hv h1 h2; exact ⟨v, hv, by omega, h1⟩
    | succ n ih =>
      intro v hv h1 h2
      by_cases hlt : cntP (fun y => decide (ordI y < ordI v)) L < r
      · exact ⟨v, hv, hlt, h1⟩
      · have hne : L.filter (fun y => decide (ordI y < ordI v)) ≠ [] := fun e => by
          unfold cntP at hlt
          rw [e] at hlt
          simp at hlt
          omega
        obtain ⟨m, hm, hmax⟩ := exists_max _ hne
        obtain ⟨m1, m2⟩ := List.mem_filter.1 hm
        simp only [decide_eq_true_eq] at m2
        have e1 : cntP (fun y => decide (ordI y < ordI v)) L ≤ cntP (fun y => decide (ordI y ≤ ordI m)) L := cnt_le (fun x hx hp => by
          simp only [decide_eq_true_eq] at hp ⊢
          exact hmax x (List.mem_filter.2 ⟨hx, by simpa using hp⟩))
        have e2 : cntP (fun y => decide (ordI y < ordI m)) L < cntP (fun y => decide (ordI y < ordI v)) L := by
          have key : ∀ l : List Nat, m ∈ l → cntP (fun y => decide (ordI y < ordI m)) l + 1 ≤ cntP (fun y => decide (ordI y < ordI v)) l := by
            intro l
            induction l with
            | nil => intro h; cases h
            | cons a r ihl =>
              intro hmem
              rw [cntP_cons, cntP_cons]
              by_cases ea : m = a
              · subst ea
                have := cnt_le (p := fun y => decide (ordI y < ordI m)) (q := fun y => decide (ordI y < ordI v)) (l := r) (fun x _ hp => by simp only [decide_eq_true_eq] at hp ⊢; omega)
                simp only [Int.lt_irrefl, decide_false, m2, decide_true, if_true, Bool.false_eq_true, if_false]
                omega
              · have hr := ihl (by
                  rcases List.mem_cons.1 hmem with h | h
                  · exact absurd h ea
                  · exact h)
                by_cases k1 : ordI a < ordI m
                · have k2 : ordI a < ordI v := by omega
                  simp only [k1, k2, decide_true, if_true]
                  omega
                · simp only [k1, decide_false, Bool.false_eq_true, if_false]
                  omega
          exact key L m1
        exact ih m m1 (by omega) (by omega)
  have hne : L ≠ [] := fun e => by subst e; simp at hr2; omega
  obtain ⟨m, hm, hmax⟩ := exists_max L hne
  refine step L.length m hm ?_ (List.length_filter_le _ _)
  rw [cnt_all _ L (fun x hx => by simpa using hmax x hx)]
  exact hr2
end Go.Proofs.YtgjhjfldocapjaaGreatDoor

namespace Go.Proofs.YtgjhjfldocapjaaGreatDoor
open Go.RowKit Go.Shelf Go.Maps

/-! one sample, so many slices ago -/
def oneBag (n old : Nat) (x : Nat) : List (List Nat) := (List.range n).map fun i => if i = old then [x] else []

theorem oneBag_length (n old x : Nat) : (oneBag n old x).length = n := by simp [oneBag]

theorem oneBag_get (n old x i : Nat) (h : i < n) : (oneBag n old x)[i]? = some (if i = old then [x] else []) := by
  simp [oneBag, h]

theorem oneBag_none (n old x : Nat) (h : n ≤ old) : oneBag n old x = List.replicate n [] := by
  apply List.ext_getElem?
  intro i
  rcases Nat.lt_or_ge i n with hi | hi
  · rw [oneBag_get n old x i hi, List.getElem?_replicate, if_pos hi, if_neg (by omega)]
  · rw [List.getElem?_eq_none (by rw [oneBag_length]; exact hi), List.getElem?_eq_none (by simpa using hi)]

theorem oneBag_shift (n old x δ : Nat) : shiftB (min δ n) (oneBag n old x) = oneBag n (old + δ) x := by
  apply List.ext_getElem?
  intro i
  have hl := shiftB_length (min δ n) (oneBag n old x) (by rw [oneBag_length]; omega)
  rw [oneBag_length] at hl
  rcases Nat.lt_or_ge i n with hi | hi
  · rw [oneBag_get n (old + δ) x i hi]
    unfold shiftB
    rw [oneBag_length]
    rcases Nat.lt_or_ge i (min δ n) with h1 | h1
    · rw [List.getElem?_append_left (by simpa using h1), List.getElem?_replicate, if_pos h1, if_neg (by omega)]
    · rw [List.getElem?_append_right (by simpa using h1), List.length_replicate, List.getElem?_take_of_lt (by omega), oneBag_get n old x _ (by omega)]
      congr 1
      have : (i - min δ n = old) ↔ (i = old + δ) := by omega
      simp [this]
  · rw [List.getElem?_eq_none (by rw [hl]; exact hi), List.getElem?_eq_none (by rw [oneBag_length]; exact hi)]

theorem oneBag_take (n old x k : Nat) (hk : k ≤ n) : ((oneBag n old x).take k).flatten.length = if old < k then 1 else 0 := by
  induction k with
  | zero => simp
  | succ k ih =>
    rw [take_flat (oneBag n old x) k _ (oneBag_get n old x k (by omega)), ih (by omega)]
    by_cases h : k = old
    · subst h
      simp
    · rw [if_neg h]
      by_cases h2 : old < k
      · rw [if_pos h2, if_pos (by omega)]; rfl
      · rw [if_neg h2, if_neg (by omega)]; rfl

theorem oneBag_flat (n old x : Nat) : (oneBag n old x).flatten.length ≤ 1 := by
  have h := oneBag_take n old x n (Nat.le_refl _)
  rw [List.take_of_length_le (by rw [oneBag_length]; exact Nat.le_refl _)] at h
  rw [h]
  split <;> omega

theorem oneBag_zero (n x : Nat) (h : 0 < n) : (List.replicate n ([] : List Nat)).set 0 [x] = oneBag n 0 x := by
  apply List.ext_getElem?
  intro i
  rcases Nat.lt_or_ge i n with hi | hi
  · rw [oneBag_get n 0 x i hi]
    by_cases h0 : i = 0
    · subst h0
      rw [List.getElem?_set_self (by simpa using h), if_pos rfl]
    · rw [List.getElem?_set_ne (Ne.symm h0), List.getElem?_replicate, if_pos hi, if_neg h0]
  · rw [List.getElem?_eq_none (by simpa using hi), List.getElem?_eq_none (by rw [oneBag_length]; exact hi)]

theorem shift_empty (n f : Nat) (h : f ≤ n) : shiftB f (List.replicate n ([] : List Nat)) = List.replicate n [] := by
  unfold shiftB
  rw [List.length_replicate, List.take_replicate, List.replicate_append_replicate]
  congr 1
  omega

/-- a meter that has its one sample -/
def Has (K : Nat → Prop) (w : World) (mb W C n old : Nat) : Prop := ∃ (kb : Nat) (ms : List (Option Nat)), ms.length = n ∧ Mtr K w mb kb W C ms (oneBag n old 4607182418800017408)

theorem one_num : (FloatKind.f64.format.order 4607182418800017408 4607182418800017408 != some .eq) = false := by kernel_rfl
theorem one_bucket : bucketN 4607182418800017408 = 4607182418800017408 := by kernel_rfl

theorem has_tick {K : Nat → Prop} {w : World} {mb W C n old : Nat} (h : Has K w mb W C n old) (t : Nat) (h1 : C ≤ t) (h2 : t ≤ 1099511627776) :
    Calls Tryz.prog 29 #[.pointer (some ⟨mb, 0, none⟩), .int .i64 t] w fun e w' => e = .returned (.int .i64 0) ∧ Has K w' mb W t n (old + (t / W - C / W)) ∧ Kept K w w' := by
  obtain ⟨kb, ms, hl, hM⟩ := h
  refine (tick_ok hM t h1 h2).mono ?_
  rintro e w' ⟨he, hM', hk⟩
  rw [hl, oneBag_shift] at hM'
  exact ⟨he, ⟨kb, shifted (min (t / W - C / W) n) ms, by rw [shifted_length _ _ (by omega)]; exact hl, hM'⟩, hk⟩

theorem has_count {K : Nat → Prop} {w : World} {mb W C n old : Nat} (h : Has K w mb W C n old) (k : Nat) (h1 : 1 ≤ k) (h2 : k ≤ n) :
    Calls Tryz.prog 31 #[.pointer (some ⟨mb, 0, none⟩), .int .i64 k] w fun e w' => e = .returned (.tuple #[.int .i64 ((if old < k then 1 else 0 : Nat) : Int), .int .i64 0]) ∧ Has K w' mb W C n old ∧ Kept K w w' := by
  obtain ⟨kb, ms, hl, hM⟩ := h
  have hf := oneBag_flat n old 4607182418800017408
  refine (count_ok hM k h1 (by omega) (by omega)).mono ?_
  rintro e w' ⟨he, hb⟩
  rw [oneBag_take n old _ k h2] at he
  exact ⟨he, ⟨kb, ms, hl, hM.below hb⟩, hM.keptBelow hb⟩

theorem Has.drewN {K : Nat → Prop} {w : World} {mb W C n old : Nat} (h : Has K w mb W C n old) (q : Nat) : Has K (w.drewN q) mb W C n old := by
  obtain ⟨kb, ms, hl, hM⟩ := h
  exact ⟨kb, ms, hl, hM.drewN q⟩

theorem has_old {K : Nat → Prop} {w : World} {mb W C n old : Nat} (h : Has K w mb W C n old) (t : Nat) (h2 : t ≤ 1099511627776) (ho : t / W + n ≤ C / W) :
    Calls Tryz.prog 30 #[.pointer (some ⟨mb, 0, none⟩), .int .i64 t, .int .u64 4607182418800017408] w fun e w' => e = .returned (.int .i64 7) ∧ Has K w' mb W C n old ∧ Kept K w w' := by
  have h0 := h
  obtain ⟨kb, ms, hl, hM⟩ := h
  refine (add_old hM.z hM.hW hM.hC hM.hn.2 t 4607182418800017408 h2 one_num (by omega)).mono ?_
  rintro e w' ⟨he, q, hw⟩
  rw [hw]
  exact ⟨he, h0.drewN q, ⟨rfl, rfl, rfl, Nat.le_refl _, fun _ _ => rfl⟩⟩

/-- one sample more in that slice -/
theorem has_add {K : Nat → Prop} {w : World} {mb W C n old : Nat} (h : Has K w mb W C n old) (t : Nat) (h2 : t ≤ 1099511627776) (ho : t / W + old = C / W) (hn : old < n) :
    Calls Tryz.prog 30 #[.pointer (some ⟨mb, 0, none⟩), .int .i64 t, .int .u64 4607182418800017408] w fun e w' => e = .returned (.int .i64 0) ∧ Kept K w w' := by
  obtain ⟨kb, ms, hl, hM⟩ := h
  obtain ⟨m, hm⟩ : ∃ m, ms[old]? = some m := ⟨_, List.getElem?_eq_getElem (by omega)⟩
  have hg := oneBag_get n old 4607182418800017408 old hn
  rw [if_pos rfl] at hg
  rcases hM.sl old m _ hm hg with ⟨_, e⟩ | ⟨b, rfl, _⟩
  · cases e
  · refine (add_some hM t 4607182418800017408 old b _ h2 (by omega) one_num ho hm hg (by simp)).mono ?_
    rintro e w' ⟨he, _, hk⟩
    exact ⟨he, hk⟩

/-- a new meter, without a sample -/
def Bare (K : Nat → Prop) (w : World) (mb W C n : Nat) : Prop := ∃ (kb : Nat), Mtr K w mb kb W C (List.replicate n none) (List.replicate n [])

theorem bare_new (K : Nat → Prop) (n wd : Nat) (hn1 : 1 ≤ n) (hn2 : n ≤ 8) (hw1 : 1 ≤ wd) (hw2 : wd ≤ 1000000) (w : World) (hK : ∀ k, K k → k < w.heap.size) :
    Calls Tryz.prog 28 #[.int .i64 n, .int .i64 wd] w fun e w' => ∃ mb, e = .returned (.tuple #[.pointer (some ⟨mb, 0, none⟩), .int .i64 0]) ∧ Bare K w' mb wd 0 n ∧ Kept K w w' := by
  refine (new_ok n wd hn1 hn2 hw1 hw2 w).mono ?_
  rintro e w' ⟨he, hw⟩
  refine ⟨_, he, ⟨w.heap.size, ?_⟩, ?_⟩
  · rw [hw]; exact new_mtr K n wd hn1 hn2 hw1 hw2 w hK
  · rw [hw]
    exact ((Kept.refl K w).alloc hK _).alloc hK _

theorem shifted_none (n f : Nat) (h : f ≤ n) : shifted f (List.replicate n none) = List.replicate n none := by
  unfold shifted
  rw [List.length_replicate, List.take_replicate, List.replicate_append_replicate]
  congr 1
  omega

theorem bare_tick {K : Nat → Prop} {w : World} {mb W C n : Nat} (h : Bare K w mb W C n) (t : Nat) (h1 : C ≤ t) (h2 : t ≤ 1099511627776) :
    Calls Tryz.prog 29 #[.pointer (some ⟨mb, 0, none⟩), .int .i64 t] w fun e w' => e = .returned (.int .i64 0) ∧ Bare K w' mb W t n ∧ Kept K w w' := by
  obtain ⟨kb, hM⟩ := h
  refine (tick_ok hM t h1 h2).mono ?_
  rintro e w' ⟨he, hM', hk⟩
  rw [List.length_replicate, shifted_none n _ (by omega), shift_empty n _ (by omega)] at hM'
  exact ⟨he, ⟨kb, hM'⟩, hk⟩

theorem bare_add {K : Nat → Prop} {w : World} {mb W C n : Nat} (h : Bare K w mb W C n) (hn : 0 < n) :
    Calls Tryz.prog 30 #[.pointer (some ⟨mb, 0, none⟩), .int .i64 C, .int .u64 4607182418800017408] w fun e w' => e = .returned (.int .i64 0) ∧ Has K w' mb W C n 0 ∧ Kept K w w' := by
  obtain ⟨kb, hM⟩ := h
  have hC := hM.hC
  refine (add_none hM C 4607182418800017408 0 hC (by omega) one_num (by omega) (by rw [List.getElem?_replicate, if_pos hn])).mono ?_
  rintro e w' ⟨he, ⟨b, hM'⟩, hk⟩
  rw [one_bucket, oneBag_zero n _ hn] at hM'
  exact ⟨he, ⟨kb, _, by simp, hM'⟩, hk⟩
end Go.Proofs.YtgjhjfldocapjaaGreatDoor

namespace Go.Proofs.YtgjhjfldocapjaaGreatDoor
open Go.RowKit Go.Shelf Go.Maps

def numB (v : Nat) : Bool := decide (v % 9223372036854775808 ≤ 9218868437227405312)

set_option maxRecDepth 20000 in
set_option maxHeartbeats 400000 in
theorem keepnum_any (v : Nat) (hv : v < 18446744073709551616) (w : World) :
    Calls Tryz.prog 17 #[.int .u64 v] w fun e w' => e = .returned (.bool (numB v)) ∧ w' = w := by
  have e0 : ((v : Int) % 9223372036854775808) = ((v % 9223372036854775808 : Nat) : Int) := by omega
  have hm : v % 9223372036854775808 < 9223372036854775808 := Nat.mod_lt _ (by omega)
  have hd : decide (((v % 9223372036854775808 : Nat) : Int) ≤ 9218868437227405312) = numB v := by
    unfold numB
    by_cases c : v % 9223372036854775808 ≤ 9218868437227405312
    · have c2 : ((v % 9223372036854775808 : Nat) : Int) ≤ 9218868437227405312 := by omega
      simp only [c, c2, decide_true]
    · have c2 : ¬ ((v % 9223372036854775808 : Nat) : Int) ≤ 9218868437227405312 := by omega
      simp only [c, c2, decide_false]
  rw [← hd, ← e0]
  clear hd e0 hm
  go_enter Tryz.func17, Tryz.ntmps17
  go_wp2_with fail
  go_ret
  exact ⟨rfl, rfl⟩

set_option maxRecDepth 20000 in
set_option maxHeartbeats 400000 in
theorem keeporder_hi (z r : Int) (hz1 : 9223372036854775808 ≤ z) (hz2 : z ≤ 18446744073709551615) (hr : z % 9223372036854775808 = r) (_hr1 : 0 ≤ r) (_hr2 : r ≤ 9223372036854775807) (w : World) :
    Calls Tryz.prog 27 #[.int .u64 z] w fun e w' => e = .returned (.int .i64 (-r)) ∧ w' = w := by
  have hd : decide (z ≥ 9223372036854775808) = true := by simp; omega
  go_enter Tryz.func27, Tryz.ntmps27
  go_wp2_with fail
  go_ret
  exact ⟨rfl, rfl⟩

set_option maxRecDepth 20000 in
set_option maxHeartbeats 400000 in
theorem keeporder_lo (z : Int) (hz1 : 0 ≤ z) (hz2 : z ≤ 9223372036854775807) (w : World) :
    Calls Tryz.prog 27 #[.int .u64 z] w fun e w' => e = .returned (.int .i64 z) ∧ w' = w := by
  have hr : z % 9223372036854775808 = z := by omega
  have hd : decide (9223372036854775808 ≤ z) = false := by simp; omega
  go_enter Tryz.func27, Tryz.ntmps27
  go_wp2_with fail
  go_ret
  exact ⟨rfl, rfl⟩

theorem keeporder_any (v : Nat) (hv : v < 18446744073709551616) (w : World) :
    Calls Tryz.prog 27 #[.int .u64 v] w fun e w' => e = .returned (.int .i64 (ordI v)) ∧ w' = w := by
  unfold ordI
  by_cases c : 9223372036854775808 ≤ v
  · rw [if_pos c]
    exact keeporder_hi v _ (by omega) (by omega) (by omega) (by omega) (by omega) w
  · rw [if_neg c, Nat.mod_eq_of_lt (by omega)]
    exact keeporder_lo v (by omega) (by omega) w

/-! a meter beside a row -/
theorem Mtr.same {K : Nat → Prop} {w w' : World} {mb kb W C : Nat} {ms : List (Option Nat)} {bags : List (List Nat)} (h : Mtr K w mb kb W C ms bags) (hs : w.heap.size ≤ w'.heap.size) (hk : ∀ k, k < w.heap.size → (k = mb ∨ k = kb ∨ some k ∈ ms) → w'.heap[k]? = w.heap[k]?) : Mtr K w' mb kb W C ms bags := by
  have hmlt : mb < w.heap.size := (Array.getElem?_eq_some_iff.1 h.z.hm).1
  have hklt : kb < w.heap.size := (Array.getElem?_eq_some_iff.1 h.z.hk).1
  refine ⟨⟨(hk mb hmlt (Or.inl rfl)).trans h.z.hm, (hk kb hklt (Or.inr (Or.inl rfl))).trans h.z.hk⟩, h.len, fun i m g h1 h2 => (h.sl i m g h1 h2).block (fun b hb => ?_), h.nd, h.hW, h.hC, h.hn, fun k hK => ?_⟩
  · subst hb
    have hm := List.mem_of_getElem? h1
    exact hk b (h.apart hm).2.2 (Or.inr (Or.inr hm))
  · obtain ⟨a1, a2⟩ := h.out k hK
    exact ⟨Nat.lt_of_lt_of_le a1 hs, a2⟩

/-- a row of values is none of its blocks -/
theorem Mtr.withRow {K : Nat → Prop} {w : World} {mb kb W C : Nat} {ms : List (Option Nat)} {bags : List (List Nat)} (h : Mtr K w mb kb W C ms bags) {base n : Nat} {v : Value} {xs : List Value} (ho : w.ownsRow base 25 1 v n xs) : Mtr (fun k => K k ∨ v.ownBlock = some k) w mb kb W C ms bags := by
  refine ⟨h.z, h.len, h.sl, h.nd, h.hW, h.hC, h.hn, fun k hk => ?_⟩
  rcases hk with hk | hk
  · exact h.out k hk
  · have hlt := (ho.lt k hk).2
    rcases ho.2 with ⟨rfl, _⟩ | ⟨g, cap, cur, rfl, hb, hgg, _⟩
    · simp [Value.ownBlock] at hk
    · simp [Value.ownBlock] at hk
      subst hk
      refine ⟨hlt, fun e => ?_, fun e => ?_, fun hm => ?_⟩
      · subst e
        have := h.z.hm.symm.trans hgg
        injection this with this
        injection this with _ e2 _
        exact absurd e2 (by decide)
      · subst e
        have := h.z.hk.symm.trans hgg
        injection this with this
        injection this with _ e2 _
        exact absurd e2 (by decide)
      · obtain ⟨i, hi⟩ := List.mem_iff_getElem?.1 hm
        have hi2 : i < ms.length := (List.getElem?_eq_some_iff.1 hi).1
        obtain ⟨q, hq⟩ : ∃ q, bags[i]? = some q := ⟨_, List.getElem?_eq_getElem (by rw [← h.len]; exact hi2)⟩
        rcases h.sl i _ q hi hq with ⟨e, _⟩ | ⟨b', e, hT⟩
        · cases e
        · cases e
          obtain ⟨D, m, ⟨es, clock, h0, _⟩, _⟩ := hT
          rw [hgg] at h0
          cases h0

/-- behind a row's growing -/
theorem Mtr.rowGrown {K : Nat → Prop} {w w' : World} {mb kb W C : Nat} {ms : List (Option Nat)} {bags : List (List Nat)} {r : Option Nat} (h : Mtr (fun k => K k ∨ r = some k) w mb kb W C ms bags) (hg : w.grownBy w' r) : Mtr K w' mb kb W C ms bags := by
  refine (h.sub (J := K) (fun k hk => Or.inl hk)).same hg.size (fun k hk hw => hg.block k hk (fun e => ?_))
  obtain ⟨_, a2, a3, a4⟩ := h.out k (Or.inr e.symm)
  rcases hw with e1 | e1 | e1
  · exact a2 e1
  · exact a3 e1
  · exact a4 e1

/-- a meter of four slices that has these values in its present one -/
def Fill (K : Nat → Prop) (w : World) (mb : Nat) (l : List Nat) : Prop := ∃ (kb : Nat) (ms : List (Option Nat)), ms.length = 4 ∧ Mtr K w mb kb 100 0 ms [l.map bucketN, [], [], []]

theorem fill_new (K : Nat → Prop) (w : World) (hK : ∀ k, K k → k < w.heap.size) :
    Calls Tryz.prog 28 #[.int .i64 4, .int .i64 100] w fun e w' => ∃ mb, e = .returned (.tuple #[.pointer (some ⟨mb, 0, none⟩), .int .i64 0]) ∧ Fill K w' mb [] ∧ Kept K w w' := by
  refine (bare_new K 4 100 (by omega) (by omega) (by omega) (by omega) w hK).mono ?_
  rintro e w' ⟨mb, he, ⟨kb, hM⟩, hk⟩
  exact ⟨mb, he, ⟨kb, _, by simp, hM⟩, hk⟩

theorem num_of {v : Nat} (hv : v < 18446744073709551616) (h : numB v = true) : isNum v := ⟨hv, of_decide_eq_true h⟩

theorem fill_add {K : Nat → Prop} {w : World} {mb : Nat} {l : List Nat} (h : Fill K w mb l) (v : Nat) (hv : v < 18446744073709551616) (hn : numB v = true) (hl : l.length < 50) :
    Calls Tryz.prog 30 #[.pointer (some ⟨mb, 0, none⟩), .int .i64 7, .int .u64 v] w fun e w' => e = .returned (.int .i64 0) ∧ Fill K w' mb (l ++ [v]) ∧ Kept K w w' := by
  obtain ⟨kb, ms, hm4, hM⟩ := h
  have hno : (FloatKind.f64.format.order v v != some .eq) = false := by
    rw [num_iff v hv]
    have := of_decide_eq_true hn
    simp only [decide_eq_false_iff_not]; omega
  obtain ⟨m, hm⟩ : ∃ m, ms[0]? = some m := ⟨_, List.getElem?_eq_getElem (by omega)⟩
  cases m with
  | none =>
    have hl0 : l.map bucketN = [] := by
      rcases hM.sl 0 none _ hm rfl with ⟨_, e⟩ | ⟨b, e, _⟩
      · exact e
      · cases e
    refine (add_none hM 7 v 0 (by omega) hv hno (by decide) hm).mono ?_
    rintro e w' ⟨he, ⟨b, hM'⟩, hk⟩
    refine ⟨he, ⟨kb, ms.set 0 (some b), by rw [List.length_set]; exact hm4, ?_⟩, hk⟩
    rw [List.map_append, hl0]
    exact hM'
  | some b =>
    refine (add_some hM 7 v 0 b (l.map bucketN) (by omega) hv hno (by decide) hm rfl (by rw [List.length_map]; omega)).mono ?_
    rintro e w' ⟨he, hM', hk⟩
    refine ⟨he, ⟨kb, ms, hm4, ?_⟩, hk⟩
    rw [List.map_append]
    exact hM'

theorem fill_nan (mb v : Nat) (hv : v < 18446744073709551616) (hn : numB v = false) (w : World) :
    Calls Tryz.prog 30 #[.pointer (some ⟨mb, 0, none⟩), .int .i64 7, .int .u64 v] w fun e w' => e = .returned (.int .i64 6) ∧ w' = w := by
  refine add_nan mb 7 v w (by omega) ?_
  rw [num_iff v hv]
  have := of_decide_eq_false hn
  simp only [decide_eq_true_eq]; omega

theorem take_first (g : List Nat) (k : Nat) (h1 : 1 ≤ k) (h2 : k ≤ 4) : (([g, [], [], []] : List (List Nat)).take k).flatten = g := by
  obtain rfl | rfl | rfl | rfl : k = 1 ∨ k = 2 ∨ k = 3 ∨ k = 4 := by omega
  all_goals simp

theorem erase_length : ∀ (n : Nat) (l : List Nat), l.length ≤ n → l.eraseDups.length ≤ l.length
  | 0, l, h => by
    have : l = [] := List.eq_nil_of_length_eq_zero (by omega)
    subst this; simp
  | n + 1, [], _ => by simp
  | n + 1, a :: r, h => by
    rw [List.eraseDups_cons]
    have h1 : (r.filter fun b => !b == a).length ≤ r.length := List.length_filter_le _ _
    have h2 := erase_length n (r.filter fun b => !b == a) (by simp at h; omega)
    simp only [List.length_cons]
    omega

theorem ksOf_length (bag : List Nat) : (ksOf bag).length ≤ bag.length := by
  unfold ksOf
  rw [List.length_mergeSort]
  exact erase_length _ bag (Nat.le_refl _)

theorem fill_quant {K : Nat → Prop} {w : World} {mb : Nat} {l : List Nat} (h : Fill K w mb l) (k a b : Nat) (hk1 : 1 ≤ k) (hk2 : k ≤ 4) (hb1 : 1 ≤ b) (hb2 : b ≤ 1000) (hab : a ≤ b) (hl : l.length ≤ 50) (hne : l ≠ []) (hnum : ∀ x ∈ l, isNum x) :
    Calls Tryz.prog 26 #[.pointer (some ⟨mb, 0, none⟩), .int .i64 k, .int .i64 a, .int .i64 b] w fun e w' => e = .returned (.tuple #[.int .u64 (rankOf (fun x => (l.map bucketN).count x) (ksOf (l.map bucketN)) (rankN a b l.length)), .int .i64 0]) ∧ Fill K w' mb l ∧ Below w.heap.size w w' := by
  obtain ⟨kb, ms, hm4, hM⟩ := h
  have hB : ∀ x ∈ l.map bucketN, isB x := fun x hx => by
    obtain ⟨y, hy, rfl⟩ := List.mem_map.1 hx
    exact bucket_isB y (hnum y hy)
  have hS := sorts_bag (l.map bucketN) hB (by rw [List.length_map]; omega)
  have hks : ∀ x ∈ ksOf (l.map bucketN), x < 18446744073709551616 := fun x hx => (hB x ((mem_ksOf _ x).1 hx)).1.1
  have hkl : (ksOf (l.map bucketN)).length ≤ (l.map bucketN).length := ksOf_length _
  have hq := quant_ok hM k a b hk1 (by omega) (by simp; omega) hb1 hb2 hab (l.map bucketN) (ksOf (l.map bucketN)) (take_first _ k hk1 hk2) (by simpa using hne) hS hks (by rw [List.length_map] at hkl; omega) (total_ks _ hB)
  rw [List.length_map] at hq
  refine hq.mono ?_
  rintro e w' ⟨he, hb⟩
  exact ⟨he, ⟨kb, ms, hm4, hM.below hb⟩, hb⟩

set_option maxRecDepth 20000 in
set_option maxHeartbeats 1600000 in
theorem fill_quant_nil {K : Nat → Prop} {w : World} {mb : Nat} (h : Fill K w mb []) (k a b : Nat) (hk1 : 1 ≤ k) (hk2 : k ≤ 4) (hb1 : 1 ≤ b) (hb2 : b ≤ 1000) (hab : a ≤ b) :
    Calls Tryz.prog 26 #[.pointer (some ⟨mb, 0, none⟩), .int .i64 k, .int .i64 a, .int .i64 b] w fun e w' => e = .returned (.tuple #[.int .u64 0, .int .i64 9]) ∧ Fill K w' mb [] ∧ Below w.heap.size w w' := by
  have HF := hide h
  obtain ⟨kb, ms, hm4, hM⟩ := h
  have c2 := hM.z.c2
  rw [hm4] at c2
  have HLa := hide (last_ok hM k hk1 (by omega) (by simp))
  rw [List.map_nil, take_first _ k hk1 hk2] at HLa
  have HKe := hide hM
  clear hM
  go_enter Tryz.func26, Tryz.ntmps26
  go_wp2_with fail
  refine (unhide HLa).mono ?_
  rintro e w1 ⟨rfl, hT1, hb1'⟩
  have HSa := hide (tsamples_any w.heap.size [] w1 hT1 (by simp))
  have HB1 := hide hb1'
  clear hT1 hb1'
  go_wp2_with fail
  refine (unhide HSa).mono ?_
  rintro e w2 ⟨rfl, hb2'⟩
  have HB2 := hide ((unhide HB1).trans (hb2'.mono (unhide HB1).size))
  clear hb2' HB1
  go_wp2_with fail
  go_ret2
  exact ⟨rfl, ⟨kb, ms, hm4, (unhide HKe).below (unhide HB2)⟩, unhide HB2⟩

theorem Fill.withRow {K : Nat → Prop} {w : World} {mb : Nat} {l : List Nat} (h : Fill K w mb l) {base n : Nat} {v : Value} {xs : List Value} (ho : w.ownsRow base 25 1 v n xs) : Fill (fun k => K k ∨ v.ownBlock = some k) w mb l := by
  obtain ⟨kb, ms, h4, hM⟩ := h
  exact ⟨kb, ms, h4, hM.withRow ho⟩

theorem Fill.rowGrown {K : Nat → Prop} {w w' : World} {mb : Nat} {l : List Nat} {r : Option Nat} (h : Fill (fun k => K k ∨ r = some k) w mb l) (hg : w.grownBy w' r) : Fill K w' mb l := by
  obtain ⟨kb, ms, h4, hM⟩ := h
  exact ⟨kb, ms, h4, hM.rowGrown hg⟩

theorem Fill.sub {K J : Nat → Prop} {w : World} {mb : Nat} {l : List Nat} (h : Fill K w mb l) (hj : ∀ k, J k → K k) : Fill J w mb l := by
  obtain ⟨kb, ms, h4, hM⟩ := h
  exact ⟨kb, ms, h4, hM.sub hj⟩

theorem Fill.below {K : Nat → Prop} {w w' : World} {mb : Nat} {l : List Nat} (h : Fill K w mb l) (hb : Below w.heap.size w w') : Fill K w' mb l := by
  obtain ⟨kb, ms, h4, hM⟩ := h
  exact ⟨kb, ms, h4, hM.below hb⟩

theorem Fill.drewN {K : Nat → Prop} {w : World} {mb : Nat} {l : List Nat} (h : Fill K w mb l) (n : Nat) : Fill K (w.drewN n) mb l := by
  obtain ⟨kb, ms, h4, hM⟩ := h
  exact ⟨kb, ms, h4, hM.drewN n⟩

/-- a row behind a call that keeps its block -/
theorem row_kept {K : Nat → Prop} {w w' : World} {base n : Nat} {v : Value} {xs : List Value} (ho : w.ownsRow base 25 1 v n xs) (hk : Kept (fun k => K k ∨ v.ownBlock = some k) w w') : w'.ownsRow base 25 1 v n xs := by
  refine ⟨ho.1, ?_⟩
  rcases ho.2 with h | ⟨g, cap, cur, rfl, hb, hgg, rest⟩
  · exact Or.inl h
  · exact Or.inr ⟨g, cap, cur, rfl, hb, (hk.block g (Or.inr rfl)).trans hgg, rest⟩
end Go.Proofs.YtgjhjfldocapjaaGreatDoor

namespace Go.Proofs.YtgjhjfldocapjaaGreatDoor
open Go.RowKit Go.Shelf Go.Maps

/-- a slice that reads as values, in blocks of K -/
def RdU (K : Nat → Prop) (w : World) (v : Value) (l : List Nat) : Prop :=
  ∃ ao cap, v = .slice ao l.length cap ∧ l.length ≤ cap ∧ (0 < l.length → ∃ g o, K g ∧ ao = some ⟨g, o, none⟩ ∧ ∀ j, j < l.length → w.cell? ⟨g, o + j, none⟩ = some (.int .u64 (l.getD j 0 : Nat)))

def inOf (l : List Nat) (j : Nat) : List Nat := (l.take j).filter numB

theorem inOf_step (l : List Nat) (j : Nat) (h : j < l.length) : inOf l (j + 1) = inOf l j ++ (if numB (l.getD j 0) then [l.getD j 0] else []) := by
  unfold inOf
  rw [List.take_succ_eq_append_getElem h, List.filter_append]
  have e : l.getD j 0 = l[j] := by rw [List.getD_eq_getElem?_getD, List.getElem?_eq_getElem h]; rfl
  rw [e]
  congr 1
  simp [List.filter_cons]

theorem inOf_length (l : List Nat) (j : Nat) : (inOf l j).length ≤ j := by
  unfold inOf
  exact Nat.le_trans (List.length_filter_le _ _) (by rw [List.length_take]; omega)

theorem inOf_num (l : List Nat) (j : Nat) (hl : ∀ x ∈ l, x < 18446744073709551616) : ∀ x ∈ inOf l j, isNum x := by
  intro x hx
  obtain ⟨h1, h2⟩ := List.mem_filter.1 hx
  exact num_of (hl x (List.mem_of_mem_take h1)) h2

theorem not_nil_pointer (b : Nat) (w : World) : (binOp BinOp.eql 48 (.pointer (some ⟨b, 0, none⟩)) (.pointer none)).run Tryz.prog w = .ok (.bool false) w := by kernel_rfl

set_option maxRecDepth 40000 in
set_option maxHeartbeats 4000000 in
theorem added_ok (v : Value) (l : List Nat) (w : World) (hv : RdU (Under w) w v l) (hz : ∀ z ∈ l, z < 18446744073709551616) (hzl : l.length ≤ 9223372036854775807) (hT : Tabs w) (hC : CTabs w) (hG : GK (Under w)) (hS : SortsTo [halfN, halfN] [halfN]) :
    Calls Tryz.prog 25 #[v] w fun e w' => ∃ (mb : Nat) (u : Value), e = .returned (.tuple #[.pointer (some ⟨mb, 0, none⟩), u]) ∧ Fill (Under w) w' mb (inOf l 50) ∧ w'.ownsRow w.heap.size 25 1 u (inOf l 50).length ((inOf l 50).map encK) ∧ Below w.heap.size w w' := by
  have HA := hide (awake_ok w hT hC hG hS)
  obtain ⟨i0, hi, hz0, hz1, hz2⟩ := info_parts infoU
  clear hT hC hG hS
  obtain ⟨ao, cap, rfl, hcap, hcells⟩ := hv
  have HCe := hide hcells
  have HZ := hide hz
  clear hcells hz
  generalize hL : l.length = L at *
  go_enter Tryz.func25, Tryz.ntmps25
  go_wp2_with fail
  refine (unhide HA).mono ?_
  rintro e w1 ⟨rfl, hb1'⟩
  have HB1 := hide hb1'
  clear hb1' HA
  go_wp2_with fail
  refine (fill_new (Under w) w1 (fun k hk => Nat.lt_of_lt_of_le hk (unhide HB1).size)).mono ?_
  rintro e w2 ⟨mb, rfl, hF, hk2⟩
  have HF2 := hide hF
  have HB2 := hide (below_of_under (unhide HB1) hk2)
  clear hF hk2 HB1
  go_wp2_with fail
  go_loopw [7, 8, 9, 10] (fun s i _ _ wr => ∃ j : Nat, j ≤ 50 ∧ j ≤ L ∧ i = .int .i64 j ∧ Hid (wr.ownsRow w.heap.size 25 1 s (inOf l j).length ((inOf l j).map encK)) ∧ Hid (Fill (Under w) wr mb (inOf l j)) ∧ Hid (Below w.heap.size w wr)) (fun _ i _ _ _ => 50 - (RowKit.intOf i).toNat)
  case atStart => exact ⟨0, by omega, by omega, rfl, World.ownsRow_nil _ _ _ _, HF2, HB2⟩
  case round =>
    clear HF2 HB2
    obtain ⟨j, hj50, hjL, rfl, hO, hF, hB⟩ := hrel
    by_cases hgo : j < L ∧ j < 50
    · obtain ⟨hjl, hj5⟩ := hgo
      obtain ⟨g, o, hgK, rfl, hce⟩ := unhide HCe (by omega)
      have hcz := hce j hjl
      have hbz := unhide HZ (l.getD j 0) (by
        rw [List.getD_eq_getElem?_getD, List.getElem?_eq_getElem (by rw [hL]; exact hjl)]
        exact List.getElem_mem _)
      have hst := inOf_step l j (by rw [hL]; exact hjl)
      have hlen := inOf_length l j
      generalize l.getD j 0 = z at hcz hbz hst
      have hcw : wr.cell? ⟨g, o + j, none⟩ = some (.int .u64 z) := ((unhide hB).cell (p := ⟨g, o + j, none⟩) hgK).trans hcz
      have HNu := hide (keepnum_any z hbz)
      have hdj1 : decide ((j : Int) < (L : Int)) = true := by simp; omega
      have hdj2 : decide ((j : Int) < 50) = true := by simp; omega
      clear hce hcz
      cases hnz : numB z with
      | true =>
        rw [hnz, if_pos rfl] at hst
        rw [hnz] at HNu
        have HS := hide hst
        clear hst
        have HAd := hide (fill_add ((unhide hF).withRow (unhide hO)) z hbz hnz (by omega))
        go_wp2_with fail
        refine (unhide HAd).mono ?_
        rintro e w5 ⟨rfl, hF5, hk5⟩
        have hc5 : w5.cell? ⟨g, o + j, none⟩ = some (.int .u64 z) := (hk5.cell (p := ⟨g, o + j, none⟩) (Or.inl hgK)).trans hcw
        have HF5 := hide (hF5.sub (J := Under w) (fun k hk => Or.inl hk))
        have HO5 := hide (row_kept (unhide hO) hk5)
        have HB5 := hide (below_of_under (unhide hB) (hk5.sub (fun k hk => Or.inl hk)))
        clear hF5 hk5 HAd hcw
        go_wp2_with fail
        refine (unhide HNu _).mono ?_
        rintro e w6 ⟨rfl, e6⟩
        rw [e6]
        clear e6 w6
        have ho := unhide HO5
        have hs5 := (unhide HB5).size
        go_wp2_with (first
          | (at_builtin; refine wpList_append_own_at _ rfl _ _ 47 rfl w.heap.size 25 i0 (.int .u64 0) 1 8 Tryz.underlying47 hi hz0 hz1 hz2 rfl (by decide) _ _ _ rfl (ho.alloc _) ⟨w5.heap.size, 0, none⟩ 1 1 [.int .u64 z] rfl rfl (cell_one_new _ _ _) (by simp [Value.oneCell']) (by unfold maxLen; omega) (by omega) (by simp; omega) ?_; intro v' W8 hown' hgrow _ hat)
          | go_in)
        have hw8 : W8.ownsRow w.heap.size 25 1 v' (inOf l (j + 1)).length ((inOf l (j + 1)).map encK) := by
          rw [unhide HS, List.length_append, List.map_append]; exact hown'
        have hF8 : Fill (Under w) W8 mb (inOf l (j + 1)) := by
          rw [unhide HS]
          have h1 := (unhide HF5).below ((Below.refl w5.heap.size w5).alloc (Nat.le_refl _) (.cells #[.int .u64 z] 25))
          exact (h1.withRow (ho.alloc _)).rowGrown hgrow
        have hb8 : Below w.heap.size w W8 := ((unhide HB5).alloc (unhide HB5).size _).grown hgrow (by simp; omega) (fun k e => (ho.lt k e).1)
        go_roundw
        case rel => exact ⟨j + 1, by omega, by omega, rfl, hw8, hF8, hb8⟩
        case measure => simp [RowKit.intOf]; omega
      | false =>
        rw [hnz, if_neg (by decide), List.append_nil] at hst
        rw [hnz] at HNu
        have HS := hide hst
        clear hst
        have HAd := hide (fill_nan mb z hbz hnz wr)
        go_wp2_with fail
        refine (unhide HAd).mono ?_
        rintro e w5 ⟨rfl, e5⟩
        rw [e5]
        clear e5 w5 HAd
        go_wp2_with fail
        refine (unhide HNu _).mono ?_
        rintro e w6 ⟨rfl, e6⟩
        rw [e6]
        clear e6 w6
        go_wp2_with fail
        go_roundw
        case rel => exact ⟨j + 1, by omega, by omega, rfl, by rw [unhide HS]; exact hO, by rw [unhide HS]; exact hF, hB⟩
        case measure => simp [RowKit.intOf]; omega
    · have hin : inOf l j = inOf l 50 := by
        unfold inOf
        rcases Nat.lt_or_ge j 50 with h | h
        · rw [List.take_of_length_le (by omega), List.take_of_length_le (by omega)]
        · obtain rfl : j = 50 := by omega
          rfl
      rw [hin] at hO hF
      clear hin
      by_cases hjl : j < L
      · have hdj1 : decide ((j : Int) < (L : Int)) = true := by simp; omega
        have hdj2 : decide ((j : Int) < 50) = false := by simp; omega
        go_wp2_with fail
        go_ret2
        exact ⟨mb, _, rfl, unhide hF, unhide hO, unhide hB⟩
      · have hdj1 : decide ((j : Int) < (L : Int)) = false := by simp; omega
        go_wp2_with fail
        go_ret2
        exact ⟨mb, _, rfl, unhide hF, unhide hO, unhide hB⟩
end Go.Proofs.YtgjhjfldocapjaaGreatDoor

namespace Go.Proofs.YtgjhjfldocapjaaGreatDoor
open Go.RowKit Go.Shelf Go.Maps

theorem rdu_own {w : World} {base : Nat} {v : Value} {l : List Nat} (h : w.ownsRow base 25 1 v l.length (l.map encK)) : RdU (Under w) w v l := by
  have hlt := h.lt
  rcases h.2 with ⟨rfl, h0⟩ | ⟨g, cap, cur, rfl, hb, hg, hn, hm, hsz, ht⟩
  · exact ⟨none, 0, by rw [h0], by omega, fun h1 => by omega⟩
  · refine ⟨_, cap, rfl, hn, fun _ => ⟨g, 0, (hlt g rfl).2, rfl, fun j hj => ?_⟩⟩
    have hc : ∀ (i : Nat) (u : Value), (l.map encK)[i]? = some u → w.cell? ⟨g, i, none⟩ = some u := by
      intro i u hu
      rw [cell_of_row w g i cur _ _ hg]
      rw [← ht, List.getElem?_take] at hu
      split at hu
      · simpa using hu
      · cases hu
    rw [Nat.zero_add]
    refine hc j _ ?_
    rw [List.getElem?_map, List.getD_eq_getElem?_getD, List.getElem?_eq_getElem hj]
    rfl

def cL (D : List Nat) (z t : Nat) : Nat := cntP (fun y => decide (ordI y < ordI z)) (D.take t)
def cE (D : List Nat) (z t : Nat) : Nat := cntP (fun y => decide (ordI y = ordI z)) (D.take t)

theorem cntP_snoc (p : Nat → Bool) (l : List Nat) (x : Nat) : cntP p (l ++ [x]) = cntP p l + (if p x then 1 else 0) := by
  unfold cntP
  rw [List.filter_append, List.length_append]
  by_cases h : p x = true
  · simp [h]
  · simp [h]

theorem cL_step (D : List Nat) (z t : Nat) (h : t < D.length) : cL D z (t + 1) = cL D z t + (if ordI (D.getD t 0) < ordI z then 1 else 0) := by
  unfold cL
  rw [List.take_succ_eq_append_getElem h, cntP_snoc]
  have e : D.getD t 0 = D[t] := by rw [List.getD_eq_getElem?_getD, List.getElem?_eq_getElem h]; rfl
  rw [e]
  simp

theorem cE_step (D : List Nat) (z t : Nat) (h : t < D.length) : cE D z (t + 1) = cE D z t + (if ordI (D.getD t 0) = ordI z then 1 else 0) := by
  unfold cE
  rw [List.take_succ_eq_append_getElem h, cntP_snoc]
  have e : D.getD t 0 = D[t] := by rw [List.getD_eq_getElem?_getD, List.getElem?_eq_getElem h]; rfl
  rw [e]
  simp

theorem cL_le (D : List Nat) (z t : Nat) : cL D z t ≤ t := Nat.le_trans (List.length_filter_le _ _) (by rw [List.length_take]; omega)
theorem cE_le (D : List Nat) (z t : Nat) : cE D z t ≤ t := Nat.le_trans (List.length_filter_le _ _) (by rw [List.length_take]; omega)

theorem cLE (D : List Nat) (z t : Nat) : cL D z t + cE D z t = cntP (fun y => decide (ordI y ≤ ordI z)) (D.take t) := by
  unfold cL cE
  induction D.take t with
  | nil => rfl
  | cons a r ih =>
    rw [cntP_cons, cntP_cons, cntP_cons, ← ih]
    rcases Int.lt_trichotomy (ordI a) (ordI z) with h | h | h
    · have k1 : ¬ ordI a = ordI z := by omega
      have k2 : ordI a ≤ ordI z := by omega
      simp only [h, k1, k2, decide_true, decide_false, if_true, Bool.false_eq_true, if_false]
      omega
    · simp only [h, decide_true, Int.lt_irrefl, decide_false, if_true, Bool.false_eq_true, if_false, Int.le_refl]
      omega
    · have k0 : ¬ ordI a < ordI z := by omega
      have k1 : ¬ ordI a = ordI z := by omega
      have k2 : ¬ ordI a ≤ ordI z := by omega
      simp only [k0, k1, k2, decide_false, Bool.false_eq_true, if_false]
      omega

/-- the value at a place has the rank -/
def hasRank (D : List Nat) (R t : Nat) : Prop := cL D (D.getD t 0) D.length < R ∧ R ≤ cL D (D.getD t 0) D.length + cE D (D.getD t 0) D.length

theorem some_rank (D : List Nat) (R : Nat) (h1 : 1 ≤ R) (h2 : R ≤ D.length) : ∃ t, t < D.length ∧ hasRank D R t := by
  obtain ⟨v, hv, k1, k2⟩ := exists_rank D R h1 h2
  obtain ⟨t, ht, rfl⟩ := List.mem_iff_getElem.1 hv
  refine ⟨t, ht, ?_⟩
  have e : D.getD t 0 = D[t] := by rw [List.getD_eq_getElem?_getD, List.getElem?_eq_getElem ht]; rfl
  unfold hasRank
  rw [e, cLE, List.take_length]
  unfold cL
  rw [List.take_length]
  exact ⟨k1, k2⟩

theorem rank_at (D : List Nat) (hD : ∀ x ∈ D, isNum x) (R t : Nat) (ht : t < D.length) (h : hasRank D R t) : rankOf (fun k => (D.map bucketN).count k) (ksOf (D.map bucketN)) R = bucketN (D.getD t 0) := by
  have e : D.getD t 0 = D[t] := by rw [List.getD_eq_getElem?_getD, List.getElem?_eq_getElem ht]; rfl
  unfold hasRank cL cE at h
  rw [List.take_length] at h
  rw [e] at h ⊢
  exact rank_of_value D hD D[t] R (List.getElem_mem ht) h.1 h.2

end Go.Proofs.YtgjhjfldocapjaaGreatDoor

namespace Go.Proofs.YtgjhjfldocapjaaGreatDoor
open Go.RowKit Go.Shelf Go.Maps

/-! the document's meters: leaves -/
set_option maxRecDepth 20000 in
set_option maxHeartbeats 400000 in
theorem refIs_any (v : Nat) (hv : v < 18446744073709551616) (w : World) :
    Calls Tryz.prog 138 #[.int .u64 v] w fun e w' => e = .returned (.bool (numB v)) ∧ w' = w := by
  have e0 : ((v : Int) % 9223372036854775808) = ((v % 9223372036854775808 : Nat) : Int) := by omega
  have hd : decide (((v % 9223372036854775808 : Nat) : Int) ≤ 9218868437227405312) = numB v := by
    unfold numB
    by_cases c : v % 9223372036854775808 ≤ 9218868437227405312
    · have c2 : ((v % 9223372036854775808 : Nat) : Int) ≤ 9218868437227405312 := by omega
      simp only [c, c2, decide_true]
    · have c2 : ¬ ((v % 9223372036854775808 : Nat) : Int) ≤ 9218868437227405312 := by omega
      simp only [c, c2, decide_false]
  rw [← hd, ← e0]
  clear hd e0
  go_enter Tryz.func138, Tryz.ntmps138
  go_wp2_with fail
  go_ret
  exact ⟨rfl, rfl⟩

set_option maxRecDepth 20000 in
set_option maxHeartbeats 400000 in
theorem reforder_hi (z r : Int) (hz1 : 9223372036854775808 ≤ z) (hz2 : z ≤ 18446744073709551615) (hr : z % 9223372036854775808 = r) (_hr1 : 0 ≤ r) (_hr2 : r ≤ 9223372036854775807) (w : World) :
    Calls Tryz.prog 139 #[.int .u64 z] w fun e w' => e = .returned (.int .i64 (-r)) ∧ w' = w := by
  have hd : decide (z ≥ 9223372036854775808) = true := by simp; omega
  go_enter Tryz.func139, Tryz.ntmps139
  go_wp2_with fail
  go_ret
  exact ⟨rfl, rfl⟩

set_option maxRecDepth 20000 in
set_option maxHeartbeats 400000 in
theorem reforder_lo (z : Int) (hz1 : 0 ≤ z) (hz2 : z ≤ 9223372036854775807) (w : World) :
    Calls Tryz.prog 139 #[.int .u64 z] w fun e w' => e = .returned (.int .i64 z) ∧ w' = w := by
  have hr : z % 9223372036854775808 = z := by omega
  have hd : decide (9223372036854775808 ≤ z) = false := by simp; omega
  go_enter Tryz.func139, Tryz.ntmps139
  go_wp2_with fail
  go_ret
  exact ⟨rfl, rfl⟩

theorem reforder_any (v : Nat) (hv : v < 18446744073709551616) (w : World) :
    Calls Tryz.prog 139 #[.int .u64 v] w fun e w' => e = .returned (.int .i64 (ordI v)) ∧ w' = w := by
  unfold ordI
  by_cases c : 9223372036854775808 ≤ v
  · rw [if_pos c]
    exact reforder_hi v _ (by omega) (by omega) (by omega) (by omega) (by omega) w
  · rw [if_neg c, Nat.mod_eq_of_lt (by omega)]
    exact reforder_lo v (by omega) (by omega) w

set_option maxRecDepth 20000 in
set_option maxHeartbeats 400000 in
theorem refbucket_z (z r q : Int) (hz1 : 0 ≤ z) (hz2 : z ≤ 18446744073709551615) (hr : z % 9223372036854775808 = r) (hq : z % 35184372088832 = q) (_hr2 : 0 ≤ r) (_hr3 : r ≤ 9218868437227405312) (_hq1 : 0 ≤ q) (hq2 : q ≤ z) (w : World) :
    Calls Tryz.prog 140 #[.int .u64 z] w fun e w' => e = .returned (.int .u64 (if r = 9218868437227405312 then z else if r < 4503599627370496 then 0 else z - q)) ∧ w' = w := by
  by_cases h1 : r = 9218868437227405312
  · rw [if_pos h1]
    subst h1
    go_enter Tryz.func140, Tryz.ntmps140
    go_wp2_with fail
    go_ret
    exact ⟨rfl, rfl⟩
  · rw [if_neg h1]
    have hd1 : (r == 9218868437227405312) = false := by simpa using h1
    by_cases h2 : r < 4503599627370496
    · rw [if_pos h2]
      have hd2 : decide (r < 4503599627370496) = true := by simpa using h2
      go_enter Tryz.func140, Tryz.ntmps140
      go_wp2_with fail
      go_ret
      exact ⟨rfl, rfl⟩
    · rw [if_neg h2]
      have hd2 : decide (r < 4503599627370496) = false := by simpa using h2
      go_enter Tryz.func140, Tryz.ntmps140
      go_wp2_with fail
      go_ret
      exact ⟨rfl, rfl⟩

theorem refbucket_any (v : Nat) (hv : isNum v) (w : World) :
    Calls Tryz.prog 140 #[.int .u64 v] w fun e w' => e = .returned (.int .u64 (bucketN v)) ∧ w' = w := by
  have h := refbucket_z (v : Int) ((v % 9223372036854775808 : Nat) : Int) ((v % 35184372088832 : Nat) : Int) (by omega) (by have := hv.1; omega) (by omega) (by omega) (by omega) (by have := hv.2; omega) (by omega) (by omega) w
  have hb := bucket_val v hv
  have e : (if ((v % 9223372036854775808 : Nat) : Int) = 9218868437227405312 then (v : Int) else if ((v % 9223372036854775808 : Nat) : Int) < 4503599627370496 then 0 else (v : Int) - ((v % 35184372088832 : Nat) : Int)) = ((bucketN v : Nat) : Int) := by
    rw [hb]
    by_cases h1 : v % 9223372036854775808 = 9218868437227405312
    · rw [if_pos (by omega), if_neg (by omega)]
      omega
    · rw [if_neg (by omega)]
      by_cases h2 : v % 9223372036854775808 < 4503599627370496
      · rw [if_pos (by omega), if_pos h2]; rfl
      · rw [if_neg (by omega), if_neg h2]; omega
  rw [e] at h
  exact h
end Go.Proofs.YtgjhjfldocapjaaGreatDoor

namespace Go.Proofs.YtgjhjfldocapjaaGreatDoor
open Go.RowKit Go.Shelf Go.Maps

/-- what the rule's part of the document's meter holds -/
structure RuleS where
  ru : Bool
  lo : Int
  hi : Int
  le : Int
  mo : Int
  re : Int
  wk : Int
  ch : Int

def rule0 : RuleS := ⟨false, 0, 0, 0, 0, 0, 1, -1⟩

abbrev Cnt := Nat × Int
def flatC (l : List Cnt) : List Value := l.flatMap fun x => [.int .i64 x.1, .int .i64 x.2]

theorem flatC_snoc (l : List Cnt) (x : Cnt) : flatC (l ++ [x]) = flatC l ++ [.int .i64 x.1, .int .i64 x.2] := by simp [flatC]

def rcells (n W C : Nat) (v : Value) (s : RuleS) : Array Value :=
  #[.int .i64 n, .int .i64 W, .int .i64 C, v, .bool s.ru, .int .i64 s.lo, .int .i64 s.hi, .int .i64 s.le, .int .i64 s.mo, .int .i64 s.re, .int .i64 s.wk, .int .i64 s.ch]

/-- the document's meter at a block -/
structure RMt (K : Nat → Prop) (w : World) (yb n W C : Nat) (v : Value) (s : RuleS) (l : List Cnt) : Prop where
  hm : w.heap[yb]? = some (.cells (rcells n W C v s) 144 (0, 0))
  own : w.ownsRow 0 206 2 v l.length (flatC l)
  out : ∀ g, v.ownBlock = some g → ¬ K g
  outy : ¬ K yb
  lt : ∀ k, K k → k < w.heap.size
  hW : 1 ≤ W ∧ W ≤ 1000000
  hC : C ≤ 1099511627776
  hn : 1 ≤ n ∧ n ≤ 8

theorem RMt.c0 {K : Nat → Prop} {w : World} {yb n W C : Nat} {v : Value} {s : RuleS} {l : List Cnt} (h : RMt K w yb n W C v s l) : w.cell? ⟨yb, 0, none⟩ = some (.int .i64 n) := by simp [World.cell?, h.hm, rcells]
theorem RMt.c1 {K : Nat → Prop} {w : World} {yb n W C : Nat} {v : Value} {s : RuleS} {l : List Cnt} (h : RMt K w yb n W C v s l) : w.cell? ⟨yb, 1, none⟩ = some (.int .i64 W) := by simp [World.cell?, h.hm, rcells]
theorem RMt.c2 {K : Nat → Prop} {w : World} {yb n W C : Nat} {v : Value} {s : RuleS} {l : List Cnt} (h : RMt K w yb n W C v s l) : w.cell? ⟨yb, 2, none⟩ = some (.int .i64 C) := by simp [World.cell?, h.hm, rcells]
theorem RMt.c3 {K : Nat → Prop} {w : World} {yb n W C : Nat} {v : Value} {s : RuleS} {l : List Cnt} (h : RMt K w yb n W C v s l) : w.cell? ⟨yb, 3, none⟩ = some v := by simp [World.cell?, h.hm, rcells]
theorem RMt.fr {K : Nat → Prop} {w : World} {yb n W C : Nat} {v : Value} {s : RuleS} {l : List Cnt} (h : RMt K w yb n W C v s l) (i : Nat) : w.frozen? ⟨yb, i, none⟩ = false := by simp [World.frozen?, h.hm]

/-- its row is not its block -/
theorem RMt.ne {K : Nat → Prop} {w : World} {yb n W C : Nat} {v : Value} {s : RuleS} {l : List Cnt} (h : RMt K w yb n W C v s l) : v.ownBlock ≠ some yb := fun e => by
  rcases h.own.2 with ⟨rfl, _⟩ | ⟨g, cap, cur, rfl, hb, hgg, _⟩
  · simp [Value.ownBlock] at e
  · simp [Value.ownBlock] at e
    subst e
    have := h.hm.symm.trans hgg
    injection this with this
    injection this with _ e2 _
    exact absurd e2 (by decide)

theorem RMt.drewN {K : Nat → Prop} {w : World} {yb n W C : Nat} {v : Value} {s : RuleS} {l : List Cnt} (h : RMt K w yb n W C v s l) (q : Nat) : RMt K (w.drewN q) yb n W C v s l :=
  ⟨h.hm, h.own, h.out, h.outy, h.lt, h.hW, h.hC, h.hn⟩

theorem RMt.below {K : Nat → Prop} {w w' : World} {yb n W C : Nat} {v : Value} {s : RuleS} {l : List Cnt} (h : RMt K w yb n W C v s l) (hb : Below w.heap.size w w') : RMt K w' yb n W C v s l :=
  ⟨(hb.block yb (Array.getElem?_eq_some_iff.1 h.hm).1).trans h.hm, h.own.kept (Below.grownBy hb) (by cases v.ownBlock <;> simp), h.out, h.outy, fun k hk => Nat.lt_of_lt_of_le (h.lt k hk) hb.size, h.hW, h.hC, h.hn⟩

set_option maxRecDepth 20000 in
set_option maxHeartbeats 400000 in
theorem refnew_run (n wd : Nat) (hn1 : 1 ≤ n) (hn2 : n ≤ 8) (hw1 : 1 ≤ wd) (hw2 : wd ≤ 1000000) (w : World) :
    Calls Tryz.prog 55 #[.int .i64 n, .int .i64 wd] w fun e w' => e = .returned (.tuple #[.pointer (some ⟨w.heap.size, 0, none⟩), .int .i64 0]) ∧ w' = w.alloc (.cells (rcells n wd 0 (.slice none 0 0) rule0) 144) := by
  go_enter Tryz.func55, Tryz.ntmps55
  go_wp2_with fail
  go_ret2
  exact ⟨rfl, rfl⟩

theorem refnew_ok (K : Nat → Prop) (n wd : Nat) (hn1 : 1 ≤ n) (hn2 : n ≤ 8) (hw1 : 1 ≤ wd) (hw2 : wd ≤ 1000000) (w : World) (hK : ∀ k, K k → k < w.heap.size) :
    Calls Tryz.prog 55 #[.int .i64 n, .int .i64 wd] w fun e w' => ∃ yb v, e = .returned (.tuple #[.pointer (some ⟨yb, 0, none⟩), .int .i64 0]) ∧ RMt K w' yb n wd 0 v rule0 [] ∧ Kept K w w' := by
  refine (refnew_run n wd hn1 hn2 hw1 hw2 w).mono ?_
  rintro e w' ⟨he, rfl⟩
  refine ⟨_, .slice none 0 0, he, ⟨?_, World.ownsRow_nil _ _ _ _, (fun g hg => by cases hg), fun hk => ?_, fun k hk => ?_, ⟨hw1, hw2⟩, by omega, ⟨hn1, hn2⟩⟩, (Kept.refl K w).alloc hK _⟩
  · exact heap_alloc_new w _
  · have := hK _ hk; omega
  · have := hK k hk; simp; omega

set_option maxRecDepth 20000 in
set_option maxHeartbeats 400000 in
theorem reftick_bad {K : Nat → Prop} {w : World} {yb n W C : Nat} {v : Value} {s : RuleS} {l : List Cnt} (h : RMt K w yb n W C v s l) (t : Int) (ht : t < C ∨ 1099511627776 < t) :
    Calls Tryz.prog 93 #[.pointer (some ⟨yb, 0, none⟩), .int .i64 t] w fun e w' => e = .returned (.int .i64 5) ∧ w' = w := by
  have c2 := h.c2
  have hC := h.hC
  clear h
  rcases Int.lt_or_le t C with h | h
  · clear ht
    go_enter Tryz.func93, Tryz.ntmps93
    go_wp2_with fail
    go_ret
    exact ⟨rfl, rfl⟩
  · have ht2 : 1099511627776 < t := by omega
    clear ht
    go_enter Tryz.func93, Tryz.ntmps93
    go_wp2_with fail
    go_ret
    exact ⟨rfl, rfl⟩

set_option maxRecDepth 20000 in
set_option maxHeartbeats 400000 in
theorem reftick_ok {K : Nat → Prop} {w : World} {yb n W C : Nat} {v : Value} {s : RuleS} {l : List Cnt} (h : RMt K w yb n W C v s l) (t : Nat) (ht1 : C ≤ t) (ht2 : t ≤ 1099511627776) :
    Calls Tryz.prog 93 #[.pointer (some ⟨yb, 0, none⟩), .int .i64 t] w fun e w' => e = .returned (.int .i64 0) ∧ RMt K w' yb n W t v s l ∧ Kept K w w' := by
  have c2 := h.c2
  have f2 := h.fr 2
  have H := hide h
  have hd1 : decide ((t : Int) < (C : Int)) = false := by simp; omega
  have hd2 : decide ((1099511627776 : Int) < (t : Int)) = false := by simp; omega
  have hd3 : decide (t < C) = false := by simp; omega
  clear h
  go_enter Tryz.func93, Tryz.ntmps93
  go_wp2_with fail
  go_ret
  have h := unhide H
  refine ⟨rfl, ⟨?_, ?_, h.out, h.outy, fun k hk => by simpa using h.lt k hk, h.hW, ht2, h.hn⟩, (Kept.refl K w).setCell h.outy _⟩
  · rw [heap_setCell_same w yb 2 _ _ _ h.hm]
    rfl
  · have hg : w.grownBy (w.setCell ⟨yb, 2, none⟩ (.int .i64 t)) (some yb) := ⟨rfl, rfl, rfl, by simp, fun k _ hne => Below.heap_setCell w ⟨yb, 2, none⟩ _ k (fun e => hne (by rw [e]))⟩
    exact h.own.kept hg (Or.inr h.ne)
end Go.Proofs.YtgjhjfldocapjaaGreatDoor

namespace Go.Proofs.YtgjhjfldocapjaaGreatDoor
open Go.RowKit Go.Shelf Go.Maps

theorem infoC : (Tryz.prog.info? 206).map (fun i => (i.zero, i.size, i.bytes)) = some (some (.agg #[.int .i64 0, .int .i64 0]), 2, 16) := by kernel_rfl

set_option maxRecDepth 20000 in
set_option maxHeartbeats 400000 in
theorem refadd_arg (yb : Nat) (t : Int) (v : Nat) (w : World) (ht : t < 0 ∨ 1099511627776 < t) :
    Calls Tryz.prog 94 #[.pointer (some ⟨yb, 0, none⟩), .int .i64 t, .int .u64 v] w fun e w' => e = .returned (.int .i64 5) ∧ w' = w := by
  rcases Int.lt_or_le t 0 with h | h
  · clear ht
    go_enter Tryz.func94, Tryz.ntmps94
    go_wp2_with fail
    go_ret
    exact ⟨rfl, rfl⟩
  · have ht2 : 1099511627776 < t := by omega
    clear ht
    go_enter Tryz.func94, Tryz.ntmps94
    go_wp2_with fail
    go_ret
    exact ⟨rfl, rfl⟩

set_option maxRecDepth 20000 in
set_option maxHeartbeats 400000 in
theorem refadd_nan (yb t v : Nat) (w : World) (ht : t ≤ 1099511627776) (hv : v < 18446744073709551616) (hn : numB v = false) :
    Calls Tryz.prog 94 #[.pointer (some ⟨yb, 0, none⟩), .int .i64 t, .int .u64 v] w fun e w' => e = .returned (.int .i64 6) ∧ w' = w := by
  have HI := hide (refIs_any v hv)
  rw [hn] at HI
  clear hv hn
  go_enter Tryz.func94, Tryz.ntmps94
  go_wp2_with fail
  refine (unhide HI _).mono ?_
  rintro e w1 ⟨rfl, e1⟩
  rw [e1]
  clear e1 w1
  go_wp2_with fail
  go_ret
  exact ⟨rfl, rfl⟩

set_option maxRecDepth 20000 in
set_option maxHeartbeats 800000 in
theorem refadd_out {K : Nat → Prop} {w : World} {yb n W C : Nat} {r : Value} {s : RuleS} {l : List Cnt} (h : RMt K w yb n W C r s l) (t v : Nat) (ht : t ≤ 1099511627776) (hv : v < 18446744073709551616) (hn : numB v = true) (ho : t / W + n ≤ C / W ∨ C / W < t / W) :
    Calls Tryz.prog 94 #[.pointer (some ⟨yb, 0, none⟩), .int .i64 t, .int .u64 v] w fun e w' => e = .returned (.int .i64 (if C / W < t / W then 8 else 7)) ∧ ∃ q, w' = w.drewN q := by
  have HI := hide (refIs_any v hv)
  rw [hn] at HI
  have c0 := h.c0
  have c1 := h.c1
  have c2 := h.c2
  have hW := h.hW.1
  have hn8 := h.hn.2
  have hCb := h.hC
  have q1 : (t : Int) / (W : Int) = ((t / W : Nat) : Int) := (Int.natCast_ediv t W).symm
  have q2 : (C : Int) / (W : Int) = ((C / W : Nat) : Int) := (Int.natCast_ediv C W).symm
  have q3 : t / W ≤ t := Nat.div_le_self _ _
  have q4 : C / W ≤ C := Nat.div_le_self _ _
  clear h hv hn
  generalize t / W = tw at *
  generalize C / W = cw at *
  rcases ho with ho | ho
  · rw [if_neg (by omega)]
    have hd : decide ((tw : Int) ≤ (cw : Int) - (n : Int)) = true := by simp; omega
    go_enter Tryz.func94, Tryz.ntmps94
    go_wp2_with fail
    refine (unhide HI _).mono ?_
    rintro e w1 ⟨rfl, e1⟩
    rw [e1]
    clear e1 w1
    go_wp2_with fail
    go_quiet (fail)
    have d0 : (w.drewN nq).cell? ⟨yb, 0, none⟩ = some (.int .i64 n) := c0
    generalize hwq : w.drewN nq = wq at *
    have HW := hide hwq
    clear hwq
    go_wp2_with fail
    go_ret
    exact ⟨rfl, nq, (unhide HW).symm⟩
  · rw [if_pos ho]
    have hd : decide ((tw : Int) ≤ (cw : Int) - (n : Int)) = false := by simp; omega
    have hd2 : decide (cw < tw) = true := by simp; omega
    go_enter Tryz.func94, Tryz.ntmps94
    go_wp2_with fail
    refine (unhide HI _).mono ?_
    rintro e w1 ⟨rfl, e1⟩
    rw [e1]
    clear e1 w1
    go_wp2_with fail
    go_quiet (fail)
    have d0 : (w.drewN nq).cell? ⟨yb, 0, none⟩ = some (.int .i64 n) := c0
    generalize hwq : w.drewN nq = wq at *
    have HW := hide hwq
    clear hwq
    go_wp2_with fail
    go_ret
    exact ⟨rfl, nq, (unhide HW).symm⟩
end Go.Proofs.YtgjhjfldocapjaaGreatDoor

namespace Go.Proofs.YtgjhjfldocapjaaGreatDoor
open Go.RowKit Go.Shelf Go.Maps

set_option maxRecDepth 20000 in
set_option maxHeartbeats 1600000 in
theorem refadd_ok {K : Nat → Prop} {w : World} {yb n W C : Nat} {r : Value} {s : RuleS} {l : List Cnt} (h : RMt K w yb n W C r s l) (t v : Nat) (ht : t ≤ 1099511627776) (hv : isNum v) (ho1 : C / W < t / W + n) (ho2 : t / W ≤ C / W) (hl : l.length < 8000000000000) :
    Calls Tryz.prog 94 #[.pointer (some ⟨yb, 0, none⟩), .int .i64 t, .int .u64 v] w fun e w' => e = .returned (.int .i64 0) ∧ (∃ r', RMt K w' yb n W C r' s (l ++ [(t / W, ordI (bucketN v))])) ∧ Kept K w w' := by
  have hnb : numB v = true := by unfold numB; simpa using hv.2
  have HI := hide (refIs_any v hv.1)
  rw [hnb] at HI
  have HB := hide (refbucket_any v hv)
  have HO := hide (reforder_any (bucketN v) (bucketN_lt v hv.1))
  obtain ⟨i0, hi, hz0, hz1, hz2⟩ := info_parts infoC
  have c0 := h.c0
  have c1 := h.c1
  have c2 := h.c2
  have hW := h.hW.1
  have hn8 := h.hn.2
  have hCb := h.hC
  have H := hide h
  have q1 : (t : Int) / (W : Int) = ((t / W : Nat) : Int) := (Int.natCast_ediv t W).symm
  have q2 : (C : Int) / (W : Int) = ((C / W : Nat) : Int) := (Int.natCast_ediv C W).symm
  have q3 : t / W ≤ t := Nat.div_le_self _ _
  have q4 : C / W ≤ C := Nat.div_le_self _ _
  clear h hv hnb
  generalize t / W = tw at *
  generalize C / W = cw at *
  generalize ordI (bucketN v) = O at *
  generalize bucketN v = bv at *
  have hd : decide ((tw : Int) ≤ (cw : Int) - (n : Int)) = false := by simp; omega
  have hd2 : decide (cw < tw) = false := by simp; omega
  go_enter Tryz.func94, Tryz.ntmps94
  go_wp2_with fail
  refine (unhide HI _).mono ?_
  rintro e w1 ⟨rfl, e1⟩
  rw [e1]
  clear e1 w1
  go_wp2_with fail
  go_quiet (fail)
  have HR := hide ((unhide H).drewN nq)
  have HK0 : Hid (Kept K w (w.drewN nq)) := ⟨rfl, rfl, rfl, Nat.le_refl _, fun _ _ => rfl⟩
  clear c0 c1 c2 H
  generalize w.drewN nq = wq at *
  have c0 := (unhide HR).c0
  go_wp2_with fail
  have c3 := (unhide HR).c3
  have f3 := (unhide HR).fr 3
  have hh := (unhide HR).hm
  have hown := (unhide HR).own
  have hps : yb < wq.heap.size := (Array.getElem?_eq_some_iff.1 hh).1
  clear c0
  go_region_law (first
    | (go_simp; go_at_call 140; refine (unhide HB _).mono ?_; rintro e w' ⟨rfl, rfl⟩)
    | (go_simp; go_at_call 139; refine (unhide HO _).mono ?_; rintro e w' ⟨rfl, rfl⟩)
    | (refine step_append_own rfl (.tmp 50) (.tmp 56) 142 rfl 0 206 i0 (.agg #[.int .i64 0, .int .i64 0]) 2 16 Tryz.underlying142 hi hz0 hz1 hz2 rfl (by decide) r _ _ (by simp [Act.eval]) (hown.drew.alloc _) ⟨wq.heap.size, 0, none⟩ 1 1 [.int .i64 tw, .int .i64 O] (by simp [Act.eval]) rfl (cell_two_at _ _ _ _ _ rfl) (by intro u hu; simp at hu; rcases hu with rfl | rfl <;> rfl) (by unfold maxLen; omega) (by omega) (by simp) ?_; intro v' w1 hown' hgrow hat; obtain ⟨g', cp', rfl⟩ := own_form hown'; have hh1 : w1.heap[yb]? = some (.cells (rcells n W C r s) 144 (0, 0)) := (hgrow.block yb (by simp; omega) (fun e => (unhide HR).ne e.symm)).trans ((Below.heap_alloc _ _ yb (by simpa using hps)).trans hh); have d3 : w1.cell? ⟨yb, 3, none⟩ = some r := by { simp [World.cell?, hh1, rcells] }; have k3 : w1.frozen? ⟨yb, 3, none⟩ = false := by { simp [World.frozen?, hh1] }))
  all_goals
    clear c3 f3 d3 k3
    go_wp2_with fail
    go_ret
    have h := unhide HR
    refine ⟨rfl, ⟨.slice (some ⟨g', 0, none⟩) (l.length + 1) cp', ?_, ?_, ?_, h.outy, fun k hk => ?_, h.hW, h.hC, h.hn⟩, ?_⟩
    · rw [heap_setCell_same w1 yb 3 _ _ _ hh1]
      rfl
    · rw [List.length_append, flatC_snoc]
      have hg : w1.grownBy (w1.setCell ⟨yb, 3, none⟩ (.slice (some ⟨g', 0, none⟩) (l.length + 1) cp')) (some yb) := ⟨rfl, rfl, rfl, by simp, fun k _ hne => Below.heap_setCell w1 ⟨yb, 3, none⟩ _ k (fun e => hne (by rw [e]))⟩
      refine hown'.kept hg (Or.inr (fun e => ?_))
      rcases hat with e2 | e2
      · exact h.ne (e2.symm.trans e)
      · rw [e2] at e
        injection e with e
        have : (wq.alloc (.cells #[.int .i64 tw, .int .i64 O] 206)).heap.size = yb := e
        simp at this
        omega
    · intro g hgg hkg
      rcases hat with e2 | e2
      · exact h.out g (e2.symm.trans hgg) hkg
      · rw [e2] at hgg
        injection hgg with hgg
        have h1 := h.lt g hkg
        have h2 : (wq.alloc (.cells #[.int .i64 tw, .int .i64 O] 206)).heap.size = g := hgg
        simp at h2
        omega
    · have h1 := h.lt k hk
      have h2 := hgrow.size
      simp at h2 ⊢
      omega
    · have hkk : Kept K wq ((wq.alloc (.cells #[.int .i64 tw, .int .i64 O] 206)).drew) := ((Kept.refl K wq).alloc h.lt _).drew
      exact ((unhide HK0).trans (hkk.grown h.lt hgrow (fun k e hk => h.out k e hk))).setCell h.outy _
end Go.Proofs.YtgjhjfldocapjaaGreatDoor

namespace Go.Proofs.YtgjhjfldocapjaaGreatDoor
open Go.RowKit Go.Shelf Go.Maps

theorem infoI : (Tryz.prog.info? 3).map (fun i => (i.zero, i.size, i.bytes)) = some (some (.int .i64 0), 1, 8) := by kernel_rfl

theorem flatC_get (l : List Cnt) (j : Nat) (h : j < l.length) : (flatC l)[j * 2]? = some (.int .i64 ((l.getD j (0, 0)).1 : Nat)) ∧ (flatC l)[j * 2 + 1]? = some (.int .i64 (l.getD j (0, 0)).2) := by
  induction l generalizing j with
  | nil => simp at h
  | cons a r ih =>
    have e : flatC (a :: r) = .int .i64 (a.1 : Nat) :: .int .i64 a.2 :: flatC r := by simp [flatC]
    rw [e]
    cases j with
    | zero => simp
    | succ j =>
      have := ih j (by simpa using h)
      have e1 : (j + 1) * 2 = j * 2 + 1 + 1 := by omega
      rw [e1]
      simpa using this

theorem rdc_own {w : World} {v : Value} {l : List Cnt} (h : w.ownsRow 0 206 2 v l.length (flatC l)) : ∃ ao cap, v = .slice ao l.length cap ∧ l.length ≤ cap ∧ (0 < l.length → ∃ g o, g < w.heap.size ∧ ao = some ⟨g, o, none⟩ ∧ ∀ j, j < l.length → w.cell? ⟨g, o + j * 2, none⟩ = some (.int .i64 ((l.getD j (0, 0)).1 : Nat)) ∧ w.cell? ⟨g, o + j * 2 + 1, none⟩ = some (.int .i64 (l.getD j (0, 0)).2)) := by
  have hlt := h.lt
  rcases h.2 with ⟨rfl, h0⟩ | ⟨g, cap, cur, rfl, hb, hg, hn, hm, hsz, ht⟩
  · exact ⟨none, 0, by rw [h0], by omega, fun h1 => by omega⟩
  · refine ⟨_, cap, rfl, hn, fun _ => ⟨g, 0, (hlt g rfl).2, rfl, fun j hj => ?_⟩⟩
    have hc : ∀ (i : Nat) (u : Value), (flatC l)[i]? = some u → w.cell? ⟨g, i, none⟩ = some u := by
      intro i u hu
      rw [cell_of_row w g i cur _ _ hg]
      rw [← ht, List.getElem?_take] at hu
      split at hu
      · simpa using hu
      · cases hu
    have hf := flatC_get l j hj
    rw [Nat.zero_add]
    exact ⟨hc _ _ hf.1, hc _ _ hf.2⟩

/-- the orders of the samples whose slice is above a bound -/
def lastC (l : List Cnt) (b : Int) : List Int := (l.filter fun x => decide (b < (x.1 : Int))).map (·.2)

abbrev encI : Int → Value := fun x => .int .i64 x

theorem lastC_step (l : List Cnt) (b : Int) (j : Nat) (h : j < l.length) : lastC (l.take (j + 1)) b = lastC (l.take j) b ++ (if b < ((l.getD j (0, 0)).1 : Int) then [(l.getD j (0, 0)).2] else []) := by
  unfold lastC
  rw [List.take_succ_eq_append_getElem h, List.filter_append, List.map_append]
  have e : l.getD j (0, 0) = l[j] := by rw [List.getD_eq_getElem?_getD, List.getElem?_eq_getElem h]; rfl
  rw [e]
  congr 1
  by_cases c : b < (l[j].1 : Int)
  · simp [c]
  · simp [c]

theorem lastC_length (l : List Cnt) (b : Int) : (lastC l b).length ≤ l.length := by
  unfold lastC
  rw [List.length_map]
  exact List.length_filter_le _ _

set_option maxRecDepth 20000 in
set_option maxHeartbeats 1600000 in
theorem reflast_ok {K : Nat → Prop} {w : World} {yb n W C : Nat} {r : Value} {s : RuleS} {l : List Cnt} (h : RMt K w yb n W C r s l) (k : Nat) (hk1 : 1 ≤ k) (hk2 : k ≤ 8) (hl : l.length < 8000000000000) :
    Calls Tryz.prog 141 #[.pointer (some ⟨yb, 0, none⟩), .int .i64 k] w fun e w' => ∃ u, e = .returned u ∧ w'.ownsRow w.heap.size 3 1 u (lastC l ((C / W : Nat) - (k : Int))).length ((lastC l ((C / W : Nat) - (k : Int))).map encI) ∧ Below w.heap.size w w' := by
  obtain ⟨i0, hi, hz0, hz1, hz2⟩ := info_parts infoI
  have H := hide h
  have hW := h.hW.1
  have hCb := h.hC
  have q2 : (C : Int) / (W : Int) = ((C / W : Nat) : Int) := (Int.natCast_ediv C W).symm
  have q4 : C / W ≤ C := Nat.div_le_self _ _
  obtain ⟨ao, cap, rfl, hcap, hcells⟩ := rdc_own h.own
  have HCe := hide hcells
  have HSt := hide (lastC_step l)
  have HLe := hide (lastC_length)
  clear h hcells
  generalize C / W = cw at *
  generalize hL : l.length = L at *
  go_enter Tryz.func141, Tryz.ntmps141
  go_wp2_with fail
  go_loopw [5, 6] (fun v i wr => ∃ j : Nat, j ≤ L ∧ i = .int .i64 j ∧ Hid (wr.ownsRow w.heap.size 3 1 v (lastC (l.take j) ((cw : Int) - (k : Int))).length ((lastC (l.take j) ((cw : Int) - (k : Int))).map encI)) ∧ Hid (Below w.heap.size w wr)) (fun _ i _ => L - (RowKit.intOf i).toNat)
  case atStart => exact ⟨0, by omega, rfl, World.ownsRow_nil _ _ _ _, Below.refl _ _⟩
  case round =>
    obtain ⟨j, hj, rfl, hO, hB⟩ := hrel
    have hM := (unhide H).below (unhide hB)
    have c1 := hM.c1
    have c2 := hM.c2
    have c3 := hM.c3
    by_cases hjn : j < L
    · obtain ⟨g, o, hg, rfl, hce⟩ := unhide HCe (by omega)
      have hst := unhide HSt ((cw : Int) - (k : Int)) j hjn
      have hln := unhide HLe (l.take j) ((cw : Int) - (k : Int))
      rw [List.length_take] at hln
      have e1 := (hce j hjn).1
      have e2 := (hce j hjn).2
      generalize (l.getD j (0, 0)).1 = S at *
      generalize (l.getD j (0, 0)).2 = O at *
      have d1 : wr.cell? ⟨g, o + j * 2, none⟩ = some (.int .i64 S) := ((unhide hB).cell (p := ⟨g, o + j * 2, none⟩) hg).trans e1
      have d2 : wr.cell? ⟨g, o + j * 2 + 1, none⟩ = some (.int .i64 O) := ((unhide hB).cell (p := ⟨g, o + j * 2 + 1, none⟩) hg).trans e2
      have hdj : decide (j < L) = true := by simp; omega
      have HS := hide hst
      clear hce e1 e2 hM hst
      by_cases hb : (cw : Int) - (k : Int) < (S : Int)
      · have hd : decide ((cw : Int) - (k : Int) < (S : Int)) = true := by simpa using hb
        have HH := hide hb
        clear hb
        go_wp2_with fail
        go_quiet (fail)
        have g3 : (wr.drewN nq).cell? ⟨yb, 3, none⟩ = some (.slice (some ⟨g, o, none⟩) L cap) := c3
        have g2 : (wr.drewN nq).cell? ⟨g, o + j * 2 + 1, none⟩ = some (.int .i64 O) := d2
        have HO2 : Hid ((wr.drewN nq).ownsRow w.heap.size 3 1 u5 (lastC (l.take j) ((cw : Int) - (k : Int))).length ((lastC (l.take j) ((cw : Int) - (k : Int))).map encI)) := unhide hO
        have HB2 : Hid (Below w.heap.size w (wr.drewN nq)) := below_drewN (unhide hB) nq
        clear c1 c2 c3 d1 d2 hO hB
        generalize wr.drewN nq = wq at *
        have ho := unhide HO2
        have hs2 := (unhide HB2).size
        go_wp2_with (first
          | (at_builtin; refine wpList_append_own_at _ rfl _ _ 32 rfl w.heap.size 3 i0 (.int .i64 0) 1 8 Tryz.underlying32 hi hz0 hz1 hz2 rfl (by decide) _ _ _ rfl (ho.alloc _) ⟨wq.heap.size, 0, none⟩ 1 1 [.int .i64 O] rfl rfl (cell_one_new _ _ _) (by simp [Value.oneCell']) (by unfold maxLen; omega) (by omega) (by simp; omega) ?_; intro v' W8 hown' hgrow _ hat)
          | go_in)
        have hw8 : W8.ownsRow w.heap.size 3 1 v' (lastC (l.take (j + 1)) ((cw : Int) - (k : Int))).length ((lastC (l.take (j + 1)) ((cw : Int) - (k : Int))).map encI) := by
          rw [unhide HS, if_pos (unhide HH), List.length_append, List.map_append]; exact hown'
        have hb8 : Below w.heap.size w W8 := ((unhide HB2).alloc (unhide HB2).size _).grown hgrow (by simp; omega) (fun k e => (ho.lt k e).1)
        go_roundw
        case rel => exact ⟨j + 1, by omega, rfl, hw8, hb8⟩
        case measure => simp [RowKit.intOf]; omega
      · have hd : decide ((cw : Int) - (k : Int) < (S : Int)) = false := by simpa using hb
        have HH := hide hb
        clear hb
        go_wp2_with fail
        go_quiet (fail)
        have HO2 : Hid ((wr.drewN nq).ownsRow w.heap.size 3 1 u5 (lastC (l.take (j + 1)) ((cw : Int) - (k : Int))).length ((lastC (l.take (j + 1)) ((cw : Int) - (k : Int))).map encI)) := by
          rw [unhide HS, if_neg (by have := unhide HH; omega), List.append_nil]; exact unhide hO
        have HB2 : Hid (Below w.heap.size w (wr.drewN nq)) := below_drewN (unhide hB) nq
        go_wp2_with fail
        go_roundw
        case rel => exact ⟨j + 1, by omega, rfl, HO2, HB2⟩
        case measure => simp [RowKit.intOf]; omega
    · obtain rfl : j = L := by omega
      have hdj : decide (j < j) = false := by simp
      rw [List.take_of_length_le (by omega)] at hO
      clear hM
      go_wp2_with fail
      go_ret
      exact ⟨_, rfl, unhide hO, unhide hB⟩
end Go.Proofs.YtgjhjfldocapjaaGreatDoor

namespace Go.Proofs.YtgjhjfldocapjaaGreatDoor
open Go.RowKit Go.Shelf Go.Maps

/-! the values in another order -/
def turnAt (n f i : Nat) : Nat := (n - 1 - i + f) % n

theorem turnAt_lt {n f i : Nat} (h : 0 < n) : turnAt n f i < n := Nat.mod_lt _ h

theorem turnAt_inj {n f i j : Nat} (hi : i < n) (hj : j < n) (h : turnAt n f i = turnAt n f j) : i = j := by
  unfold turnAt at h
  have key : ∀ a b : Nat, a < n → b < n → (a + f) % n = (b + f) % n → a = b := by
    intro a b ha hb hab
    rw [Nat.add_mod a f n, Nat.add_mod b f n, Nat.mod_eq_of_lt ha, Nat.mod_eq_of_lt hb] at hab
    have hf : f % n < n := Nat.mod_lt _ (by omega)
    generalize f % n = r at *
    rcases Nat.lt_or_ge (a + r) n with h1 | h1
    · rw [Nat.mod_eq_of_lt h1] at hab
      rcases Nat.lt_or_ge (b + r) n with h2 | h2
      · rw [Nat.mod_eq_of_lt h2] at hab; omega
      · rw [Nat.mod_eq_sub_mod h2, Nat.mod_eq_of_lt (by omega)] at hab; omega
    · rw [Nat.mod_eq_sub_mod h1, Nat.mod_eq_of_lt (by omega)] at hab
      rcases Nat.lt_or_ge (b + r) n with h2 | h2
      · rw [Nat.mod_eq_of_lt h2] at hab; omega
      · rw [Nat.mod_eq_sub_mod h2, Nat.mod_eq_of_lt (by omega)] at hab; omega
  have := key (n - 1 - i) (n - 1 - j) (by omega) (by omega) h
  omega

def turned (D : List Nat) (f k : Nat) : List Nat := (List.range k).map fun i => D.getD (turnAt D.length f i) 0

theorem turned_length (D : List Nat) (f k : Nat) : (turned D f k).length = k := by simp [turned]
theorem turned_snoc (D : List Nat) (f k : Nat) : turned D f (k + 1) = turned D f k ++ [D.getD (turnAt D.length f k) 0] := by
  unfold turned
  rw [List.range_succ, List.map_append]
  rfl

theorem getD_mem (D : List Nat) (i : Nat) (h : i < D.length) : D.getD i 0 ∈ D := by
  rw [List.getD_eq_getElem?_getD, List.getElem?_eq_getElem h]
  exact List.getElem_mem _

theorem turned_mem (D : List Nat) (f k : Nat) (hk : k ≤ D.length) : ∀ x ∈ turned D f k, x ∈ D := by
  intro x hx
  obtain ⟨i, hi, rfl⟩ := List.mem_map.1 hx
  exact getD_mem D _ (turnAt_lt (by have := List.mem_range.1 hi; omega))

theorem map_range_getD (D : List Nat) : (List.range D.length).map (fun i => D.getD i 0) = D := by
  apply List.ext_getElem
  · simp
  · intro i h1 h2
    simp [List.getElem?_eq_getElem h2]

theorem perm_of_sub : ∀ (l m : List Nat), l.Nodup → l ⊆ m → m.length ≤ l.length → l.Perm m
  | [], m, _, _, h => by
    have : m = [] := List.eq_nil_of_length_eq_zero (by rw [List.length_nil] at h; omega)
    subst this
    exact List.Perm.refl _
  | a :: r, m, hn, hs, h => by
    have ham : a ∈ m := hs (by simp)
    have hn' := List.nodup_cons.1 hn
    have hsub : r ⊆ m.erase a := fun x hx => by
      have hne : x ≠ a := fun e => by subst e; exact hn'.1 hx
      exact (List.mem_erase_of_ne hne).2 (hs (by simp [hx]))
    have hlen : (m.erase a).length ≤ r.length := by
      rw [List.length_erase_of_mem ham]
      simp only [List.length_cons] at h
      omega
    exact ((perm_of_sub r (m.erase a) hn'.2 hsub hlen).cons a).trans (List.perm_cons_erase ham).symm

theorem turned_perm (D : List Nat) (f : Nat) : (turned D f D.length).Perm D := by
  have e : turned D f D.length = ((List.range D.length).map (turnAt D.length f)).map fun i => D.getD i 0 := by
    unfold turned
    rw [List.map_map]
    rfl
  rw [e]
  have hp : ((List.range D.length).map (turnAt D.length f)).Perm (List.range D.length) := by
    have hnd : ((List.range D.length).map (turnAt D.length f)).Nodup := by
      rw [List.nodup_iff_pairwise_ne, List.pairwise_map]
      refine List.Pairwise.imp_of_mem ?_ (List.nodup_iff_pairwise_ne.1 List.nodup_range)
      intro a b ha hb hne heq
      exact hne (turnAt_inj (List.mem_range.1 ha) (List.mem_range.1 hb) heq)
    have hsub : ((List.range D.length).map (turnAt D.length f)) ⊆ List.range D.length := by
      intro x hx
      obtain ⟨i, hi, rfl⟩ := List.mem_map.1 hx
      exact List.mem_range.2 (turnAt_lt (by have := List.mem_range.1 hi; omega))
    exact perm_of_sub _ _ hnd hsub (by simp)
  have := hp.map fun i => D.getD i 0
  rw [map_range_getD] at this
  exact this

/-- what the meter answers hangs on the bag alone -/
theorem rank_perm {L M : List Nat} (h : L.Perm M) (hL : ∀ x ∈ L, isB x) (r : Nat) : rankOf (fun x => L.count x) (ksOf L) r = rankOf (fun x => M.count x) (ksOf M) r := by
  have hM : ∀ x ∈ M, isB x := fun x hx => hL x (h.mem_iff.2 hx)
  have e1 : ksOf L = ksOf M := sorted_eq _ _ (ksOf_sorted L hL) (ksOf_sorted M hM) (fun x => by rw [mem_ksOf, mem_ksOf]; exact h.mem_iff)
  have e2 : (fun x => L.count x) = fun x => M.count x := by
    funext x
    exact h.count_eq x
  rw [e1, e2]

theorem rank_bucket (D : List Nat) (hD : ∀ x ∈ D, isNum x) (R : Nat) (h1 : 1 ≤ R) (h2 : R ≤ D.length) : ∃ t, t < D.length ∧ hasRank D R t ∧ rankOf (fun k => (D.map bucketN).count k) (ksOf (D.map bucketN)) R = bucketN (D.getD t 0) := by
  obtain ⟨t, ht, h⟩ := some_rank D R h1 h2
  exact ⟨t, ht, h, rank_at D hD R t ht h⟩

/-- a greater rank has no lesser value -/
theorem rank_rises (D : List Nat) (hD : ∀ x ∈ D, isNum x) (R S : Nat) (h1 : 1 ≤ R) (h2 : R ≤ S) (h3 : S ≤ D.length) :
    ordI (rankOf (fun k => (D.map bucketN).count k) (ksOf (D.map bucketN)) R) ≤ ordI (rankOf (fun k => (D.map bucketN).count k) (ksOf (D.map bucketN)) S) := by
  obtain ⟨t, ht, ⟨ta, tb⟩, et⟩ := rank_bucket D hD R h1 (by omega)
  obtain ⟨s, hs, ⟨sa, sb⟩, es⟩ := rank_bucket D hD S (by omega) h3
  rw [et, es]
  refine bucket_mono (hD _ (getD_mem D t ht)) (hD _ (getD_mem D s hs)) ?_
  rcases Int.lt_or_le (ordI (D.getD s 0)) (ordI (D.getD t 0)) with h | h
  · exfalso
    have : cL D (D.getD s 0) D.length + cE D (D.getD s 0) D.length ≤ cL D (D.getD t 0) D.length := by
      rw [cLE]
      unfold cL
      refine cnt_le (fun x _ hp => ?_)
      simp only [decide_eq_true_eq] at hp ⊢
      omega
    omega
  · exact h

theorem rank_lt (D : List Nat) (hD : ∀ x ∈ D, isNum x) (R : Nat) (h1 : 1 ≤ R) (h2 : R ≤ D.length) : rankOf (fun k => (D.map bucketN).count k) (ksOf (D.map bucketN)) R < 18446744073709551616 := by
  obtain ⟨t, ht, _, et⟩ := rank_bucket D hD R h1 h2
  rw [et]
  exact bucketN_lt _ (hD _ (getD_mem D t ht)).1

theorem rankN_mono {a b c n : Nat} (h : a ≤ c) : rankN a b n ≤ rankN c b n := by
  unfold rankN
  have h1 : a * n ≤ c * n := Nat.mul_le_mul_right n h
  have h2 : (a * n + b - 1) / b ≤ (c * n + b - 1) / b := Nat.div_le_div_right (by omega)
  omega

theorem inOf_all (D : List Nat) (hD : ∀ x ∈ D, isNum x) (hl : D.length ≤ 50) : inOf D 50 = D := by
  unfold inOf
  rw [List.take_of_length_le hl, List.filter_eq_self]
  intro x hx
  unfold numB
  simpa using (hD x hx).2
end Go.Proofs.YtgjhjfldocapjaaGreatDoor

namespace Go.Proofs.YtgjhjfldocapjaaGreatDoor
open Go.RowKit Go.Shelf Go.Maps

theorem rdi_own {w : World} {base : Nat} {v : Value} {l : List Int} (h : w.ownsRow base 3 1 v l.length (l.map encI)) : ∃ ao cap, v = .slice ao l.length cap ∧ l.length ≤ cap ∧ (0 < l.length → ∃ g o, ao = some ⟨g, o, none⟩ ∧ ∀ j, j < l.length → w.cell? ⟨g, o + j, none⟩ = some (.int .i64 (l.getD j 0))) := by
  rcases h.2 with ⟨rfl, h0⟩ | ⟨g, cap, cur, rfl, hb, hg, hn, hm, hsz, ht⟩
  · exact ⟨none, 0, by rw [h0], by omega, fun h1 => by omega⟩
  · refine ⟨_, cap, rfl, hn, fun _ => ⟨g, 0, rfl, fun j hj => ?_⟩⟩
    have hc : ∀ (i : Nat) (u : Value), (l.map encI)[i]? = some u → w.cell? ⟨g, i, none⟩ = some u := by
      intro i u hu
      rw [cell_of_row w g i cur _ _ hg]
      rw [← ht, List.getElem?_take] at hu
      split at hu
      · simpa using hu
      · cases hu
    rw [Nat.zero_add]
    refine hc j _ ?_
    rw [List.getElem?_map, List.getD_eq_getElem?_getD, List.getElem?_eq_getElem hj]
    rfl

theorem rank_found {b Q i : Nat} (hb : 1 ≤ b) (h1 : 1 ≤ i) (h2 : i = 1 ∨ (i - 1) * b < Q) (h3 : Q ≤ i * b) : i = max 1 ((Q + b - 1) / b) := by
  rcases h2 with rfl | h2
  · have : (Q + b - 1) / b ≤ 1 := by
      apply Nat.le_of_lt_succ
      rw [Nat.div_lt_iff_lt_mul hb]
      omega
    omega
  · have e : i = (i - 1) + 1 := by omega
    have k : i * b = (i - 1) * b + b := by rw [e, Nat.add_mul, Nat.one_mul]; simp
    have : (Q + b - 1) / b = i := by
      apply Nat.div_eq_of_lt_le
      · omega
      · have : (i + 1) * b = i * b + b := by rw [Nat.add_mul, Nat.one_mul]
        omega
    omega

set_option maxRecDepth 40000 in
set_option maxHeartbeats 8000000 in
theorem refrank_ok {K : Nat → Prop} {w : World} {yb n W C : Nat} {r : Value} {s : RuleS} {l : List Cnt} (h : RMt K w yb n W C r s l) (k a b : Nat) (hk1 : 1 ≤ k) (hk2 : k ≤ n) (hb1 : 1 ≤ b) (hb2 : b ≤ 1000) (hab : a ≤ b) (hl : l.length < 8000000000000)
    (D : List Nat) (hD : lastC l ((C / W : Nat) - (k : Int)) = D.map ordI) (hDb : ∀ x ∈ D, isNum x) (hne : D ≠ []) :
    Calls Tryz.prog 142 #[.pointer (some ⟨yb, 0, none⟩), .int .i64 k, .int .i64 a, .int .i64 b] w fun e w' => (∃ i, i < D.length ∧ hasRank D (rankN a b D.length) i ∧ e = .returned (.tuple #[.int .i64 (ordI (D.getD i 0)), .int .i64 0])) ∧ Below w.heap.size w w' := by
  have hn8 := h.hn.2
  have c0 := h.c0
  have HLa := hide (reflast_ok h k hk1 (by omega) hl)
  rw [hD] at HLa
  have hDl : D.length < 8000000000000 := by
    have h1 := lastC_length l ((C / W : Nat) - (k : Int))
    rw [hD, List.length_map] at h1
    omega
  have hn1 : 1 ≤ D.length := by
    cases D with
    | nil => exact absurd rfl hne
    | cons x r => simp
  have HZ : Hid (∀ t, t < D.length → -9223372036854775808 ≤ ordI (D.getD t 0) ∧ ordI (D.getD t 0) ≤ 9223372036854775807) := fun t ht => by
    have hx := hDb (D.getD t 0) (getD_mem D t ht)
    have h2 : D.getD t 0 % 9223372036854775808 < 9223372036854775808 := Nat.mod_lt _ (by omega)
    unfold ordI
    split <;> omega
  have HsL := hide (cL_step D)
  have HsE := hide (cE_step D)
  have HlL := hide (cL_le D)
  have HlE := hide (cE_le D)
  have HhR : Hid (∀ R t, hasRank D R t ↔ (cL D (D.getD t 0) D.length < R ∧ R ≤ cL D (D.getD t 0) D.length + cE D (D.getD t 0) D.length)) := fun _ _ => Iff.rfl
  have HSo := hide (some_rank D)
  have HRl := hide (rankN_le (a := a) (b := b) (n := D.length) hab hb1 hn1)
  clear h hD hne hDb
  rw [List.length_map] at HLa
  generalize hN : D.length = m at *
  obtain ⟨Q, hQ⟩ : ∃ Q, Q = a * m := ⟨_, rfl⟩
  have hQi : (a : Int) * (m : Int) = (Q : Int) := by rw [hQ]; push_cast; rfl
  have hQle : Q ≤ 8000000000000000 := by
    have h1 : a * m ≤ 1000 * 8000000000000 := Nat.mul_le_mul (by omega) (by omega)
    omega
  have HrN : Hid (rankN a b m = max 1 ((Q + b - 1) / b)) := by rw [hQ]; rfl
  clear hQ
  go_enter Tryz.func142, Tryz.ntmps142
  have hda : decide (n < k) = false := by simp; omega
  have hdb : decide (b < a) = false := by simp; omega
  go_wp2_with fail
  refine (unhide HLa).mono ?_
  rintro e w2 ⟨u, rfl, hO, hB⟩
  have HB := hide hB
  have hr : ∃ ao cap, u = .slice ao m cap ∧ m ≤ cap ∧ (0 < m → ∃ g o, ao = some ⟨g, o, none⟩ ∧ ∀ j, j < m → w2.cell? ⟨g, o + j, none⟩ = some (.int .i64 (ordI (D.getD j 0)))) := by
    have h1 := rdi_own (l := D.map ordI) (by rw [List.length_map, hN]; exact hO)
    rw [List.length_map, hN] at h1
    obtain ⟨ao, cap, h2, h3, h4⟩ := h1
    refine ⟨ao, cap, h2, h3, fun h0 => ?_⟩
    obtain ⟨g, o, h5, h6⟩ := h4 h0
    refine ⟨g, o, h5, fun j hj => ?_⟩
    rw [h6 j hj]
    congr 2
    have hj2 : j < D.length := by rw [hN]; exact hj
    simp [List.getD_eq_getElem?_getD, List.getElem?_eq_getElem hj2]
  obtain ⟨ao, cap, rfl, hcap, hcells⟩ := hr
  obtain ⟨g, o, rfl, hce⟩ := hcells (by omega)
  have HCe := hide hce
  clear hce hcells hO hB HLa c0
  have HDm := hide hda
  clear hda hdb
  go_wp2_with fail
  go_loopw [12] (fun rv wr => ∃ i : Nat, 1 ≤ i ∧ rv = .int .i64 i ∧ Hid (i = 1 ∨ (i - 1) * b < Q) ∧ i ≤ Q + 1 ∧ w2 = wr) (fun rv _ => Q + 1 - (RowKit.intOf rv).toNat)
  case atStart => exact ⟨1, by omega, rfl, Or.inl rfl, by omega, rfl⟩
  case round =>
    obtain ⟨i, hi1, rfl, hid, hiQ, rfl⟩ := hrel
    obtain ⟨P, hP⟩ : ∃ P, P = i * b := ⟨_, rfl⟩
    have hPi : (i : Int) * (b : Int) = (P : Int) := by rw [hP]; push_cast; rfl
    have hiP : i ≤ P := by rw [hP]; exact Nat.le_mul_of_pos_right i (by omega)
    have hPle : P ≤ Q + 1000 := by
      rw [hP]
      rcases unhide hid with h1 | h1
      · subst h1; omega
      · have e : i = (i - 1) + 1 := by omega
        have k1 : i * b = (i - 1) * b + b := by rw [e, Nat.add_mul, Nat.one_mul]; simp
        omega
    by_cases hlt : P < Q
    · have HLt : Hid ((i + 1 - 1) * b < Q) := by
        show (i + 1 - 1) * b < Q
        rw [Nat.add_sub_cancel, ← hP]; exact hlt
      have hdl : decide (P < Q) = true := by simp; omega
      clear hP
      go_wp2_with fail
      go_roundw
      case rel => exact ⟨i + 1, by omega, rfl, Or.inr (unhide HLt), by omega, by first | rfl | trivial⟩
      case measure => simp [RowKit.intOf]; omega
    · have hiR : i = rankN a b m := by
        rw [unhide HrN]
        exact rank_found hb1 hi1 (unhide hid) (by rw [← hP]; omega)
      have hdl : decide (P < Q) = false := by simp; omega
      clear hP hid
      have HiR := hide hiR
      clear hiR
      go_wp2_with fail
      have HSo2 : Hid (∃ t, t < m ∧ hasRank D i t) := by
        rw [unhide HiR]
        exact unhide HSo _ (by rw [← unhide HiR]; exact hi1) (unhide HRl)
      have hRl : i ≤ m := by rw [unhide HiR]; exact unhide HRl
      clear hPi hiP hPle hlt hdl hQi hQle hiQ HSo HRl HrN
      go_loopw [13, 14, 15, 16] (fun iv _ _ _ wr => ∃ (j q : Nat), j ≤ m ∧ iv = .int .i64 j ∧ wr = w2.drewN q ∧ Hid (∀ t, t < j → ¬ hasRank D i t)) (fun iv _ _ _ _ => m - (RowKit.intOf iv).toNat)
      case atStart => exact ⟨0, 0, by omega, rfl, rfl, fun t ht => by omega⟩
      case round =>
        obtain ⟨j, q, hj, rfl, rfl, hno⟩ := hrel
        by_cases hjn : j < m
        · have hcz0 := unhide HCe j hjn
          have hzr := unhide HZ j hjn
          have HhRj := hide (unhide HhR i j)
          have HsLz := hide (unhide HsL (D.getD j 0))
          have HsEz := hide (unhide HsE (D.getD j 0))
          have HlLz := hide (unhide HlL (D.getD j 0))
          have HlEz := hide (unhide HlE (D.getD j 0))
          have hL0 : cL D (D.getD j 0) 0 = 0 := by simp [cL, cntP]
          have hE0 : cE D (D.getD j 0) 0 = 0 := by simp [cE, cntP]
          obtain ⟨z, hz⟩ : ∃ z, D.getD j 0 = z := ⟨_, rfl⟩
          have HZe := hide hz
          rw [hz] at hcz0 hzr HhRj HsLz HsEz HlLz HlEz hL0 hE0
          clear hz
          obtain ⟨oz, hoz⟩ : ∃ oz, ordI z = oz := ⟨_, rfl⟩
          rw [hoz] at hcz0 hzr HsLz HsEz
          have HOz := hide hoz
          clear hoz
          go_wp2_with fail
          go_loopw [14, 15, 16] (fun un sa kk wx => ∃ (t s2 : Nat), t ≤ m ∧ kk = .int .i64 t ∧ un = .int .i64 (cL D z t : Nat) ∧ sa = .int .i64 (cE D z t : Nat) ∧ wx = w2.drewN s2) (fun _ _ kk _ => m - (RowKit.intOf kk).toNat)
          case atStart => exact ⟨0, q, by omega, rfl, by rw [hL0]; rfl, by rw [hE0]; rfl, rfl⟩
          case round =>
            obtain ⟨t, s2, ht, rfl, rfl, rfl, rfl⟩ := hrel
            by_cases htn : t < m
            · have hcy0 := unhide HCe t htn
              have hyr := unhide HZ t htn
              have hsl := unhide HsLz t htn
              have hse := unhide HsEz t htn
              have hll := unhide HlLz t
              have hle := unhide HlEz t
              generalize ordI (D.getD t 0) = oy at *
              have hcy : (w2.drewN s2).cell? ⟨g, o + t, none⟩ = some (.int .i64 oy) := hcy0
              have hcz : (w2.drewN s2).cell? ⟨g, o + j, none⟩ = some (.int .i64 oz) := hcz0
              have HC0 := hide hcz0
              clear hcy0 hcz0
              generalize hwq : w2.drewN s2 = wq at *
              have HWq := hide hwq
              clear hwq
              have HSl := hide hsl
              have HSe := hide hse
              clear hsl hse
              generalize hcl : cL D z t = c1 at *
              generalize hcE : cE D z t = c2 at *
              rcases Int.lt_trichotomy oy oz with h | h | h
              · have hd1 : decide (oy < oz) = true := by simp; omega
                have hd2 : (oy == oz) = false := by simp; omega
                have HH := hide h
                clear h
                go_wp2_with fail
                go_quiet (fail)
                have hcy2 : (wq.drewN nq).cell? ⟨g, o + t, none⟩ = some (.int .i64 oy) := hcy
                have hcz2 : (wq.drewN nq).cell? ⟨g, o + j, none⟩ = some (.int .i64 oz) := hcz
                have HW2 : Hid (∃ s', wq.drewN nq = w2.drewN s') := ⟨s2 + nq, by rw [← unhide HWq]; unfold World.drewN; rw [Nat.add_assoc]⟩
                clear hcy hcz HWq
                generalize wq.drewN nq = wq2 at *
                clear wq
                go_wp2_with fail
                go_quiet (fail)
                go_wp2_with fail
                obtain ⟨s', hs'⟩ := unhide HW2
                go_roundw
                case rel => exact ⟨t + 1, s' + nq, by omega, rfl, by rw [unhide HSl, if_pos (by have := unhide HH; omega)]; rfl, by rw [unhide HSe, if_neg (by have := unhide HH; omega)]; rfl, by rw [hs']; unfold World.drewN; rw [Nat.add_assoc]⟩
                case measure => simp [RowKit.intOf]; omega
              · have hd1 : decide (oy < oz) = false := by simp; omega
                have hd2 : (oy == oz) = true := by simp; omega
                have HH := hide h
                clear h
                go_wp2_with fail
                go_quiet (fail)
                have hcy2 : (wq.drewN nq).cell? ⟨g, o + t, none⟩ = some (.int .i64 oy) := hcy
                have hcz2 : (wq.drewN nq).cell? ⟨g, o + j, none⟩ = some (.int .i64 oz) := hcz
                have HW2 : Hid (∃ s', wq.drewN nq = w2.drewN s') := ⟨s2 + nq, by rw [← unhide HWq]; unfold World.drewN; rw [Nat.add_assoc]⟩
                clear hcy hcz HWq
                generalize wq.drewN nq = wq2 at *
                clear wq
                go_wp2_with fail
                go_quiet (fail)
                go_wp2_with fail
                obtain ⟨s', hs'⟩ := unhide HW2
                go_roundw
                case rel => exact ⟨t + 1, s' + nq, by omega, rfl, by rw [unhide HSl, if_neg (by have := unhide HH; omega)]; rfl, by rw [unhide HSe, if_pos (by have := unhide HH; omega)]; rfl, by rw [hs']; unfold World.drewN; rw [Nat.add_assoc]⟩
                case measure => simp [RowKit.intOf]; omega
              · have hd1 : decide (oy < oz) = false := by simp; omega
                have hd2 : (oy == oz) = false := by simp; omega
                have HH := hide h
                clear h
                go_wp2_with fail
                go_quiet (fail)
                have hcy2 : (wq.drewN nq).cell? ⟨g, o + t, none⟩ = some (.int .i64 oy) := hcy
                have hcz2 : (wq.drewN nq).cell? ⟨g, o + j, none⟩ = some (.int .i64 oz) := hcz
                have HW2 : Hid (∃ s', wq.drewN nq = w2.drewN s') := ⟨s2 + nq, by rw [← unhide HWq]; unfold World.drewN; rw [Nat.add_assoc]⟩
                clear hcy hcz HWq
                generalize wq.drewN nq = wq2 at *
                clear wq
                go_wp2_with fail
                go_quiet (fail)
                go_wp2_with fail
                obtain ⟨s', hs'⟩ := unhide HW2
                go_roundw
                case rel => exact ⟨t + 1, s' + nq, by omega, rfl, by rw [unhide HSl, if_neg (by have := unhide HH; omega)]; rfl, by rw [unhide HSe, if_neg (by have := unhide HH; omega)]; rfl, by rw [hs']; unfold World.drewN; rw [Nat.add_assoc]⟩
                case measure => simp [RowKit.intOf]; omega
            · obtain rfl : t = m := by omega
              have hll := unhide HlLz t
              have hle := unhide HlEz t
              generalize cL D z t = c1 at *
              generalize cE D z t = c2 at *
              by_cases h1 : c1 < i
              · by_cases h2 : i ≤ c1 + c2
                · have hcz : (w2.drewN s2).cell? ⟨g, o + j, none⟩ = some (.int .i64 oz) := hcz0
                  have HBs : Hid (Below w.heap.size w (w2.drewN s2)) := below_drewN (unhide HB) s2
                  have HFi : Hid (hasRank D (rankN a b t) j) := by
                    rw [← unhide HiR]
                    exact (unhide HhRj).2 ⟨h1, h2⟩
                  clear hcz0
                  generalize w2.drewN s2 = wq at *
                  have hd1 : decide ((c1 : Int) < (i : Int)) = true := by simp; omega
                  have hd2 : decide ((i : Int) ≤ (c1 : Int) + (c2 : Int)) = true := by simp; omega
                  go_wp2_with fail
                  go_ret2
                  exact ⟨⟨j, hjn, unhide HFi, by rw [unhide HZe, unhide HOz]; rfl⟩, unhide HBs⟩
                · have hd1 : decide ((c1 : Int) < (i : Int)) = true := by simp; omega
                  have hd2 : decide ((i : Int) ≤ (c1 : Int) + (c2 : Int)) = false := by simp; omega
                  have HNo : Hid (∀ q, q < j + 1 → ¬ hasRank D i q) := fun q hq hr => by
                    rcases Nat.lt_or_ge q j with k | k
                    · exact unhide hno q k hr
                    · obtain rfl : q = j := by omega
                      have := (unhide HhRj).1 hr
                      omega
                  go_wp2_with fail
                  go_roundw
                  case rel => exact ⟨j + 1, s2, by omega, rfl, by first | rfl | trivial, HNo⟩
                  case measure => simp [RowKit.intOf]; omega
              · have hd1 : decide ((c1 : Int) < (i : Int)) = false := by simp; omega
                have HNo : Hid (∀ q, q < j + 1 → ¬ hasRank D i q) := fun q hq hr => by
                  rcases Nat.lt_or_ge q j with k | k
                  · exact unhide hno q k hr
                  · obtain rfl : q = j := by omega
                    have := (unhide HhRj).1 hr
                    omega
                go_wp2_with fail
                go_roundw
                case rel => exact ⟨j + 1, s2, by omega, rfl, by first | rfl | trivial, HNo⟩
                case measure => simp [RowKit.intOf]; omega
        · obtain ⟨t, ht, h⟩ := unhide HSo2
          exact absurd h (unhide hno t (by omega))
end Go.Proofs.YtgjhjfldocapjaaGreatDoor

namespace Go.Proofs.YtgjhjfldocapjaaGreatDoor
open Go.RowKit Go.Shelf Go.Maps

/-- is this a good look back, and a good part? -/
def partOk (n : Nat) (k a b : Int) : Prop := 1 ≤ k ∧ k ≤ n ∧ 1 ≤ b ∧ b ≤ 1000 ∧ 0 ≤ a ∧ a ≤ b

set_option maxRecDepth 20000 in
set_option maxHeartbeats 800000 in
theorem refrank_bad {K : Nat → Prop} {w : World} {yb n W C : Nat} {r : Value} {s : RuleS} {l : List Cnt} (h : RMt K w yb n W C r s l) (k a b : Int) (hp : ¬ partOk n k a b) :
    Calls Tryz.prog 142 #[.pointer (some ⟨yb, 0, none⟩), .int .i64 k, .int .i64 a, .int .i64 b] w fun e w' => e = .returned (.tuple #[.int .i64 0, .int .i64 5]) ∧ w' = w := by
  have c0 := h.c0
  have hn8 := h.hn.2
  clear h
  unfold partOk at hp
  by_cases h1 : 1 ≤ k
  · by_cases h2 : k ≤ n
    · by_cases h3 : 1 ≤ b
      · by_cases h4 : b ≤ 1000
        · by_cases h5 : 0 ≤ a
          · have h6 : b < a := by omega
            have f0 : decide (k < 1) = false := by simp; omega
            have f1 : decide ((n : Int) < k) = false := by simp; omega
            have f2 : decide (b < 1) = false := by simp; omega
            have f3 : decide (1000 < b) = false := by simp; omega
            have f4 : decide (a < 0) = false := by simp; omega
            have f5 : decide (b < a) = true := by simp; omega
            clear hp
            go_enter Tryz.func142, Tryz.ntmps142
            go_wp2_with fail
            go_ret2
            exact ⟨rfl, rfl⟩
          · have h6 : a < 0 := by omega
            have f0 : decide (k < 1) = false := by simp; omega
            have f1 : decide ((n : Int) < k) = false := by simp; omega
            have f2 : decide (b < 1) = false := by simp; omega
            have f3 : decide (1000 < b) = false := by simp; omega
            have f4 : decide (a < 0) = true := by simp; omega
            clear hp h5
            go_enter Tryz.func142, Tryz.ntmps142
            go_wp2_with fail
            go_ret2
            exact ⟨rfl, rfl⟩
        · have h6 : 1000 < b := by omega
          have f0 : decide (k < 1) = false := by simp; omega
          have f1 : decide ((n : Int) < k) = false := by simp; omega
          have f2 : decide (b < 1) = false := by simp; omega
          have f3 : decide (1000 < b) = true := by simp; omega
          clear hp h4
          go_enter Tryz.func142, Tryz.ntmps142
          go_wp2_with fail
          go_ret2
          exact ⟨rfl, rfl⟩
      · have h6 : b < 1 := by omega
        have f0 : decide (k < 1) = false := by simp; omega
        have f1 : decide ((n : Int) < k) = false := by simp; omega
        have f2 : decide (b < 1) = true := by simp; omega
        clear hp h3
        go_enter Tryz.func142, Tryz.ntmps142
        go_wp2_with fail
        go_ret2
        exact ⟨rfl, rfl⟩
    · have h6 : (n : Int) < k := by omega
      have f0 : decide (k < 1) = false := by simp; omega
      have f1 : decide ((n : Int) < k) = true := by simp; omega
      clear hp h2
      go_enter Tryz.func142, Tryz.ntmps142
      go_wp2_with fail
      go_ret2
      exact ⟨rfl, rfl⟩
  · have h6 : k < 1 := by omega
    have f0 : decide (k < 1) = true := by simp; omega
    clear hp h1
    go_enter Tryz.func142, Tryz.ntmps142
    go_wp2_with fail
    go_ret2
    exact ⟨rfl, rfl⟩

set_option maxRecDepth 20000 in
set_option maxHeartbeats 800000 in
theorem refrank_empty {K : Nat → Prop} {w : World} {yb n W C : Nat} {r : Value} {s : RuleS} {l : List Cnt} (h : RMt K w yb n W C r s l) (k a b : Nat) (hk1 : 1 ≤ k) (hk2 : k ≤ n) (hb1 : 1 ≤ b) (hb2 : b ≤ 1000) (hab : a ≤ b) (hl : l.length < 8000000000000)
    (hD : lastC l ((C / W : Nat) - (k : Int)) = []) :
    Calls Tryz.prog 142 #[.pointer (some ⟨yb, 0, none⟩), .int .i64 k, .int .i64 a, .int .i64 b] w fun e w' => e = .returned (.tuple #[.int .i64 0, .int .i64 9]) ∧ Below w.heap.size w w' := by
  have hn8 := h.hn.2
  have c0 := h.c0
  have HLa := hide (reflast_ok h k hk1 (by omega) hl)
  rw [hD] at HLa
  clear h hD
  have hda : decide (n < k) = false := by simp; omega
  have hdb : decide (b < a) = false := by simp; omega
  go_enter Tryz.func142, Tryz.ntmps142
  go_wp2_with fail
  refine (unhide HLa).mono ?_
  rintro e w2 ⟨u, rfl, hO, hB⟩
  have HB := hide hB
  obtain ⟨ao, cap, rfl, hcap, hcells⟩ := rdi_own (l := []) hO
  clear hcells hO hB HLa
  go_wp2_with fail
  go_ret2
  exact ⟨rfl, unhide HB⟩

/-- a value out of its order -/
theorem back_neg (b : Nat) (hb : isB b) (h : ordI b < 0) : -(ordI b) + 9223372036854775808 = (b : Int) := by
  obtain ⟨⟨h1, h2⟩, h3⟩ := hb
  unfold ordI at h ⊢
  split at h
  · rename_i c
    rw [if_pos c]
    omega
  · omega

theorem back_pos (b : Nat) (hb : isB b) (h : 0 ≤ ordI b) : ordI b = (b : Int) := by
  obtain ⟨⟨h1, h2⟩, h3⟩ := hb
  unfold ordI at h ⊢
  split at h
  · rename_i c
    exfalso
    omega
  · rename_i c
    rw [if_neg c]
    omega

set_option maxRecDepth 20000 in
set_option maxHeartbeats 800000 in
theorem refquant_of {w : World} (yb : Nat) (k a b : Int) (x e : Int) (y : Int) (Q : World → Prop)  (hx1 : -9223372036854775807 ≤ x) (hx2 : x ≤ 9223372036854775807) (hy : (x < 0 ∧ y = -x + 9223372036854775808) ∨ (0 ≤ x ∧ y = x))
    (hR : Calls Tryz.prog 142 #[.pointer (some ⟨yb, 0, none⟩), .int .i64 k, .int .i64 a, .int .i64 b] w fun en w' => en = .returned (.tuple #[.int .i64 x, .int .i64 e]) ∧ Q w') :
    Calls Tryz.prog 96 #[.pointer (some ⟨yb, 0, none⟩), .int .i64 k, .int .i64 a, .int .i64 b] w fun en w' => en = .returned (.tuple #[.int .u64 y, .int .i64 e]) ∧ Q w' := by
  have HR := hide hR
  clear hR
  rcases hy with ⟨h1, rfl⟩ | ⟨h1, rfl⟩
  · have hd : decide (x < 0) = true := by simp; omega
    go_enter Tryz.func96, Tryz.ntmps96
    go_wp2_with fail
    refine (unhide HR).mono ?_
    rintro en w' ⟨rfl, hq⟩
    have HQ := hide hq
    clear hq HR
    go_wp2_with fail
    go_ret2
    exact ⟨rfl, unhide HQ⟩
  · have hd : decide (y < 0) = false := by simp; omega
    go_enter Tryz.func96, Tryz.ntmps96
    go_wp2_with fail
    refine (unhide HR).mono ?_
    rintro en w' ⟨rfl, hq⟩
    have HQ := hide hq
    clear hq HR
    go_wp2_with fail
    go_ret2
    exact ⟨rfl, unhide HQ⟩

set_option maxRecDepth 20000 in
set_option maxHeartbeats 400000 in
theorem refcount_ok {K : Nat → Prop} {w : World} {yb n W C : Nat} {r : Value} {s : RuleS} {l : List Cnt} (h : RMt K w yb n W C r s l) (k : Nat) (hk1 : 1 ≤ k) (hk2 : k ≤ n) (hl : l.length < 8000000000000) :
    Calls Tryz.prog 95 #[.pointer (some ⟨yb, 0, none⟩), .int .i64 k] w fun e w' => e = .returned (.tuple #[.int .i64 ((lastC l ((C / W : Nat) - (k : Int))).length : Nat), .int .i64 0]) ∧ Below w.heap.size w w' := by
  have hn8 := h.hn.2
  have c0 := h.c0
  have HLa := hide (reflast_ok h k hk1 (by omega) hl)
  clear h
  have hda : decide (n < k) = false := by simp; omega
  have hdb : decide ((k : Int) < 1) = false := by simp; omega
  generalize lastC l ((C / W : Nat) - (k : Int)) = E at *
  go_enter Tryz.func95, Tryz.ntmps95
  go_wp2_with fail
  refine (unhide HLa).mono ?_
  rintro e w2 ⟨u, rfl, hO, hB⟩
  have HB := hide hB
  obtain ⟨ao, cap, rfl, hcap, hcells⟩ := rdi_own hO
  clear hcells hO hB HLa
  go_wp2_with fail
  go_ret2
  exact ⟨rfl, unhide HB⟩

set_option maxRecDepth 20000 in
set_option maxHeartbeats 400000 in
theorem refcount_bad {K : Nat → Prop} {w : World} {yb n W C : Nat} {r : Value} {s : RuleS} {l : List Cnt} (h : RMt K w yb n W C r s l) (k : Int) (hk : k < 1 ∨ (n : Int) < k) :
    Calls Tryz.prog 95 #[.pointer (some ⟨yb, 0, none⟩), .int .i64 k] w fun e w' => e = .returned (.tuple #[.int .i64 0, .int .i64 5]) ∧ w' = w := by
  have c0 := h.c0
  have hn8 := h.hn.2
  clear h
  rcases Int.lt_or_le k 1 with h1 | h1
  · clear hk
    go_enter Tryz.func95, Tryz.ntmps95
    go_wp2_with fail
    go_ret2
    exact ⟨rfl, rfl⟩
  · have h2 : decide ((n : Int) < k) = true := by simp; omega
    have h3 : decide (k < 1) = false := by simp; omega
    clear hk
    go_enter Tryz.func95, Tryz.ntmps95
    go_wp2_with fail
    go_ret2
    exact ⟨rfl, rfl⟩
end Go.Proofs.YtgjhjfldocapjaaGreatDoor

namespace Go.Proofs.YtgjhjfldocapjaaGreatDoor
open Go.RowKit Go.Shelf Go.Maps

/-! the samples of both meters: their slice, their bucket -/
abbrev Sb := Nat × Nat

def bagAt (l : List Sb) (cw i : Nat) : List Nat := (l.filter fun x => decide (x.1 + i = cw)).map (·.2)
def bagsOf (l : List Sb) (cw n : Nat) : List (List Nat) := (List.range n).map (bagAt l cw)
def lastB (l : List Sb) (cw k : Nat) : List Nat := (l.filter fun x => decide (cw < x.1 + k)).map (·.2)
def cntOf (l : List Sb) : List Cnt := l.map fun x => (x.1, ordI x.2)

theorem bagsOf_length (l : List Sb) (cw n : Nat) : (bagsOf l cw n).length = n := by simp [bagsOf]
theorem bagsOf_get (l : List Sb) (cw n i : Nat) (h : i < n) : (bagsOf l cw n)[i]? = some (bagAt l cw i) := by simp [bagsOf, h]

theorem bagsOf_nil (cw n : Nat) : bagsOf [] cw n = List.replicate n [] := by
  apply List.ext_getElem?
  intro i
  rcases Nat.lt_or_ge i n with hi | hi
  · rw [bagsOf_get [] cw n i hi, List.getElem?_replicate, if_pos hi]; rfl
  · rw [List.getElem?_eq_none (by rw [bagsOf_length]; exact hi), List.getElem?_eq_none (by simpa using hi)]

theorem bagAt_none (l : List Sb) (cw i : Nat) (h : ∀ x ∈ l, x.1 + i ≠ cw) : bagAt l cw i = [] := by
  unfold bagAt
  rw [List.map_eq_nil_iff, List.filter_eq_nil_iff]
  intro x hx
  simpa using h x hx

theorem bagsOf_shift (l : List Sb) (cw tw n : Nat) (hl : ∀ x ∈ l, x.1 ≤ cw) (h : cw ≤ tw) : shiftB (min (tw - cw) n) (bagsOf l cw n) = bagsOf l tw n := by
  apply List.ext_getElem?
  intro i
  have hlen := shiftB_length (min (tw - cw) n) (bagsOf l cw n) (by rw [bagsOf_length]; omega)
  rw [bagsOf_length] at hlen
  rcases Nat.lt_or_ge i n with hi | hi
  · rw [bagsOf_get l tw n i hi]
    unfold shiftB
    rw [bagsOf_length]
    rcases Nat.lt_or_ge i (min (tw - cw) n) with h1 | h1
    · rw [List.getElem?_append_left (by simpa using h1), List.getElem?_replicate, if_pos h1]
      rw [bagAt_none l tw i (fun x hx => by have := hl x hx; omega)]
    · rw [List.getElem?_append_right (by simpa using h1), List.length_replicate, List.getElem?_take_of_lt (by omega), bagsOf_get l cw n _ (by omega)]
      unfold bagAt
      congr 2
      apply List.filter_congr
      intro x _
      have : (x.1 + (i - min (tw - cw) n) = cw) ↔ (x.1 + i = tw) := by omega
      simp [this]
  · rw [List.getElem?_eq_none (by rw [hlen]; exact hi), List.getElem?_eq_none (by rw [bagsOf_length]; exact hi)]

theorem bagsOf_add (l : List Sb) (cw n s v a : Nat) (hs : s + a = cw) : bagsOf (l ++ [(s, v)]) cw n = (bagsOf l cw n).set a (bagAt l cw a ++ [v]) := by
  apply List.ext_getElem?
  intro i
  rcases Nat.lt_or_ge i n with hi | hi
  · rw [bagsOf_get _ cw n i hi]
    by_cases e : i = a
    · subst e
      rw [List.getElem?_set_self (by rw [bagsOf_length]; exact hi)]
      unfold bagAt
      rw [List.filter_append, List.map_append]
      simp [hs]
    · rw [List.getElem?_set_ne (Ne.symm e), bagsOf_get l cw n i hi]
      unfold bagAt
      rw [List.filter_append, List.map_append]
      have : ¬ s + i = cw := by omega
      simp [this]
  · rw [List.getElem?_eq_none (by rw [bagsOf_length]; exact hi), List.getElem?_eq_none (by rw [List.length_set, bagsOf_length]; exact hi)]

theorem filter_or_perm (p q r : Sb → Bool) : ∀ (l : List Sb), (∀ x ∈ l, r x = (p x || q x)) → (∀ x ∈ l, ¬ (p x = true ∧ q x = true)) → (l.filter p ++ l.filter q).Perm (l.filter r)
  | [], _, _ => by simp
  | a :: t, h1, h2 => by
    have ih := filter_or_perm p q r t (fun x hx => h1 x (by simp [hx])) (fun x hx => h2 x (by simp [hx]))
    have e := h1 a (by simp)
    have n := h2 a (by simp)
    cases hp : p a with
    | true =>
      have hq : q a = false := by
        cases hq : q a with
        | true => exact absurd ⟨hp, hq⟩ n
        | false => rfl
      have hr : r a = true := by rw [e, hp]; rfl
      simp only [List.filter_cons, hp, hq, hr, if_true, Bool.false_eq_true, if_false, List.cons_append]
      exact ih.cons a
    | false =>
      cases hq : q a with
      | true =>
        have hr : r a = true := by rw [e, hq]; simp
        simp only [List.filter_cons, hp, hq, hr, if_true, Bool.false_eq_true, if_false]
        exact List.perm_middle.trans (ih.cons a)
      | false =>
        have hr : r a = false := by rw [e, hp, hq]; rfl
        simp only [List.filter_cons, hp, hq, hr, Bool.false_eq_true, if_false]
        exact ih

theorem take_perm (l : List Sb) (cw n : Nat) (hl : ∀ x ∈ l, x.1 ≤ cw) : ∀ k, k ≤ n → ((bagsOf l cw n).take k).flatten.Perm (lastB l cw k)
  | 0, _ => by
    have : lastB l cw 0 = [] := by
      unfold lastB
      rw [List.map_eq_nil_iff, List.filter_eq_nil_iff]
      intro x hx
      have := hl x hx
      simp; omega
    rw [this]; simp
  | k + 1, hk => by
    have ih := take_perm l cw n hl k (by omega)
    rw [List.take_add_one, bagsOf_get l cw n k (by omega)]
    simp only [Option.toList_some, List.flatten_append, List.flatten_cons, List.flatten_nil, List.append_nil]
    refine (ih.append_right _).trans ?_
    unfold lastB bagAt
    rw [← List.map_append]
    refine List.Perm.map _ (filter_or_perm _ _ _ l (fun x hx => ?_) (fun x hx hh => ?_))
    · by_cases c1 : cw < x.1 + k
      · have c2 : cw < x.1 + (k + 1) := by omega
        simp [c1, c2]
      · by_cases c3 : x.1 + k = cw
        · have c2 : cw < x.1 + (k + 1) := by omega
          simp [c3, c2]
        · have c2 : ¬ cw < x.1 + (k + 1) := by omega
          simp [c1, c3, c2]
    · simp at hh
      omega

theorem lastB_length (l : List Sb) (cw k : Nat) : (lastB l cw k).length ≤ l.length := by
  unfold lastB
  rw [List.length_map]
  exact List.length_filter_le _ _

theorem bags_flat (l : List Sb) (cw n : Nat) (hl : ∀ x ∈ l, x.1 ≤ cw) : (bagsOf l cw n).flatten.length ≤ l.length := by
  have h := (take_perm l cw n hl n (Nat.le_refl _)).length_eq
  rw [List.take_of_length_le (by rw [bagsOf_length]; exact Nat.le_refl _)] at h
  rw [h]
  exact lastB_length l cw n

theorem lastB_mem (l : List Sb) (cw k : Nat) (p : Nat → Prop) (h : ∀ x ∈ l, p x.2) : ∀ x ∈ lastB l cw k, p x := by
  intro x hx
  obtain ⟨y, hy, rfl⟩ := List.mem_map.1 hx
  exact h y (List.mem_filter.1 hy).1

theorem lastC_cnt (l : List Sb) (cw k : Nat) : lastC (cntOf l) ((cw : Int) - (k : Int)) = (lastB l cw k).map ordI := by
  unfold lastC cntOf lastB
  rw [List.filter_map, List.map_map, List.map_map]
  have e : (l.filter ((fun x : Cnt => decide ((cw : Int) - (k : Int) < (x.1 : Int))) ∘ fun x : Sb => (x.1, ordI x.2))) = l.filter fun x => decide (cw < x.1 + k) := by
    apply List.filter_congr
    intro x _
    have : ((cw : Int) - (k : Int) < (x.1 : Int)) ↔ (cw < x.1 + k) := by omega
    simp [this]
  rw [e]
  rfl

theorem cntOf_length (l : List Sb) : (cntOf l).length = l.length := by simp [cntOf]
theorem cntOf_snoc (l : List Sb) (x : Sb) : cntOf (l ++ [x]) = cntOf l ++ [(x.1, ordI x.2)] := by simp [cntOf]

/-- what the two quantiles tell is the same -/
theorem rank_same (D : List Nat) (hB : ∀ x ∈ D, isB x) (R i : Nat) (hi : i < D.length) (h : hasRank D R i) : rankOf (fun k => D.count k) (ksOf D) R = D.getD i 0 := by
  unfold hasRank at h
  rw [cLE, List.take_length] at h
  unfold cL at h
  rw [List.take_length] at h
  exact rank_bag D hB (D.getD i 0) R (getD_mem D i hi) h.1 h.2
end Go.Proofs.YtgjhjfldocapjaaGreatDoor

namespace Go.Proofs.YtgjhjfldocapjaaGreatDoor
open Go.RowKit Go.Shelf Go.Maps

set_option maxRecDepth 20000 in
set_option maxHeartbeats 800000 in
theorem quant_bad {w : World} {mb kb W C : Nat} {ms : List (Option Nat)} (h : Mt0 w mb kb W C ms) (k a b : Int) (hp : ¬ partOk ms.length k a b) :
    Calls Tryz.prog 26 #[.pointer (some ⟨mb, 0, none⟩), .int .i64 k, .int .i64 a, .int .i64 b] w fun e w' => e = .returned (.tuple #[.int .u64 0, .int .i64 5]) ∧ w' = w := by
  have c2 := h.c2
  generalize ms.length = n at *
  unfold partOk at hp
  clear h
  by_cases g0 : 1 ≤ k
  case neg =>
    have f0 : decide (k < 1) = true := by simp; omega
    clear hp
    go_enter Tryz.func26, Tryz.ntmps26
    go_wp2_with fail
    go_ret2
    exact ⟨rfl, rfl⟩
  by_cases g1 : k ≤ n
  case neg =>
    have f0 : decide (k < 1) = false := by simp; omega
    have f1 : decide ((n : Int) < k) = true := by simp; omega
    clear hp
    go_enter Tryz.func26, Tryz.ntmps26
    go_wp2_with fail
    go_ret2
    exact ⟨rfl, rfl⟩
  by_cases g2 : 1 ≤ b
  case neg =>
    have f0 : decide (k < 1) = false := by simp; omega
    have f1 : decide ((n : Int) < k) = false := by simp; omega
    have f2 : decide (b < 1) = true := by simp; omega
    clear hp
    go_enter Tryz.func26, Tryz.ntmps26
    go_wp2_with fail
    go_ret2
    exact ⟨rfl, rfl⟩
  by_cases g3 : b ≤ 1000
  case neg =>
    have f0 : decide (k < 1) = false := by simp; omega
    have f1 : decide ((n : Int) < k) = false := by simp; omega
    have f2 : decide (b < 1) = false := by simp; omega
    have f3 : decide (1000 < b) = true := by simp; omega
    clear hp
    go_enter Tryz.func26, Tryz.ntmps26
    go_wp2_with fail
    go_ret2
    exact ⟨rfl, rfl⟩
  by_cases g4 : 0 ≤ a
  case neg =>
    have f0 : decide (k < 1) = false := by simp; omega
    have f1 : decide ((n : Int) < k) = false := by simp; omega
    have f2 : decide (b < 1) = false := by simp; omega
    have f3 : decide (1000 < b) = false := by simp; omega
    have f4 : decide (a < 0) = true := by simp; omega
    clear hp
    go_enter Tryz.func26, Tryz.ntmps26
    go_wp2_with fail
    go_ret2
    exact ⟨rfl, rfl⟩
  by_cases g5 : a ≤ b
  case neg =>
    have f0 : decide (k < 1) = false := by simp; omega
    have f1 : decide ((n : Int) < k) = false := by simp; omega
    have f2 : decide (b < 1) = false := by simp; omega
    have f3 : decide (1000 < b) = false := by simp; omega
    have f4 : decide (a < 0) = false := by simp; omega
    have f5 : decide (b < a) = true := by simp; omega
    clear hp
    go_enter Tryz.func26, Tryz.ntmps26
    go_wp2_with fail
    go_ret2
    exact ⟨rfl, rfl⟩
  exact absurd ⟨g0, g1, g2, g3, g4, g5⟩ hp

set_option maxRecDepth 20000 in
set_option maxHeartbeats 400000 in
theorem count_bad {w : World} {mb kb W C : Nat} {ms : List (Option Nat)} (h : Mt0 w mb kb W C ms) (k : Int) (hp : ¬ (1 ≤ k ∧ k ≤ ms.length)) :
    Calls Tryz.prog 31 #[.pointer (some ⟨mb, 0, none⟩), .int .i64 k] w fun e w' => e = .returned (.tuple #[.int .i64 0, .int .i64 5]) ∧ w' = w := by
  have c2 := h.c2
  generalize ms.length = n at *
  clear h
  by_cases g0 : 1 ≤ k
  case neg =>
    have f0 : decide (k < 1) = true := by simp; omega
    clear hp
    go_enter Tryz.func31, Tryz.ntmps31
    go_wp2_with fail
    go_ret2
    exact ⟨rfl, rfl⟩
  by_cases g1 : k ≤ n
  case neg =>
    have f0 : decide (k < 1) = false := by simp; omega
    have f1 : decide ((n : Int) < k) = true := by simp; omega
    clear hp
    go_enter Tryz.func31, Tryz.ntmps31
    go_wp2_with fail
    go_ret2
    exact ⟨rfl, rfl⟩
  exact absurd ⟨g0, g1⟩ hp

def newOk (n wd : Int) : Prop := 1 ≤ n ∧ n ≤ 8 ∧ 1 ≤ wd ∧ wd ≤ 1000000

set_option maxRecDepth 20000 in
set_option maxHeartbeats 400000 in
theorem new_bad (n wd : Int) (hp : ¬ newOk n wd) (w : World) :
    Calls Tryz.prog 28 #[.int .i64 n, .int .i64 wd] w fun e w' => e = .returned (.tuple #[.pointer none, .int .i64 5]) ∧ w' = w := by
  unfold newOk at hp
  by_cases g0 : 1 ≤ n
  case neg =>
    have f0 : decide (n < 1) = true := by simp; omega
    clear hp
    go_enter Tryz.func28, Tryz.ntmps28
    go_wp2_with fail
    go_ret2
    exact ⟨rfl, rfl⟩
  by_cases g1 : n ≤ 8
  case neg =>
    have f0 : decide (n < 1) = false := by simp; omega
    have f1 : decide (8 < n) = true := by simp; omega
    clear hp
    go_enter Tryz.func28, Tryz.ntmps28
    go_wp2_with fail
    go_ret2
    exact ⟨rfl, rfl⟩
  by_cases g2 : 1 ≤ wd
  case neg =>
    have f0 : decide (n < 1) = false := by simp; omega
    have f1 : decide (8 < n) = false := by simp; omega
    have f2 : decide (wd < 1) = true := by simp; omega
    clear hp
    go_enter Tryz.func28, Tryz.ntmps28
    go_wp2_with fail
    go_ret2
    exact ⟨rfl, rfl⟩
  by_cases g3 : wd ≤ 1000000
  case neg =>
    have f0 : decide (n < 1) = false := by simp; omega
    have f1 : decide (8 < n) = false := by simp; omega
    have f2 : decide (wd < 1) = false := by simp; omega
    have f3 : decide (1000000 < wd) = true := by simp; omega
    clear hp
    go_enter Tryz.func28, Tryz.ntmps28
    go_wp2_with fail
    go_ret2
    exact ⟨rfl, rfl⟩
  exact absurd ⟨g0, g1, g2, g3⟩ hp

set_option maxRecDepth 20000 in
set_option maxHeartbeats 400000 in
theorem refnew_bad (n wd : Int) (hp : ¬ newOk n wd) (w : World) :
    Calls Tryz.prog 55 #[.int .i64 n, .int .i64 wd] w fun e w' => e = .returned (.tuple #[.pointer none, .int .i64 5]) ∧ w' = w := by
  unfold newOk at hp
  by_cases g0 : 1 ≤ n
  case neg =>
    have f0 : decide (n < 1) = true := by simp; omega
    clear hp
    go_enter Tryz.func55, Tryz.ntmps55
    go_wp2_with fail
    go_ret2
    exact ⟨rfl, rfl⟩
  by_cases g1 : n ≤ 8
  case neg =>
    have f0 : decide (n < 1) = false := by simp; omega
    have f1 : decide (8 < n) = true := by simp; omega
    clear hp
    go_enter Tryz.func55, Tryz.ntmps55
    go_wp2_with fail
    go_ret2
    exact ⟨rfl, rfl⟩
  by_cases g2 : 1 ≤ wd
  case neg =>
    have f0 : decide (n < 1) = false := by simp; omega
    have f1 : decide (8 < n) = false := by simp; omega
    have f2 : decide (wd < 1) = true := by simp; omega
    clear hp
    go_enter Tryz.func55, Tryz.ntmps55
    go_wp2_with fail
    go_ret2
    exact ⟨rfl, rfl⟩
  by_cases g3 : wd ≤ 1000000
  case neg =>
    have f0 : decide (n < 1) = false := by simp; omega
    have f1 : decide (8 < n) = false := by simp; omega
    have f2 : decide (wd < 1) = false := by simp; omega
    have f3 : decide (1000000 < wd) = true := by simp; omega
    clear hp
    go_enter Tryz.func55, Tryz.ntmps55
    go_wp2_with fail
    go_ret2
    exact ⟨rfl, rfl⟩
  exact absurd ⟨g0, g1, g2, g3⟩ hp

end Go.Proofs.YtgjhjfldocapjaaGreatDoor

namespace Go.Proofs.YtgjhjfldocapjaaGreatDoor
open Go.RowKit Go.Shelf Go.Maps

def OwX (mb kb : Nat) (ms : List (Option Nat)) (k : Nat) : Prop := k = mb ∨ k = kb ∨ some k ∈ ms
def OwY (yb : Nat) (v : Value) (k : Nat) : Prop := k = yb ∨ v.ownBlock = some k
def OwP (mb kb : Nat) (ms : List (Option Nat)) (yb : Nat) (v : Value) (k : Nat) : Prop := OwX mb kb ms k ∨ OwY yb v k

theorem Mtr.reK {K J : Nat → Prop} {w : World} {mb kb W C : Nat} {ms : List (Option Nat)} {bags : List (List Nat)} (h : Mtr K w mb kb W C ms bags) (hj : ∀ k, J k → k < w.heap.size ∧ ¬ OwX mb kb ms k) : Mtr J w mb kb W C ms bags :=
  ⟨h.z, h.len, h.sl, h.nd, h.hW, h.hC, h.hn, fun k hk => by
    obtain ⟨h1, h2⟩ := hj k hk
    exact ⟨h1, fun e => h2 (Or.inl e), fun e => h2 (Or.inr (Or.inl e)), fun e => h2 (Or.inr (Or.inr e))⟩⟩

theorem RMt.reK {K J : Nat → Prop} {w : World} {yb n W C : Nat} {v : Value} {s : RuleS} {l : List Cnt} (h : RMt K w yb n W C v s l) (hj : ∀ k, J k → k < w.heap.size ∧ ¬ OwY yb v k) : RMt J w yb n W C v s l :=
  ⟨h.hm, h.own, fun g hg hk => (hj g hk).2 (Or.inr hg), fun hk => (hj yb hk).2 (Or.inl rfl), fun k hk => (hj k hk).1, h.hW, h.hC, h.hn⟩

theorem RMt.kept {K J : Nat → Prop} {w w' : World} {yb n W C : Nat} {v : Value} {s : RuleS} {l : List Cnt} (h : RMt K w yb n W C v s l) (hk : Kept J w w') (hj : ∀ k, OwY yb v k → J k) : RMt (fun _ => False) w' yb n W C v s l := by
  refine ⟨(hk.block yb (hj yb (Or.inl rfl))).trans h.hm, ⟨h.own.1, ?_⟩, fun _ _ hf => hf, fun hf => hf, fun _ hf => hf.elim, h.hW, h.hC, h.hn⟩
  rcases h.own.2 with h0 | ⟨g, cap, cur, rfl, hb, hgg, rest⟩
  · exact Or.inl h0
  · exact Or.inr ⟨g, cap, cur, rfl, hb, (hk.block g (hj g (Or.inr rfl))).trans hgg, rest⟩

/-- the blocks are there -/
theorem Mtr.own_lt {K : Nat → Prop} {w : World} {mb kb W C : Nat} {ms : List (Option Nat)} {bags : List (List Nat)} (h : Mtr K w mb kb W C ms bags) : ∀ k, OwX mb kb ms k → k < w.heap.size := by
  rintro k (rfl | rfl | hk)
  · exact (Array.getElem?_eq_some_iff.1 h.z.hm).1
  · exact (Array.getElem?_eq_some_iff.1 h.z.hk).1
  · exact (h.apart hk).2.2

theorem RMt.own_lt {K : Nat → Prop} {w : World} {yb n W C : Nat} {v : Value} {s : RuleS} {l : List Cnt} (h : RMt K w yb n W C v s l) : ∀ k, OwY yb v k → k < w.heap.size := by
  rintro k (rfl | hk)
  · exact (Array.getElem?_eq_some_iff.1 h.hm).1
  · exact (h.own.lt k hk).2

/-- what a block of the program's meter is -/
theorem Mtr.what {K : Nat → Prop} {w : World} {mb kb W C : Nat} {ms : List (Option Nat)} {bags : List (List Nat)} (h : Mtr K w mb kb W C ms bags) (k : Nat) (hk : OwX mb kb ms k) : (∃ cs, w.heap[k]? = some (.cells cs 89 (0, 0))) ∨ (∃ cs, w.heap[k]? = some (.cells cs 91 (0, 0))) ∨ ∃ es c, w.heap[k]? = some (.map es c) := by
  rcases hk with rfl | rfl | hm
  · exact Or.inl ⟨_, h.z.hm⟩
  · exact Or.inr (Or.inl ⟨_, h.z.hk⟩)
  · obtain ⟨i, hi⟩ := List.mem_iff_getElem?.1 hm
    have hi2 : i < ms.length := (List.getElem?_eq_some_iff.1 hi).1
    obtain ⟨q, hq⟩ : ∃ q, bags[i]? = some q := ⟨_, List.getElem?_eq_getElem (by rw [← h.len]; exact hi2)⟩
    rcases h.sl i _ q hi hq with ⟨e, _⟩ | ⟨b', e, hT⟩
    · cases e
    · cases e
      obtain ⟨D, m, ⟨es, clock, h0, _⟩, _⟩ := hT
      exact Or.inr (Or.inr ⟨_, _, h0⟩)

theorem RMt.what {K : Nat → Prop} {w : World} {yb n W C : Nat} {v : Value} {s : RuleS} {l : List Cnt} (h : RMt K w yb n W C v s l) (k : Nat) (hk : OwY yb v k) : ∃ cs t, w.heap[k]? = some (.cells cs t (0, 0)) ∧ (t = 144 ∨ t = 206) := by
  rcases hk with rfl | hk
  · exact ⟨_, _, h.hm, Or.inl rfl⟩
  · rcases h.own.2 with ⟨rfl, _⟩ | ⟨g, cap, cur, rfl, hb, hgg, _⟩
    · simp [Value.ownBlock] at hk
    · simp [Value.ownBlock] at hk
      subst hk
      exact ⟨_, _, hgg, Or.inr rfl⟩

/-- no block is both's -/
theorem apart_xy {K J : Nat → Prop} {w : World} {mb kb W C : Nat} {ms : List (Option Nat)} {bags : List (List Nat)} {yb n W' C' : Nat} {v : Value} {s : RuleS} {l : List Cnt} (hx : Mtr K w mb kb W C ms bags) (hy : RMt J w yb n W' C' v s l) (k : Nat) (h1 : OwX mb kb ms k) (h2 : OwY yb v k) : False := by
  obtain ⟨cs, t, e, ht⟩ := hy.what k h2
  rcases hx.what k h1 with ⟨c, e1⟩ | ⟨c, e1⟩ | ⟨es, c, e1⟩
  · rw [e] at e1
    injection e1 with e1
    injection e1 with _ e2 _
    rcases ht with ht | ht <;> (rw [ht] at e2; exact absurd e2 (by decide))
  · rw [e] at e1
    injection e1 with e1
    injection e1 with _ e2 _
    rcases ht with ht | ht <;> (rw [ht] at e2; exact absurd e2 (by decide))
  · rw [e] at e1
    cases e1

/-- a meter of the program's beside the document's, with the same samples -/
structure PrS (w : World) (mb yb n W C : Nat) (l : List Sb) (kb : Nat) (ms : List (Option Nat)) (v : Value) : Prop where
  x : Mtr (fun _ => False) w mb kb W C ms (bagsOf l (C / W) n)
  y : RMt (fun _ => False) w yb n W C v rule0 (cntOf l)
  hn : ms.length = n
  le : ∀ q ∈ l, q.1 ≤ C / W
  isb : ∀ q ∈ l, isB q.2

/-- one step: what else there is stays -/
structure StepP (w w' : World) (O O' : Nat → Prop) : Prop where
  os : w'.os = w.os
  tape : w'.tape = w.tape
  output : w'.output = w.output
  size : w.heap.size ≤ w'.heap.size
  keep : ∀ k, k < w.heap.size → ¬ O k → w'.heap[k]? = w.heap[k]?
  own : ∀ k, O' k → O k ∨ w.heap.size ≤ k

abbrev KX (w : World) (mb kb : Nat) (ms : List (Option Nat)) (k : Nat) : Prop := k < w.heap.size ∧ ¬ OwX mb kb ms k
abbrev KY (w : World) (yb : Nat) (v : Value) (k : Nat) : Prop := k < w.heap.size ∧ ¬ OwY yb v k

theorem PrS.kx {w : World} {mb yb n W C : Nat} {l : List Sb} {kb : Nat} {ms : List (Option Nat)} {v : Value} (h : PrS w mb yb n W C l kb ms v) : Mtr (KX w mb kb ms) w mb kb W C ms (bagsOf l (C / W) n) := h.x.reK (fun _ hk => hk)

/-- behind the program's call, ahead of the document's -/
theorem PrS.mid {w w1 : World} {mb yb n W C : Nat} {l : List Sb} {kb : Nat} {ms : List (Option Nat)} {v : Value} (h : PrS w mb yb n W C l kb ms v) (hk : Kept (KX w mb kb ms) w w1) : RMt (KY w1 yb v) w1 yb n W C v rule0 (cntOf l) :=
  (h.y.kept hk (fun k hk => ⟨h.y.own_lt k hk, fun hx => apart_xy h.x h.y k hx hk⟩)).reK (fun _ hk => hk)

theorem PrS.next {w w1 w2 : World} {mb yb n W C C' : Nat} {l l' : List Sb} {kb kb' : Nat} {ms ms' : List (Option Nat)} {v v' : Value} (h : PrS w mb yb n W C l kb ms v) (hx : Mtr (KX w mb kb ms) w1 mb kb' W C' ms' (bagsOf l' (C' / W) n)) (hn : ms'.length = n) (hk1 : Kept (KX w mb kb ms) w w1)
    (hy : RMt (KY w1 yb v) w2 yb n W C' v' rule0 (cntOf l')) (hk2 : Kept (KY w1 yb v) w1 w2) (hle : ∀ q ∈ l', q.1 ≤ C' / W) (hisb : ∀ q ∈ l', isB q.2) :
    PrS w2 mb yb n W C' l' kb' ms' v' ∧ StepP w w2 (OwP mb kb ms yb v) (OwP mb kb' ms' yb v') := by
  have hy1 := h.mid hk1
  have hkk : ∀ k, k < w1.heap.size → OwX mb kb' ms' k → w2.heap[k]? = w1.heap[k]? := fun k hk ho => hk2.block k ⟨hk, fun hy => apart_xy hx hy1 k ho hy⟩
  refine ⟨⟨(hx.reK (J := fun _ => False) (fun _ hf => hf.elim)).same hk2.size (fun k hk ho => hkk k hk ho), hy.reK (fun _ hf => hf.elim), hn, hle, hisb⟩, ⟨hk2.os.trans hk1.os, hk2.tape.trans hk1.tape, hk2.output.trans hk1.output, Nat.le_trans hk1.size hk2.size, fun k hk ho => ?_, fun k ho => ?_⟩⟩
  · have hnx : ¬ OwX mb kb ms k := fun e => ho (Or.inl e)
    have hny : ¬ OwY yb v k := fun e => ho (Or.inr e)
    exact (hk2.block k ⟨Nat.lt_of_lt_of_le hk hk1.size, hny⟩).trans (hk1.block k ⟨hk, hnx⟩)
  · rcases ho with ho | ho
    · rcases Nat.lt_or_ge k w.heap.size with hlt | hge
      · by_cases hox : OwX mb kb ms k
        · exact Or.inl (Or.inl hox)
        · exfalso
          obtain ⟨_, a2, a3, a4⟩ := hx.out k ⟨hlt, hox⟩
          rcases ho with e | e | e
          · exact a2 e
          · exact a3 e
          · exact a4 e
      · exact Or.inr hge
    · rcases Nat.lt_or_ge k w.heap.size with hlt | hge
      · by_cases hoy : OwY yb v k
        · exact Or.inl (Or.inr hoy)
        · exfalso
          have hK : KY w1 yb v k := ⟨Nat.lt_of_lt_of_le hlt hk1.size, hoy⟩
          rcases ho with e | e
          · subst e; exact hy.outy hK
          · exact hy.out k e hK
      · exact Or.inr hge
end Go.Proofs.YtgjhjfldocapjaaGreatDoor

namespace Go.Proofs.YtgjhjfldocapjaaGreatDoor
open Go.RowKit Go.Shelf Go.Maps

/-- behind both calls -/
def Nxt (w : World) (mb yb n W : Nat) (l : List Sb) (kb : Nat) (ms : List (Option Nat)) (v : Value) (w2 : World) : Prop :=
  ∃ C' l' kb' ms' v', PrS w2 mb yb n W C' l' kb' ms' v' ∧ StepP w w2 (OwP mb kb ms yb v) (OwP mb kb' ms' yb v') ∧ l'.length ≤ l.length + 1

theorem kept_drewN (K : Nat → Prop) (w : World) (q : Nat) : Kept K w (w.drewN q) := ⟨rfl, rfl, rfl, Nat.le_refl _, fun _ _ => rfl⟩

theorem PrS.stay {w w1 w2 : World} {mb yb n W C : Nat} {l : List Sb} {kb : Nat} {ms : List (Option Nat)} {v : Value} (h : PrS w mb yb n W C l kb ms v) (hb1 : Below w.heap.size w w1) (hb2 : Below w1.heap.size w1 w2) : Nxt w mb yb n W l kb ms v w2 := by
  have hk1 : Kept (KX w mb kb ms) w w1 := Kept.ofBelow hb1 (fun k hk => hk.1)
  have hx : Mtr (KX w mb kb ms) w1 mb kb W C ms (bagsOf l (C / W) n) := h.kx.below hb1
  have hk2 : Kept (KY w1 yb v) w1 w2 := Kept.ofBelow hb2 (fun k hk => hk.1)
  obtain ⟨h1, h2⟩ := h.next hx h.hn hk1 ((h.mid hk1).below hb2) hk2 h.le h.isb
  exact ⟨C, l, kb, ms, v, h1, h2, by omega⟩

theorem below_drewn (w : World) (q : Nat) : Below w.heap.size w (w.drewN q) := below_drewN (Below.refl _ _) q

theorem tick_pair {w : World} {mb yb n W C : Nat} {l : List Sb} {kb : Nat} {ms : List (Option Nat)} {v : Value} (h : PrS w mb yb n W C l kb ms v) (t : Int) :
    Calls Tryz.prog 29 #[.pointer (some ⟨mb, 0, none⟩), .int .i64 t] w fun e w1 => ∃ r : Int, e = .returned (.int .i64 r) ∧ 0 ≤ r ∧ r ≤ 9 ∧ Kept (KX w mb kb ms) w w1 ∧
      Calls Tryz.prog 93 #[.pointer (some ⟨yb, 0, none⟩), .int .i64 t] w1 fun e2 w2 => e2 = .returned (.int .i64 r) ∧ Nxt w mb yb n W l kb ms v w2 := by
  have hC := h.x.hC
  by_cases hg : (C : Int) ≤ t ∧ t ≤ 1099511627776
  · obtain ⟨tn, rfl⟩ : ∃ tn : Nat, t = (tn : Int) := ⟨t.toNat, by omega⟩
    refine (tick_ok h.kx tn (by omega) (by omega)).mono ?_
    rintro e w1 ⟨rfl, hM, hk⟩
    refine ⟨0, rfl, by omega, by omega, hk, (reftick_ok (h.mid hk) tn (by omega) (by omega)).mono ?_⟩
    rintro e2 w2 ⟨rfl, hR, hk2⟩
    have hq : C / W ≤ tn / W := Nat.div_le_div_right (by omega)
    rw [h.hn, bagsOf_shift l (C / W) (tn / W) n h.le hq] at hM
    obtain ⟨h1, h2⟩ := h.next hM (by rw [shifted_length _ _ (by rw [h.hn]; omega)]; exact h.hn) hk hR hk2 (fun q hq2 => Nat.le_trans (h.le q hq2) hq) h.isb
    exact ⟨rfl, _, l, kb, _, _, h1, h2, by omega⟩
  · refine (tick_bad mb C t w h.x.z.c1 hC (by omega)).mono ?_
    rintro e w1 ⟨rfl, rfl⟩
    refine ⟨5, rfl, by omega, by omega, Kept.refl _ _, (reftick_bad h.y t (by omega)).mono ?_⟩
    rintro e2 w2 ⟨rfl, rfl⟩
    exact ⟨rfl, h.stay (Below.refl _ _) (Below.refl _ _)⟩

theorem add_pair {w : World} {mb yb n W C : Nat} {l : List Sb} {kb : Nat} {ms : List (Option Nat)} {v : Value} (h : PrS w mb yb n W C l kb ms v) (t : Int) (x : Nat) (hx : x < 18446744073709551616) (hl : l.length < 2000000000000) :
    Calls Tryz.prog 30 #[.pointer (some ⟨mb, 0, none⟩), .int .i64 t, .int .u64 x] w fun e w1 => ∃ r : Int, e = .returned (.int .i64 r) ∧ 0 ≤ r ∧ r ≤ 9 ∧ Kept (KX w mb kb ms) w w1 ∧
      Calls Tryz.prog 94 #[.pointer (some ⟨yb, 0, none⟩), .int .i64 t, .int .u64 x] w1 fun e2 w2 => e2 = .returned (.int .i64 r) ∧ Nxt w mb yb n W l kb ms v w2 := by
  by_cases hg : 0 ≤ t ∧ t ≤ 1099511627776
  case neg =>
    refine (add_arg mb t x w (by omega)).mono ?_
    rintro e w1 ⟨rfl, rfl⟩
    refine ⟨5, rfl, by omega, by omega, Kept.refl _ _, (refadd_arg yb t x w1 (by omega)).mono ?_⟩
    rintro e2 w2 ⟨rfl, rfl⟩
    exact ⟨rfl, h.stay (Below.refl _ _) (Below.refl _ _)⟩
  obtain ⟨tn, rfl⟩ : ∃ tn : Nat, t = (tn : Int) := ⟨t.toNat, by omega⟩
  have htn : tn ≤ 1099511627776 := by omega
  cases hnum : numB x with
  | false =>
    have hno : (FloatKind.f64.format.order x x != some .eq) = true := by
      rw [num_iff x hx]
      have := of_decide_eq_false hnum
      simp only [decide_eq_true_eq]; omega
    refine (add_nan mb tn x w htn hno).mono ?_
    rintro e w1 ⟨rfl, rfl⟩
    refine ⟨6, rfl, by omega, by omega, Kept.refl _ _, (refadd_nan yb tn x w1 htn hx hnum).mono ?_⟩
    rintro e2 w2 ⟨rfl, rfl⟩
    exact ⟨rfl, h.stay (Below.refl _ _) (Below.refl _ _)⟩
  | true =>
    have hno : (FloatKind.f64.format.order x x != some .eq) = false := by
      rw [num_iff x hx]
      have := of_decide_eq_true hnum
      simp only [decide_eq_false_iff_not]; omega
    have hnx : isNum x := num_of hx hnum
    have hn8 := h.x.hn.2
    rw [h.hn] at hn8
    by_cases hold : tn / W + n ≤ C / W
    · refine (add_old h.x.z h.x.hW h.x.hC h.x.hn.2 tn x htn hno (by rw [h.hn]; exact hold)).mono ?_
      rintro e w1 ⟨rfl, q, rfl⟩
      refine ⟨7, rfl, by omega, by omega, kept_drewN _ _ _, (refadd_out (h.y.drewN q) tn x htn hx hnum (Or.inl hold)).mono ?_⟩
      rintro e2 w2 ⟨rfl, q2, rfl⟩
      have hn1 := h.y.hn.1
      rw [if_neg (by omega)]
      exact ⟨rfl, h.stay (below_drewn w q) (below_drewn _ q2)⟩
    · by_cases hsoon : C / W < tn / W
      · refine (add_soon h.x.z h.x.hW h.x.hC h.x.hn.2 tn x htn hno hsoon).mono ?_
        rintro e w1 ⟨rfl, q, rfl⟩
        refine ⟨8, rfl, by omega, by omega, kept_drewN _ _ _, (refadd_out (h.y.drewN q) tn x htn hx hnum (Or.inr hsoon)).mono ?_⟩
        rintro e2 w2 ⟨rfl, q2, rfl⟩
        rw [if_pos hsoon]
        exact ⟨rfl, h.stay (below_drewn w q) (below_drewn _ q2)⟩
      · obtain ⟨a, ha⟩ : ∃ a, tn / W + a = C / W := ⟨C / W - tn / W, by omega⟩
        have han : a < n := by omega
        obtain ⟨m, hm⟩ : ∃ m, ms[a]? = some m := ⟨_, List.getElem?_eq_getElem (by rw [h.hn]; exact han)⟩
        have hle' : ∀ q ∈ l ++ [(tn / W, bucketN x)], q.1 ≤ C / W := fun q hq => by
          rcases List.mem_append.1 hq with hq | hq
          · exact h.le q hq
          · rw [List.mem_singleton.1 hq]
            show tn / W ≤ C / W
            omega
        have hib' : ∀ q ∈ l ++ [(tn / W, bucketN x)], isB q.2 := fun q hq => by
          rcases List.mem_append.1 hq with hq | hq
          · exact h.isb q hq
          · rw [List.mem_singleton.1 hq]
            exact bucket_isB x hnx
        have hset := bagsOf_add l (C / W) n (tn / W) (bucketN x) a ha
        have hfin : ∀ (w1 w2 : World) (ms' : List (Option Nat)) (r' : Value), Mtr (KX w mb kb ms) w1 mb kb W C ms' (bagsOf (l ++ [(tn / W, bucketN x)]) (C / W) n) → ms'.length = n → Kept (KX w mb kb ms) w w1 → RMt (KY w1 yb v) w2 yb n W C r' rule0 (cntOf l ++ [(tn / W, ordI (bucketN x))]) → Kept (KY w1 yb v) w1 w2 → Nxt w mb yb n W l kb ms v w2 := by
          intro w1 w2 ms' r' hM hml hk hR hk2
          obtain ⟨h1, h2⟩ := h.next hM hml hk (by rw [cntOf_snoc]; exact hR) hk2 hle' hib'
          exact ⟨C, _, kb, ms', r', h1, h2, by simp⟩
        have hrl : (cntOf l).length < 8000000000000 := by rw [cntOf_length]; omega
        cases m with
        | none =>
          have hg0 : bagAt l (C / W) a = [] := by
            rcases h.x.sl a none _ hm (bagsOf_get l (C / W) n a han) with ⟨_, e⟩ | ⟨b, e, _⟩
            · exact e
            · cases e
          refine (add_none h.kx tn x a htn hx hno ha hm).mono ?_
          rintro e w1 ⟨rfl, ⟨b, hM⟩, hk⟩
          refine ⟨0, rfl, by omega, by omega, hk, (refadd_ok (h.mid hk) tn x htn hnx (by omega) (by omega) hrl).mono ?_⟩
          rintro e2 w2 ⟨rfl, ⟨r', hR⟩, hk2⟩
          rw [hg0, List.nil_append] at hset
          rw [← hset] at hM
          exact ⟨rfl, hfin w1 w2 _ r' hM (by rw [List.length_set]; exact h.hn) hk hR hk2⟩
        | some b =>
          have hbl : (bagAt l (C / W) a).length ≤ l.length := by
            unfold bagAt
            rw [List.length_map]
            exact List.length_filter_le _ _
          refine (add_some h.kx tn x a b (bagAt l (C / W) a) htn hx hno ha hm (bagsOf_get l (C / W) n a han) (by omega)).mono ?_
          rintro e w1 ⟨rfl, hM, hk⟩
          refine ⟨0, rfl, by omega, by omega, hk, (refadd_ok (h.mid hk) tn x htn hnx (by omega) (by omega) hrl).mono ?_⟩
          rintro e2 w2 ⟨rfl, ⟨r', hR⟩, hk2⟩
          rw [← hset] at hM
          exact ⟨rfl, hfin w1 w2 _ r' hM h.hn hk hR hk2⟩

theorem count_pair {w : World} {mb yb n W C : Nat} {l : List Sb} {kb : Nat} {ms : List (Option Nat)} {v : Value} (h : PrS w mb yb n W C l kb ms v) (k : Int) (hl : l.length < 2000000000000) :
    Calls Tryz.prog 31 #[.pointer (some ⟨mb, 0, none⟩), .int .i64 k] w fun e w1 => ∃ c r : Int, e = .returned (.tuple #[.int .i64 c, .int .i64 r]) ∧ 0 ≤ r ∧ r ≤ 9 ∧ Kept (KX w mb kb ms) w w1 ∧
      Calls Tryz.prog 95 #[.pointer (some ⟨yb, 0, none⟩), .int .i64 k] w1 fun e2 w2 => e2 = .returned (.tuple #[.int .i64 c, .int .i64 r]) ∧ Nxt w mb yb n W l kb ms v w2 := by
  by_cases hg : 1 ≤ k ∧ k ≤ n
  · obtain ⟨kn, rfl⟩ : ∃ kn : Nat, k = (kn : Int) := ⟨k.toNat, by omega⟩
    have hf := bags_flat l (C / W) n h.le
    refine (count_ok h.x kn (by omega) (by rw [h.hn]; omega) (by omega)).mono ?_
    rintro e w1 ⟨rfl, hb⟩
    refine ⟨_, 0, rfl, by omega, by omega, Kept.ofBelow hb (fun k hk => hk.1), (refcount_ok (h.y.below hb) kn (by omega) (by omega) (by rw [cntOf_length]; omega)).mono ?_⟩
    rintro e2 w2 ⟨rfl, hb2⟩
    rw [lastC_cnt, List.length_map, (take_perm l (C / W) n h.le kn (by omega)).length_eq]
    exact ⟨rfl, h.stay hb hb2⟩
  · refine (count_bad h.x.z k (by rw [h.hn]; exact hg)).mono ?_
    rintro e w1 ⟨rfl, rfl⟩
    refine ⟨0, 5, rfl, by omega, by omega, Kept.refl _ _, (refcount_bad h.y k (by omega)).mono ?_⟩
    rintro e2 w2 ⟨rfl, rfl⟩
    exact ⟨rfl, h.stay (Below.refl _ _) (Below.refl _ _)⟩
end Go.Proofs.YtgjhjfldocapjaaGreatDoor

namespace Go.Proofs.YtgjhjfldocapjaaGreatDoor
open Go.RowKit Go.Shelf Go.Maps

set_option maxRecDepth 20000 in
set_option maxHeartbeats 1600000 in
theorem quant_nil {K : Nat → Prop} {w : World} {mb kb W C : Nat} {ms : List (Option Nat)} {bags : List (List Nat)} (h : Mtr K w mb kb W C ms bags) (k a b : Nat) (hk1 : 1 ≤ k) (hk2 : k ≤ ms.length) (hl : bags.flatten.length < 4000000000000) (hb1 : 1 ≤ b) (hb2 : b ≤ 1000) (hab : a ≤ b) (hbag : (bags.take k).flatten = []) :
    Calls Tryz.prog 26 #[.pointer (some ⟨mb, 0, none⟩), .int .i64 k, .int .i64 a, .int .i64 b] w fun e w' => e = .returned (.tuple #[.int .u64 0, .int .i64 9]) ∧ Below w.heap.size w w' := by
  have c2 := h.z.c2
  have hn8 := h.hn.2
  have HLa := hide (last_ok h k hk1 hk2 (by omega))
  rw [hbag] at HLa
  clear h hbag
  generalize ms.length = n at *
  have hd1 : decide ((k : Int) < 1) = false := by simp; omega
  have hd2 : decide (n < k) = false := by simp; omega
  have hd3 : decide (b < a) = false := by simp; omega
  go_enter Tryz.func26, Tryz.ntmps26
  go_wp2_with fail
  refine (unhide HLa).mono ?_
  rintro e w1 ⟨rfl, hT1, hb1'⟩
  have HSa := hide (tsamples_any w.heap.size [] w1 hT1 (by simp))
  have HB1 := hide hb1'
  clear hT1 hb1'
  go_wp2_with fail
  refine (unhide HSa).mono ?_
  rintro e w2 ⟨rfl, hb2'⟩
  have HB2 := hide ((unhide HB1).trans (hb2'.mono (unhide HB1).size))
  clear hb2' HB1
  go_wp2_with fail
  go_ret2
  exact ⟨rfl, unhide HB2⟩

theorem quant_pair {w : World} {mb yb n W C : Nat} {l : List Sb} {kb : Nat} {ms : List (Option Nat)} {v : Value} (h : PrS w mb yb n W C l kb ms v) (k a b : Int) (hl : l.length < 2000000000000) :
    Calls Tryz.prog 26 #[.pointer (some ⟨mb, 0, none⟩), .int .i64 k, .int .i64 a, .int .i64 b] w fun e w1 => ∃ c r : Int, e = .returned (.tuple #[.int .u64 c, .int .i64 r]) ∧ 0 ≤ r ∧ r ≤ 9 ∧ Kept (KX w mb kb ms) w w1 ∧
      Calls Tryz.prog 96 #[.pointer (some ⟨yb, 0, none⟩), .int .i64 k, .int .i64 a, .int .i64 b] w1 fun e2 w2 => e2 = .returned (.tuple #[.int .u64 c, .int .i64 r]) ∧ Nxt w mb yb n W l kb ms v w2 := by
  by_cases hp : partOk n k a b
  case neg =>
    refine (quant_bad h.x.z k a b (by rw [h.hn]; exact hp)).mono ?_
    rintro e w1 ⟨rfl, rfl⟩
    refine ⟨0, 5, rfl, by omega, by omega, Kept.refl _ _, ?_⟩
    have hq := refquant_of (w := w1) yb k a b 0 5 0 (fun w' => w' = w1) (by omega) (by omega) (Or.inr ⟨by omega, rfl⟩) (refrank_bad h.y k a b hp)
    refine hq.mono ?_
    rintro e2 w2 ⟨rfl, rfl⟩
    exact ⟨rfl, h.stay (Below.refl _ _) (Below.refl _ _)⟩
  obtain ⟨p1, p2, p3, p4, p5, p6⟩ := hp
  obtain ⟨kn, rfl⟩ : ∃ kn : Nat, k = (kn : Int) := ⟨k.toNat, by omega⟩
  obtain ⟨an, rfl⟩ : ∃ an : Nat, a = (an : Int) := ⟨a.toNat, by omega⟩
  obtain ⟨bn, rfl⟩ : ∃ bn : Nat, b = (bn : Int) := ⟨b.toNat, by omega⟩
  have hf := bags_flat l (C / W) n h.le
  have hpm := take_perm l (C / W) n h.le kn (by omega)
  have hDl := lastB_length l (C / W) kn
  have hDB : ∀ x ∈ lastB l (C / W) kn, isB x := lastB_mem l (C / W) kn isB h.isb
  have hlc := lastC_cnt l (C / W) kn
  generalize hD : lastB l (C / W) kn = D at *
  by_cases hne : D = []
  · subst hne
    have hb0 : ((bagsOf l (C / W) n).take kn).flatten = [] := hpm.eq_nil
    refine (quant_nil h.x kn an bn (by omega) (by rw [h.hn]; omega) (by omega) (by omega) (by omega) (by omega) hb0).mono ?_
    rintro e w1 ⟨rfl, hb⟩
    refine ⟨0, 9, rfl, by omega, by omega, Kept.ofBelow hb (fun k hk => hk.1), ?_⟩
    have hq := refquant_of (w := w1) yb kn an bn 0 9 0 (fun w' => Below w1.heap.size w1 w') (by omega) (by omega) (Or.inr ⟨by omega, rfl⟩) (refrank_empty (h.y.below hb) kn an bn (by omega) (by omega) (by omega) (by omega) (by omega) (by rw [cntOf_length]; omega) hlc)
    refine hq.mono ?_
    rintro e2 w2 ⟨rfl, hb2⟩
    exact ⟨rfl, h.stay hb hb2⟩
  · generalize hbg : ((bagsOf l (C / W) n).take kn).flatten = bag at *
    have hbB : ∀ x ∈ bag, isB x := fun x hx => hDB x (hpm.mem_iff.1 hx)
    have hble : bag.length = D.length := hpm.length_eq
    have hbne : bag ≠ [] := fun e => by
      subst e
      exact hne hpm.symm.eq_nil
    have hkl := ksOf_length bag
    refine (quant_ok h.x kn an bn (by omega) (by rw [h.hn]; omega) (by omega) (by omega) (by omega) (by omega) bag (ksOf bag) hbg hbne (sorts_bag bag hbB (by omega)) (fun x hx => (hbB x ((mem_ksOf bag x).1 hx)).1.1) (by omega) (total_ks bag hbB)).mono ?_
    rintro e w1 ⟨rfl, hb⟩
    rw [rank_perm hpm hbB, hble]
    generalize hV : rankOf (fun x => D.count x) (ksOf D) (rankN an bn D.length) = V
    refine ⟨_, 0, rfl, by omega, by omega, Kept.ofBelow hb (fun k hk => hk.1), ?_⟩
    have hn1 : 1 ≤ D.length := by
      cases D with
      | nil => exact absurd rfl hne
      | cons x r => simp
    have hVB : isB V := by
      obtain ⟨i, hi, hr⟩ := some_rank D (rankN an bn D.length) (by unfold rankN; exact Nat.le_max_left _ _) (rankN_le (by omega) (by omega) hn1)
      rw [← hV, rank_same D hDB _ i hi hr]
      exact hDB _ (getD_mem D i hi)
    have hrk : Calls Tryz.prog 142 #[.pointer (some ⟨yb, 0, none⟩), .int .i64 kn, .int .i64 an, .int .i64 bn] w1 fun en w' => en = .returned (.tuple #[.int .i64 (ordI V), .int .i64 0]) ∧ Below w1.heap.size w1 w' := by
      refine (refrank_ok (h.y.below hb) kn an bn (by omega) (by omega) (by omega) (by omega) (by omega) (by rw [cntOf_length]; omega) D hlc (fun x hx => (hDB x hx).1) hne).mono ?_
      rintro en w' ⟨⟨i, hi, hr, rfl⟩, hb2⟩
      rw [← rank_same D hDB _ i hi hr, hV]
      exact ⟨rfl, hb2⟩
    have hVr : -9223372036854775807 ≤ ordI V ∧ ordI V ≤ 9223372036854775807 := by
      have h2 : V % 9223372036854775808 < 9223372036854775808 := Nat.mod_lt _ (by omega)
      unfold ordI
      split <;> omega
    have hq := refquant_of (w := w1) yb kn an bn (ordI V) 0 (V : Int) (fun w' => Below w1.heap.size w1 w') hVr.1 hVr.2 (by
      rcases Int.lt_or_le (ordI V) 0 with c | c
      · exact Or.inl ⟨c, (back_neg V hVB c).symm⟩
      · exact Or.inr ⟨c, (back_pos V hVB c).symm⟩) hrk
    refine hq.mono ?_
    rintro e2 w2 ⟨rfl, hb2⟩
    exact ⟨rfl, h.stay hb hb2⟩
end Go.Proofs.YtgjhjfldocapjaaGreatDoor

namespace Go.Proofs.YtgjhjfldocapjaaGreatDoor
open Go.RowKit Go.Shelf Go.Maps

theorem PrS.below {w w' : World} {mb yb n W C : Nat} {l : List Sb} {kb : Nat} {ms : List (Option Nat)} {v : Value} (h : PrS w mb yb n W C l kb ms v) (hb : Below w.heap.size w w') : PrS w' mb yb n W C l kb ms v :=
  ⟨h.x.below hb, h.y.below hb, h.hn, h.le, h.isb⟩

theorem Nxt.of_below {w wa w2 : World} {mb yb n W : Nat} {l : List Sb} {kb : Nat} {ms : List (Option Nat)} {v : Value} (hb : Below w.heap.size w wa) (h : Nxt wa mb yb n W l kb ms v w2) : Nxt w mb yb n W l kb ms v w2 := by
  obtain ⟨C', l', kb', ms', v', h1, h2, h3⟩ := h
  exact ⟨C', l', kb', ms', v', h1, ⟨h2.os.trans hb.os, h2.tape.trans hb.tape, h2.output.trans hb.output, Nat.le_trans hb.size h2.size, fun k hk ho => (h2.keep k (Nat.lt_of_lt_of_le hk hb.size) ho).trans (hb.block k hk), fun k ho => by
    rcases h2.own k ho with h | h
    · exact Or.inl h
    · exact Or.inr (Nat.le_trans hb.size h)⟩, h3⟩

set_option maxHeartbeats 400000 in
theorem lawnum_any (r : Int) (w : World) : Calls Tryz.prog 56 #[.int .i64 r] w fun e w' => e = .returned (.int .i64 r) ∧ w' = w := by
  go_enter Tryz.func56, Tryz.ntmps56
  go_wp2_with fail
  go_ret
  exact ⟨rfl, rfl⟩

abbrev opV (kd wn A B Cc : Int) (S : ByteArray) (V U : Nat) (Lv : Value) : Value := .agg #[.int .i64 kd, .int .i64 wn, .int .i64 A, .int .i64 B, .int .i64 Cc, .string S, .int .u64 V, .int .u64 U, Lv]
abbrev pairV (mb yb : Nat) : Value := .agg #[.pointer (some ⟨mb, 0, none⟩), .pointer (some ⟨yb, 0, none⟩)]
abbrev opB (kd wn A B Cc : Int) (S : ByteArray) (V U : Nat) (Lv : Value) : Obj := .cells #[.int .i64 kd, .int .i64 wn, .int .i64 A, .int .i64 B, .int .i64 Cc, .string S, .int .u64 V, .int .u64 U, Lv] 72 (0, 0)
abbrev pairB (mb yb : Nat) : Obj := .cells #[.pointer (some ⟨mb, 0, none⟩), .pointer (some ⟨yb, 0, none⟩)] 103 (0, 0)

/-- the pair's and the step's own blocks, wherever they lie -/
structure Boxes (w : World) (pb ob mb yb : Nat) (kd wn A B Cc : Int) (S : ByteArray) (V U : Nat) (Lv : Value) : Prop where
  p : w.heap[pb]? = some (pairB mb yb)
  o : w.heap[ob]? = some (opB kd wn A B Cc S V U Lv)

theorem Boxes.step {w w' : World} {pb ob mb yb : Nat} {kd wn A B Cc : Int} {S : ByteArray} {V U : Nat} {Lv : Value} (h : Boxes w pb ob mb yb kd wn A B Cc S V U Lv) {K : Nat → Prop} (hk : Kept K w w') (hp : K pb) (ho : K ob) : Boxes w' pb ob mb yb kd wn A B Cc S V U Lv :=
  ⟨(hk.block pb hp).trans h.p, (hk.block ob ho).trans h.o⟩

theorem box_not_x {K : Nat → Prop} {w : World} {mb kb W C : Nat} {ms : List (Option Nat)} {bags : List (List Nat)} (hx : Mtr K w mb kb W C ms bags) {k : Nat} {cs : Array Value} {t : Nat} (h : w.heap[k]? = some (.cells cs t (0, 0))) (ht : t = 72 ∨ t = 103) : ¬ OwX mb kb ms k := fun ho => by
  rcases hx.what k ho with ⟨c, e⟩ | ⟨c, e⟩ | ⟨es, c, e⟩
  · rw [h] at e
    injection e with e
    injection e with _ e2 _
    rcases ht with ht | ht <;> (rw [ht] at e2; exact absurd e2 (by decide))
  · rw [h] at e
    injection e with e
    injection e with _ e2 _
    rcases ht with ht | ht <;> (rw [ht] at e2; exact absurd e2 (by decide))
  · rw [h] at e
    cases e

set_option maxRecDepth 40000 in
set_option maxHeartbeats 1600000 in
theorem meters_tick {w : World} {mb yb n W C : Nat} {l : List Sb} {kb : Nat} {ms : List (Option Nat)} {v : Value} (h : PrS w mb yb n W C l kb ms v) (_hl : l.length < 2000000000000) (wn A B Cc : Int) (S : ByteArray) (V U : Nat) (Lv : Value) (_hV : V < 18446744073709551616) :
    Calls Tryz.prog 59 #[pairV mb yb, opV 8 wn A B Cc S V U Lv] w fun e w' => e = .returned (.bool true) ∧ Nxt w mb yb n W l kb ms v w' := by
  have hba : Below w.heap.size w ((w.alloc (pairB mb yb)).alloc (opB 8 wn A B Cc S V U Lv)) := ((Below.refl _ w).alloc (Nat.le_refl _) _).alloc (by simp) _
  have hbx : Boxes ((w.alloc (pairB mb yb)).alloc (opB 8 wn A B Cc S V U Lv)) w.heap.size (w.heap.size + 1) mb yb 8 wn A B Cc S V U Lv := ⟨(Below.heap_alloc _ _ w.heap.size (by simp)).trans (heap_alloc_new w _), by
    have := heap_alloc_new (w.alloc (pairB mb yb)) (opB 8 wn A B Cc S V U Lv)
    simpa using this⟩
  have HP := hide (h.below hba)
  have HBa := hide hba
  have HBx := hide hbx
  have HNu := hide lawnum_any
  clear h hba hbx
  go_enter Tryz.func59, Tryz.ntmps59
  go_wp2_with fail
  refine (tick_pair (unhide HP) A).mono ?_
  rintro e w1 ⟨r, rfl, hr1, hr2, hk1, hC2⟩
  have hb1 : Boxes w1 w.heap.size (w.heap.size + 1) mb yb 8 wn A B Cc S V U Lv := (unhide HBx).step hk1 ⟨by simp; omega, box_not_x (unhide HP).x (unhide HBx).p (Or.inr rfl)⟩ ⟨by simp, box_not_x (unhide HP).x (unhide HBx).o (Or.inl rfl)⟩
  have d1 : w1.cell? ⟨w.heap.size, 1, none⟩ = some (.pointer (some ⟨yb, 0, none⟩)) := by simp [World.cell?, hb1.p]
  have c2 : w1.cell? ⟨w.heap.size + 1, 2, none⟩ = some (.int .i64 A) := by simp [World.cell?, hb1.o]
  have HC2 := hide hC2
  clear hC2 hk1 hb1 HBx HP
  go_wp2_with fail
  refine (unhide HC2).mono ?_
  rintro e2 w2 ⟨rfl, hN⟩
  have HN := hide hN
  clear hN HC2
  go_wp2_with fail
  refine (unhide HNu _ _).mono ?_
  rintro e3 w3 ⟨rfl, e3⟩
  rw [e3]
  clear e3 w3
  go_wp2_with fail
  go_ret
  exact ⟨by simp, Nxt.of_below (unhide HBa) (unhide HN)⟩

set_option maxRecDepth 40000 in
set_option maxHeartbeats 1600000 in
theorem meters_add {w : World} {mb yb n W C : Nat} {l : List Sb} {kb : Nat} {ms : List (Option Nat)} {v : Value} (h : PrS w mb yb n W C l kb ms v) (hl : l.length < 2000000000000) (wn A B Cc : Int) (S : ByteArray) (V U : Nat) (Lv : Value) (hV : V < 18446744073709551616) :
    Calls Tryz.prog 59 #[pairV mb yb, opV 9 wn A B Cc S V U Lv] w fun e w' => e = .returned (.bool true) ∧ Nxt w mb yb n W l kb ms v w' := by
  have hba : Below w.heap.size w ((w.alloc (pairB mb yb)).alloc (opB 9 wn A B Cc S V U Lv)) := ((Below.refl _ w).alloc (Nat.le_refl _) _).alloc (by simp) _
  have hbx : Boxes ((w.alloc (pairB mb yb)).alloc (opB 9 wn A B Cc S V U Lv)) w.heap.size (w.heap.size + 1) mb yb 9 wn A B Cc S V U Lv := ⟨(Below.heap_alloc _ _ w.heap.size (by simp)).trans (heap_alloc_new w _), by
    have := heap_alloc_new (w.alloc (pairB mb yb)) (opB 9 wn A B Cc S V U Lv)
    simpa using this⟩
  have HP := hide (h.below hba)
  have HBa := hide hba
  have HBx := hide hbx
  have HNu := hide lawnum_any
  clear h hba hbx
  go_enter Tryz.func59, Tryz.ntmps59
  go_wp2_with fail
  refine (add_pair (unhide HP) A V hV hl).mono ?_
  rintro e w1 ⟨r, rfl, hr1, hr2, hk1, hC2⟩
  have hb1 : Boxes w1 w.heap.size (w.heap.size + 1) mb yb 9 wn A B Cc S V U Lv := (unhide HBx).step hk1 ⟨by simp; omega, box_not_x (unhide HP).x (unhide HBx).p (Or.inr rfl)⟩ ⟨by simp, box_not_x (unhide HP).x (unhide HBx).o (Or.inl rfl)⟩
  have d1 : w1.cell? ⟨w.heap.size, 1, none⟩ = some (.pointer (some ⟨yb, 0, none⟩)) := by simp [World.cell?, hb1.p]
  have c2 : w1.cell? ⟨w.heap.size + 1, 2, none⟩ = some (.int .i64 A) := by simp [World.cell?, hb1.o]
  have c6 : w1.cell? ⟨w.heap.size + 1, 6, none⟩ = some (.int .u64 V) := by simp [World.cell?, hb1.o]
  have HC2 := hide hC2
  clear hC2 hk1 hb1 HBx HP
  go_wp2_with fail
  refine (unhide HC2).mono ?_
  rintro e2 w2 ⟨rfl, hN⟩
  have HN := hide hN
  clear hN HC2
  go_wp2_with fail
  refine (unhide HNu _ _).mono ?_
  rintro e3 w3 ⟨rfl, e3⟩
  rw [e3]
  clear e3 w3
  go_wp2_with fail
  go_ret
  exact ⟨by simp, Nxt.of_below (unhide HBa) (unhide HN)⟩

set_option maxRecDepth 40000 in
set_option maxHeartbeats 1600000 in
theorem meters_count {w : World} {mb yb n W C : Nat} {l : List Sb} {kb : Nat} {ms : List (Option Nat)} {v : Value} (h : PrS w mb yb n W C l kb ms v) (hl : l.length < 2000000000000) (wn A B Cc : Int) (S : ByteArray) (V U : Nat) (Lv : Value) (_hV : V < 18446744073709551616) :
    Calls Tryz.prog 59 #[pairV mb yb, opV 10 wn A B Cc S V U Lv] w fun e w' => e = .returned (.bool true) ∧ Nxt w mb yb n W l kb ms v w' := by
  have hba : Below w.heap.size w ((w.alloc (pairB mb yb)).alloc (opB 10 wn A B Cc S V U Lv)) := ((Below.refl _ w).alloc (Nat.le_refl _) _).alloc (by simp) _
  have hbx : Boxes ((w.alloc (pairB mb yb)).alloc (opB 10 wn A B Cc S V U Lv)) w.heap.size (w.heap.size + 1) mb yb 10 wn A B Cc S V U Lv := ⟨(Below.heap_alloc _ _ w.heap.size (by simp)).trans (heap_alloc_new w _), by
    have := heap_alloc_new (w.alloc (pairB mb yb)) (opB 10 wn A B Cc S V U Lv)
    simpa using this⟩
  have HP := hide (h.below hba)
  have HBa := hide hba
  have HBx := hide hbx
  have HNu := hide lawnum_any
  clear h hba hbx
  go_enter Tryz.func59, Tryz.ntmps59
  go_wp2_with fail
  refine (count_pair (unhide HP) A hl).mono ?_
  rintro e w1 ⟨c, r, rfl, hr1, hr2, hk1, hC2⟩
  have hb1 : Boxes w1 w.heap.size (w.heap.size + 1) mb yb 10 wn A B Cc S V U Lv := (unhide HBx).step hk1 ⟨by simp; omega, box_not_x (unhide HP).x (unhide HBx).p (Or.inr rfl)⟩ ⟨by simp, box_not_x (unhide HP).x (unhide HBx).o (Or.inl rfl)⟩
  have d1 : w1.cell? ⟨w.heap.size, 1, none⟩ = some (.pointer (some ⟨yb, 0, none⟩)) := by simp [World.cell?, hb1.p]
  have c2 : w1.cell? ⟨w.heap.size + 1, 2, none⟩ = some (.int .i64 A) := by simp [World.cell?, hb1.o]
  have HC2 := hide hC2
  clear hC2 hk1 hb1 HBx HP
  go_wp2_with fail
  refine (unhide HC2).mono ?_
  rintro e2 w2 ⟨rfl, hN⟩
  have HN := hide hN
  clear hN HC2
  go_wp2_with fail
  refine (unhide HNu _ _).mono ?_
  rintro e3 w3 ⟨rfl, e3⟩
  rw [e3]
  clear e3 w3
  go_wp2_with fail
  go_ret
  exact ⟨by simp, Nxt.of_below (unhide HBa) (unhide HN)⟩

set_option maxRecDepth 40000 in
set_option maxHeartbeats 1600000 in
theorem meters_quant {w : World} {mb yb n W C : Nat} {l : List Sb} {kb : Nat} {ms : List (Option Nat)} {v : Value} (h : PrS w mb yb n W C l kb ms v) (hl : l.length < 2000000000000) (wn A B Cc : Int) (S : ByteArray) (V U : Nat) (Lv : Value) (_hV : V < 18446744073709551616) :
    Calls Tryz.prog 59 #[pairV mb yb, opV 11 wn A B Cc S V U Lv] w fun e w' => e = .returned (.bool true) ∧ Nxt w mb yb n W l kb ms v w' := by
  have hba : Below w.heap.size w ((w.alloc (pairB mb yb)).alloc (opB 11 wn A B Cc S V U Lv)) := ((Below.refl _ w).alloc (Nat.le_refl _) _).alloc (by simp) _
  have hbx : Boxes ((w.alloc (pairB mb yb)).alloc (opB 11 wn A B Cc S V U Lv)) w.heap.size (w.heap.size + 1) mb yb 11 wn A B Cc S V U Lv := ⟨(Below.heap_alloc _ _ w.heap.size (by simp)).trans (heap_alloc_new w _), by
    have := heap_alloc_new (w.alloc (pairB mb yb)) (opB 11 wn A B Cc S V U Lv)
    simpa using this⟩
  have HP := hide (h.below hba)
  have HBa := hide hba
  have HBx := hide hbx
  have HNu := hide lawnum_any
  clear h hba hbx
  go_enter Tryz.func59, Tryz.ntmps59
  go_wp2_with fail
  refine (quant_pair (unhide HP) A B Cc hl).mono ?_
  rintro e w1 ⟨c, r, rfl, hr1, hr2, hk1, hC2⟩
  have hb1 : Boxes w1 w.heap.size (w.heap.size + 1) mb yb 11 wn A B Cc S V U Lv := (unhide HBx).step hk1 ⟨by simp; omega, box_not_x (unhide HP).x (unhide HBx).p (Or.inr rfl)⟩ ⟨by simp, box_not_x (unhide HP).x (unhide HBx).o (Or.inl rfl)⟩
  have d1 : w1.cell? ⟨w.heap.size, 1, none⟩ = some (.pointer (some ⟨yb, 0, none⟩)) := by simp [World.cell?, hb1.p]
  have c2 : w1.cell? ⟨w.heap.size + 1, 2, none⟩ = some (.int .i64 A) := by simp [World.cell?, hb1.o]
  have c3 : w1.cell? ⟨w.heap.size + 1, 3, none⟩ = some (.int .i64 B) := by simp [World.cell?, hb1.o]
  have c4 : w1.cell? ⟨w.heap.size + 1, 4, none⟩ = some (.int .i64 Cc) := by simp [World.cell?, hb1.o]
  have HC2 := hide hC2
  clear hC2 hk1 hb1 HBx HP
  go_wp2_with fail
  refine (unhide HC2).mono ?_
  rintro e2 w2 ⟨rfl, hN⟩
  have HN := hide hN
  clear hN HC2
  go_wp2_with fail
  refine (unhide HNu _ _).mono ?_
  rintro e3 w3 ⟨rfl, e3⟩
  rw [e3]
  clear e3 w3
  go_wp2_with fail
  go_ret
  exact ⟨by simp, Nxt.of_below (unhide HBa) (unhide HN)⟩
end Go.Proofs.YtgjhjfldocapjaaGreatDoor

namespace Go.Proofs.YtgjhjfldocapjaaGreatDoor
open Go.RowKit Go.Shelf Go.Maps

/-- a pair's places and numbers -/
structure Pr where
  mb : Nat
  yb : Nat
  n : Nat
  W : Nat
  C : Nat
  l : List Sb
  kb : Nat
  ms : List (Option Nat)
  v : Value

def Pr.ok (w : World) (p : Pr) : Prop := PrS w p.mb p.yb p.n p.W p.C p.l p.kb p.ms p.v
def Pr.own (p : Pr) : Nat → Prop := OwP p.mb p.kb p.ms p.yb p.v

theorem Pr.ok.same {w w' : World} {p : Pr} (h : p.ok w) (hs : w.heap.size ≤ w'.heap.size) (hk : ∀ k, k < w.heap.size → p.own k → w'.heap[k]? = w.heap[k]?) (ho : w'.os = w.os) (ht : w'.tape = w.tape) (hu : w'.output = w.output) : p.ok w' := by
  refine ⟨h.x.same hs (fun k h1 h2 => hk k h1 (Or.inl h2)), ?_, h.hn, h.le, h.isb⟩
  exact h.y.kept (J := OwY p.yb p.v) ⟨ho, ht, hu, hs, fun k h1 => hk k (h.y.own_lt k h1) (Or.inr h1)⟩ (fun _ h1 => h1)

theorem Pr.ok.lt {w : World} {p : Pr} (h : p.ok w) : ∀ k, p.own k → k < w.heap.size := by
  rintro k (hk | hk)
  · exact h.x.own_lt k hk
  · exact h.y.own_lt k hk

/-- what a pair's block is not -/
theorem Pr.ok.no {w : World} {p : Pr} (h : p.ok w) {k : Nat} {cs : Array Value} {t : Nat} (hh : w.heap[k]? = some (.cells cs t (0, 0))) (ht : t = 68 ∨ t = 103 ∨ t = 72) : ¬ p.own k := by
  rintro (ho | ho)
  · rcases h.x.what k ho with ⟨c, e⟩ | ⟨c, e⟩ | ⟨es, c, e⟩
    · rw [hh] at e
      injection e with e
      injection e with _ e2 _
      rcases ht with ht | ht | ht <;> (rw [ht] at e2; exact absurd e2 (by decide))
    · rw [hh] at e
      injection e with e
      injection e with _ e2 _
      rcases ht with ht | ht | ht <;> (rw [ht] at e2; exact absurd e2 (by decide))
    · rw [hh] at e
      cases e
  · obtain ⟨c, t', e, ht'⟩ := h.y.what k ho
    rw [hh] at e
    injection e with e
    injection e with _ e2 _
    rcases ht with ht | ht | ht <;> rcases ht' with ht' | ht' <;> (rw [ht, ht'] at e2; exact absurd e2 (by decide))

def flatP (ps : List Pr) : List Value := ps.flatMap fun p => [.pointer (some ⟨p.mb, 0, none⟩), .pointer (some ⟨p.yb, 0, none⟩)]
theorem flatP_snoc (ps : List Pr) (p : Pr) : flatP (ps ++ [p]) = flatP ps ++ [.pointer (some ⟨p.mb, 0, none⟩), .pointer (some ⟨p.yb, 0, none⟩)] := by simp [flatP]

theorem flatP_set (ps : List Pr) (i : Nat) (p : Pr) (h : ∀ q, ps[i]? = some q → q.mb = p.mb ∧ q.yb = p.yb) : flatP (ps.set i p) = flatP ps := by
  induction ps generalizing i with
  | nil => rfl
  | cons a r ih =>
    cases i with
    | zero =>
      obtain ⟨e1, e2⟩ := h a rfl
      simp [flatP, e1, e2]
    | succ i =>
      have := ih i (fun q hq => h q (by simpa using hq))
      unfold flatP at this ⊢
      simp [this]

theorem flatP_get (ps : List Pr) (j : Nat) (p : Pr) (h : ps[j]? = some p) : (flatP ps)[j * 2]? = some (.pointer (some ⟨p.mb, 0, none⟩)) ∧ (flatP ps)[j * 2 + 1]? = some (.pointer (some ⟨p.yb, 0, none⟩)) := by
  induction ps generalizing j with
  | nil => simp at h
  | cons a r ih =>
    have e : flatP (a :: r) = .pointer (some ⟨a.mb, 0, none⟩) :: .pointer (some ⟨a.yb, 0, none⟩) :: flatP r := by simp [flatP]
    rw [e]
    cases j with
    | zero =>
      simp at h
      subst h
      simp
    | succ j =>
      have := ih j (by simpa using h)
      have e1 : (j + 1) * 2 = j * 2 + 1 + 1 := by omega
      rw [e1]
      simpa using this

def wcells (av : Value) : Array Value := #[av, .slice none 0 0, .slice none 0 0, .slice none 0 0, .slice none 0 0, .int .i64 0]

/-- the script's world: its meters; nothing else is kept -/
structure WS (w0 w : World) (zb : Nat) (av : Value) (ps : List Pr) (tot : Nat) : Prop where
  hz : w.heap[zb]? = some (.cells (wcells av) 68 (0, 0))
  row : w.ownsRow w0.heap.size 103 2 av ps.length (flatP ps)
  ok : ∀ p ∈ ps, p.ok w
  apart : ps.Pairwise fun p q => ∀ k, p.own k → ¬ q.own k
  low : ∀ p ∈ ps, ∀ k, p.own k → w0.heap.size ≤ k
  lowz : w0.heap.size ≤ zb
  bel : Below w0.heap.size w0 w
  few : ∀ p ∈ ps, p.l.length ≤ tot
  len : ps.length ≤ tot + 1

theorem WS.c0 {w0 w : World} {zb : Nat} {av : Value} {ps : List Pr} {tot : Nat} (h : WS w0 w zb av ps tot) : w.cell? ⟨zb, 0, none⟩ = some av := by simp [World.cell?, h.hz, wcells]
theorem WS.c1 {w0 w : World} {zb : Nat} {av : Value} {ps : List Pr} {tot : Nat} (h : WS w0 w zb av ps tot) : w.cell? ⟨zb, 1, none⟩ = some (.slice none 0 0) := by simp [World.cell?, h.hz, wcells]
theorem WS.c3 {w0 w : World} {zb : Nat} {av : Value} {ps : List Pr} {tot : Nat} (h : WS w0 w zb av ps tot) : w.cell? ⟨zb, 3, none⟩ = some (.slice none 0 0) := by simp [World.cell?, h.hz, wcells]
theorem WS.f0 {w0 w : World} {zb : Nat} {av : Value} {ps : List Pr} {tot : Nat} (h : WS w0 w zb av ps tot) : w.frozen? ⟨zb, 0, none⟩ = false := by simp [World.frozen?, h.hz]

/-- what only makes new blocks -/
theorem WS.below {w0 w w' : World} {zb : Nat} {av : Value} {ps : List Pr} {tot : Nat} (h : WS w0 w zb av ps tot) (hb : Below w.heap.size w w') : WS w0 w' zb av ps tot :=
  ⟨(hb.block zb (Array.getElem?_eq_some_iff.1 h.hz).1).trans h.hz, h.row.kept (Below.grownBy hb) (by cases av.ownBlock <;> simp), fun p hp => (h.ok p hp).same hb.size (fun k hk _ => hb.block k hk) hb.os hb.tape hb.output, h.apart, h.low, h.lowz, h.bel.trans (hb.mono h.bel.size), h.few, h.len⟩

/-- the row's block is no pair's and not the world's -/
theorem WS.rowNo {w0 w : World} {zb : Nat} {av : Value} {ps : List Pr} {tot : Nat} (h : WS w0 w zb av ps tot) (g : Nat) (hg : av.ownBlock = some g) : g ≠ zb ∧ ∀ p : Pr, p.ok w → ¬ p.own g := by
  rcases h.row.2 with ⟨rfl, _⟩ | ⟨g', cap, cur, rfl, hb, hgg, _⟩
  · simp [Value.ownBlock] at hg
  · simp [Value.ownBlock] at hg
    subst hg
    refine ⟨fun e => ?_, fun p hp => hp.no hgg (Or.inr (Or.inl rfl))⟩
    subst e
    have := h.hz.symm.trans hgg
    injection this with this
    injection this with _ e2 _
    exact absurd e2 (by decide)
end Go.Proofs.YtgjhjfldocapjaaGreatDoor

namespace Go.Proofs.YtgjhjfldocapjaaGreatDoor
open Go.RowKit Go.Shelf Go.Maps

theorem infoP : (Tryz.prog.info? 103).map (fun i => (i.zero, i.size, i.bytes)) = some (some (.agg #[.pointer none, .pointer none]), 2, 16) := by kernel_rfl

/-- two new meters beside each other -/
theorem new_pair (a b : Int) (hp : newOk a b) (w : World) :
    Calls Tryz.prog 28 #[.int .i64 a, .int .i64 b] w fun e w1 => ∃ mb : Nat, e = .returned (.tuple #[.pointer (some ⟨mb, 0, none⟩), .int .i64 0]) ∧
      Calls Tryz.prog 55 #[.int .i64 a, .int .i64 b] w1 fun e2 w2 => ∃ p : Pr, p.mb = mb ∧ e2 = .returned (.tuple #[.pointer (some ⟨p.yb, 0, none⟩), .int .i64 0]) ∧ p.ok w2 ∧ p.l = [] ∧ (∀ k, p.own k → w.heap.size ≤ k) ∧ Below w.heap.size w w2 := by
  obtain ⟨p1, p2, p3, p4⟩ := hp
  obtain ⟨n, rfl⟩ : ∃ n : Nat, a = (n : Int) := ⟨a.toNat, by omega⟩
  obtain ⟨wd, rfl⟩ : ∃ wd : Nat, b = (wd : Int) := ⟨b.toNat, by omega⟩
  refine (new_ok n wd (by omega) (by omega) (by omega) (by omega) w).mono ?_
  rintro e w1 ⟨rfl, rfl⟩
  refine ⟨_, rfl, (refnew_run n wd (by omega) (by omega) (by omega) (by omega) _).mono ?_⟩
  rintro e2 w2 ⟨rfl, rfl⟩
  have hm := new_mtr (fun _ => False) n wd (by omega) (by omega) (by omega) (by omega) w (fun _ hf => hf.elim)
  generalize hw1 : (w.alloc (.cells (Array.replicate n (.map none)) 91)).alloc (.cells #[.int .i64 wd, .int .i64 0, .slice (some ⟨w.heap.size, 0, none⟩) n n] 89) = w1 at *
  have hs1 : w1.heap.size = w.heap.size + 2 := by rw [← hw1]; simp
  have hb1 : Below w.heap.size w w1 := by rw [← hw1]; exact ((Below.refl _ w).alloc (Nat.le_refl _) _).alloc (by simp) _
  have hb2 : Below w1.heap.size w1 (w1.alloc (.cells (rcells n wd 0 (.slice none 0 0) rule0) 144)) := (Below.refl _ w1).alloc (Nat.le_refl _) _
  have hw12 : 1 ≤ wd ∧ wd ≤ 1000000 := ⟨by omega, by omega⟩
  have hn12 : 1 ≤ n ∧ n ≤ 8 := ⟨by omega, by omega⟩
  refine ⟨⟨w.heap.size + 1, w1.heap.size, n, wd, 0, [], w.heap.size, List.replicate n none, .slice none 0 0⟩, rfl, rfl, ⟨?_, ⟨?_, World.ownsRow_nil _ _ _ _, fun _ _ hf => hf, fun hf => hf, fun _ hf => hf.elim, hw12, Nat.zero_le _, hn12⟩, by simp, (fun q hq => by cases hq), (fun q hq => by cases hq)⟩, rfl, ?_, hb1.trans (hb2.mono hb1.size)⟩
  · rw [bagsOf_nil]
    exact hm.below hb2
  · exact heap_alloc_new w1 _
  · rintro k ((e | e | e) | (e | e))
    · have e' : k = w.heap.size + 1 := e
      omega
    · have e' : k = w.heap.size := e
      omega
    · exact absurd (List.eq_of_mem_replicate e) (by simp)
    · have e' : k = w1.heap.size := e
      omega
    · cases e

set_option maxRecDepth 20000 in
set_option maxHeartbeats 800000 in
theorem made_bad {w0 w : World} {zb : Nat} {av : Value} {ps : List Pr} {tot : Nat} (h : WS w0 w zb av ps tot) (a b : Int) (hp : ¬ newOk a b) :
    Calls Tryz.prog 32 #[.pointer (some ⟨zb, 0, none⟩), .int .i64 a, .int .i64 b] w fun e w' => e = .returned (.bool true) ∧ WS w0 w' zb av ps tot := by
  have HW := hide h
  have HN1 := hide (new_bad a b hp)
  have HN2 := hide (refnew_bad a b hp)
  have HNu := hide lawnum_any
  clear h hp
  go_enter Tryz.func32, Tryz.ntmps32
  go_wp2_with fail
  refine (unhide HN1 _).mono ?_
  rintro e w1 ⟨rfl, e1⟩
  rw [e1]
  clear e1 w1
  go_wp2_with fail
  refine (unhide HN2 _).mono ?_
  rintro e w1 ⟨rfl, e1⟩
  rw [e1]
  clear e1 w1
  go_wp2_with fail
  refine (unhide HNu _ _).mono ?_
  rintro e w1 ⟨rfl, e1⟩
  rw [e1]
  clear e1 w1
  go_wp2_with fail
  go_ret
  exact ⟨rfl, unhide HW⟩

set_option maxRecDepth 20000 in
set_option maxHeartbeats 1600000 in
theorem made_ok {w0 w : World} {zb : Nat} {av : Value} {ps : List Pr} {tot : Nat} (h : WS w0 w zb av ps tot) (a b : Int) (hp : newOk a b) (ht : tot < 2000000000000) :
    Calls Tryz.prog 32 #[.pointer (some ⟨zb, 0, none⟩), .int .i64 a, .int .i64 b] w fun e w' => e = .returned (.bool true) ∧ ∃ av' ps', WS w0 w' zb av' ps' (tot + 1) ∧ ps'.length = ps.length + 1 := by
  have HW := hide h
  have HN1 := hide (new_pair a b hp w)
  have HNu := hide lawnum_any
  obtain ⟨i0, hi, hz0, hz1, hz2⟩ := info_parts infoP
  clear h hp
  go_enter Tryz.func32, Tryz.ntmps32
  go_wp2_with fail
  refine (unhide HN1).mono ?_
  rintro e w1 ⟨mb, rfl, hC2⟩
  have HC2 := hide hC2
  clear hC2 HN1
  go_wp2_with fail
  refine (unhide HC2).mono ?_
  rintro e w2 ⟨p, rfl, rfl, hok, hl0, hown, hb⟩
  have HB := hide hb
  have HPk := hide (And.intro hok (And.intro hl0 hown))
  clear hok hl0 hown hb HC2
  go_wp2_with fail
  refine (unhide HNu _ _).mono ?_
  rintro e w3 ⟨rfl, e3⟩
  rw [e3]
  clear e3 w3
  have h2 := (unhide HW).below (unhide HB)
  have c0 := h2.c0
  have f0 := h2.f0
  have hrow := h2.row
  have hlen := h2.len
  have hs0 := h2.bel.size
  have hzl : zb < w2.heap.size := (Array.getElem?_eq_some_iff.1 h2.hz).1
  have H2 := hide h2
  clear h2
  generalize hmb : p.mb = mb at *
  generalize hyb : p.yb = yb at *
  have HMb := hide (And.intro hmb hyb)
  clear hmb hyb
  go_wp2_with (first
    | (at_builtin; refine wpList_append_own_at _ rfl _ _ 63 rfl w0.heap.size 103 i0 (.agg #[.pointer none, .pointer none]) 2 16 Tryz.underlying63 hi hz0 hz1 hz2 rfl (by decide) _ _ _ rfl (hrow.alloc _) ⟨w2.heap.size, 0, none⟩ 1 1 [.pointer (some ⟨mb, 0, none⟩), .pointer (some ⟨yb, 0, none⟩)] rfl rfl (cell_two_at _ _ _ _ _ rfl) (by intro u hu; simp at hu; rcases hu with rfl | rfl <;> rfl) (by unfold maxLen; omega) (by omega) (by simp; omega) ?_; intro v' W8 hown' hgrow _ hat; obtain ⟨g', cp', rfl⟩ := own_form hown'; have hh8 : W8.heap[zb]? = some (.cells (wcells av) 68 (0, 0)) := (hgrow.block zb (by simp; omega) (fun e => ((unhide H2).rowNo zb e.symm).1 rfl)).trans ((Below.heap_alloc _ _ zb hzl).trans (unhide H2).hz); have f8 : W8.frozen? ⟨zb, 0, none⟩ = false := by { simp [World.frozen?, hh8] }; have c8 : W8.cell? ⟨zb, 0, none⟩ = some av := by { simp [World.cell?, hh8, wcells] })
    | go_in)
  go_ret
  have h2 := unhide H2
  obtain ⟨hok, hl0, hown⟩ := unhide HPk
  obtain ⟨hmb, hyb⟩ := unhide HMb
  have hw2 := (unhide HB).size
  have hgz : W8.grownBy (W8.setCell ⟨zb, 0, none⟩ (.slice (some ⟨g', 0, none⟩) (ps.length + 1) cp')) (some zb) := ⟨rfl, rfl, rfl, by simp, fun k _ hne => Below.heap_setCell W8 ⟨zb, 0, none⟩ _ k (fun e => hne (by rw [e]))⟩
  have hkeep : ∀ q : Pr, q.ok w2 → q.ok (W8.setCell ⟨zb, 0, none⟩ (.slice (some ⟨g', 0, none⟩) (ps.length + 1) cp')) := fun q hq => by
    refine hq.same ?_ (fun k hk ho => ?_) (hgz.os.trans hgrow.os) (hgz.tape.trans hgrow.tape) (hgz.output.trans hgrow.output)
    · have := hgrow.size
      simp at this ⊢
      omega
    · have hz' : k ≠ zb := fun e => by
        subst e
        exact hq.no h2.hz (Or.inl rfl) ho
      have hg1 := hgrow.block k (by simp; omega) (fun e => (h2.rowNo k e.symm).2 q hq ho)
      have hsz := hgrow.size
      simp at hsz
      exact (hgz.block k (by omega) (fun e => hz' (by injection e))).trans (hg1.trans (Below.heap_alloc _ _ k hk))
  refine ⟨rfl, .slice (some ⟨g', 0, none⟩) (ps.length + 1) cp', ps ++ [p], ⟨?_, ?_, fun q hq => ?_, ?_, fun q hq k ho => ?_, h2.lowz, ?_, fun q hq => ?_, ?_⟩, by simp⟩
  · rw [heap_setCell_same W8 zb 0 _ _ _ hh8]
    rfl
  · rw [List.length_append, flatP_snoc, hmb, hyb]
    refine hown'.kept hgz (Or.inr (fun e => ?_))
    rcases hat with e2 | e2
    · exact (h2.rowNo zb (e2.symm.trans e)).1 rfl
    · rw [e2] at e
      injection e with e
      simp at e
      omega
  · rcases List.mem_append.1 hq with hq | hq
    · exact hkeep q (h2.ok q hq)
    · rw [List.mem_singleton.1 hq]; exact hkeep p hok
  · rw [List.pairwise_append]
    refine ⟨h2.apart, by simp, fun q hq r hr k h1 h3 => ?_⟩
    rw [List.mem_singleton.1 hr] at h3
    have k1 := ((unhide HW).ok q hq).lt k h1
    have k2 := hown k h3
    omega
  · rcases List.mem_append.1 hq with hq | hq
    · exact h2.low q hq k ho
    · rw [List.mem_singleton.1 hq] at ho
      have k1 := hown k ho
      have k2 := (unhide HW).bel.size
      omega
  · exact ((h2.bel.alloc h2.bel.size _).grown hgrow (by simp; omega) (fun k e => (h2.row.lt k e).1)).setCell h2.lowz _
  · rcases List.mem_append.1 hq with hq | hq
    · have := h2.few q hq; omega
    · rw [List.mem_singleton.1 hq, hl0]; simp
  · have := h2.len
    simp; omega
end Go.Proofs.YtgjhjfldocapjaaGreatDoor

namespace Go.Proofs.YtgjhjfldocapjaaGreatDoor
open Go.RowKit Go.Shelf Go.Maps

theorem WS.stepped {w0 w w2 : World} {zb : Nat} {av : Value} {ps : List Pr} {tot : Nat} (h : WS w0 w zb av ps tot) (i : Nat) (p : Pr) (hi : ps[i]? = some p) (hN : Nxt w p.mb p.yb p.n p.W p.l p.kb p.ms p.v w2) : ∃ ps', WS w0 w2 zb av ps' (tot + 1) ∧ ps'.length = ps.length := by
  obtain ⟨C', l', kb', ms', v', h1, h2, h3⟩ := hN
  have hpm := List.mem_of_getElem? hi
  have hp := h.ok p hpm
  obtain ⟨p', hp'⟩ : ∃ p' : Pr, p' = ⟨p.mb, p.yb, p.n, p.W, C', l', kb', ms', v'⟩ := ⟨_, rfl⟩
  have hok' : p'.ok w2 := by rw [hp']; exact h1
  have hown' : ∀ k, p'.own k → p.own k ∨ w.heap.size ≤ k := by rw [hp']; exact h2.own
  have hil : i < ps.length := (List.getElem?_eq_some_iff.1 hi).1
  have hap : ∀ (j : Nat) (q : Pr), ps[j]? = some q → j ≠ i → ∀ k, q.own k → ¬ p.own k := by
    intro j q hj hne k h4 h5
    obtain ⟨j1, j2⟩ := List.getElem?_eq_some_iff.1 hj
    obtain ⟨i1, i2⟩ := List.getElem?_eq_some_iff.1 hi
    rcases Nat.lt_or_gt_of_ne hne with hlt | hgt
    · have := (List.pairwise_iff_getElem.1 h.apart) j i j1 i1 hlt k
      rw [j2, i2] at this
      exact this h4 h5
    · have := (List.pairwise_iff_getElem.1 h.apart) i j i1 j1 hgt k
      rw [j2, i2] at this
      exact this h5 h4
  have hzno : ¬ p.own zb := hp.no h.hz (Or.inl rfl)
  have hzl : zb < w.heap.size := (Array.getElem?_eq_some_iff.1 h.hz).1
  refine ⟨ps.set i p', ⟨(h2.keep zb hzl hzno).trans h.hz, ?_, fun q hq => ?_, ?_, fun q hq k ho => ?_, h.lowz, ⟨h2.os.trans h.bel.os, h2.tape.trans h.bel.tape, h2.output.trans h.bel.output, Nat.le_trans h.bel.size h2.size, fun k hk => ?_⟩, fun q hq => ?_, by rw [List.length_set]; have := h.len; omega⟩, by rw [List.length_set]⟩
  · rw [List.length_set, flatP_set ps i p' (fun q hq => by rw [hi] at hq; cases hq; rw [hp']; exact ⟨rfl, rfl⟩)]
    refine ⟨h.row.1, ?_⟩
    rcases h.row.2 with h0 | ⟨g, cap, cur, e, hb, hgg, rest⟩
    · exact Or.inl h0
    · have hrn := (h.rowNo g (by rw [e]; rfl)).2 p hp
      exact Or.inr ⟨g, cap, cur, e, hb, (h2.keep g (Array.getElem?_eq_some_iff.1 hgg).1 hrn).trans hgg, rest⟩
  · obtain ⟨j, hj⟩ := List.mem_iff_getElem?.1 hq
    rcases getElem?_set_cases hj with ⟨_, rfl⟩ | ⟨hne, hj⟩
    · exact hok'
    · exact (h.ok q (List.mem_of_getElem? hj)).same h2.size (fun k hk ho => h2.keep k hk (hap j q hj hne k ho)) h2.os h2.tape h2.output
  · rw [List.pairwise_iff_getElem]
    intro x y hx hy hxy k hox hoy
    have hx' : x < ps.length := by simpa using hx
    have hy' : y < ps.length := by simpa using hy
    rw [List.getElem_set] at hox hoy
    split at hox
    · rename_i ex
      split at hoy
      · omega
      · have hyq := List.getElem?_eq_getElem hy'
        rcases hown' k hox with o | o
        · exact hap y ps[y] hyq (by omega) k hoy o
        · have := (h.ok ps[y] (List.getElem_mem hy')).lt k hoy
          omega
    · split at hoy
      · have hxq := List.getElem?_eq_getElem hx'
        rcases hown' k hoy with o | o
        · exact hap x ps[x] hxq (by omega) k hox o
        · have := (h.ok ps[x] (List.getElem_mem hx')).lt k hox
          omega
      · exact (List.pairwise_iff_getElem.1 h.apart) x y hx' hy' hxy k hox hoy
  · obtain ⟨j, hj⟩ := List.mem_iff_getElem?.1 hq
    rcases getElem?_set_cases hj with ⟨_, rfl⟩ | ⟨hne, hj⟩
    · rcases hown' k ho with o | o
      · exact h.low p hpm k o
      · exact Nat.le_trans h.bel.size o
    · exact h.low q (List.mem_of_getElem? hj) k ho
  · have hno : ¬ p.own k := fun o => by have := h.low p hpm k o; omega
    exact (h2.keep k (Nat.lt_of_lt_of_le hk h.bel.size) hno).trans (h.bel.block k hk)
  · obtain ⟨j, hj⟩ := List.mem_iff_getElem?.1 hq
    rcases getElem?_set_cases hj with ⟨_, rfl⟩ | ⟨hne, hj⟩
    · rw [hp']
      have := h.few p hpm
      show l'.length ≤ tot + 1
      omega
    · have := h.few q (List.mem_of_getElem? hj)
      omega

theorem WS.more {w0 w : World} {zb : Nat} {av : Value} {ps : List Pr} {tot tot' : Nat} (h : WS w0 w zb av ps tot) (ht : tot ≤ tot') : WS w0 w zb av ps tot' :=
  ⟨h.hz, h.row, h.ok, h.apart, h.low, h.lowz, h.bel, fun p hp => Nat.le_trans (h.few p hp) ht, by have := h.len; omega⟩

/-- any step of a meter -/
theorem meters_any {w : World} {p : Pr} (h : p.ok w) (hl : p.l.length < 2000000000000) (kd : Int) (hkd : 8 ≤ kd ∧ kd ≤ 11) (wn A B Cc : Int) (S : ByteArray) (V U : Nat) (Lv : Value) (hV : V < 18446744073709551616) :
    Calls Tryz.prog 59 #[pairV p.mb p.yb, opV kd wn A B Cc S V U Lv] w fun e w' => e = .returned (.bool true) ∧ Nxt w p.mb p.yb p.n p.W p.l p.kb p.ms p.v w' := by
  obtain rfl | rfl | rfl | rfl : kd = 8 ∨ kd = 9 ∨ kd = 10 ∨ kd = 11 := by omega
  · exact meters_tick h hl wn A B Cc S V U Lv hV
  · exact meters_add h hl wn A B Cc S V U Lv hV
  · exact meters_count h hl wn A B Cc S V U Lv hV
  · exact meters_quant h hl wn A B Cc S V U Lv hV
end Go.Proofs.YtgjhjfldocapjaaGreatDoor

namespace Go.Proofs.YtgjhjfldocapjaaGreatDoor
open Go.RowKit Go.Shelf Go.Maps

set_option maxRecDepth 20000 in
set_option maxHeartbeats 400000 in
theorem lawpick_any (c : Int) (n : Nat) (w : World) (hc1 : -9223372036854775808 ≤ c) (hc2 : c ≤ 9223372036854775807) (hn : 1 ≤ n) (hn2 : n ≤ 9000000000000) :
    Calls Tryz.prog 60 #[.int .i64 c, .int .i64 n] w fun e w' => e = .returned (.int .i64 (pickN c n)) ∧ w' = w := by
  have hp : pickN c n = (if c < 0 then -(c + 1) else c).toNat % n := rfl
  rcases Int.lt_or_le c 0 with h | h
  · obtain ⟨m, hm⟩ : ∃ m : Nat, -(c + 1) = (m : Int) := ⟨(-(c + 1)).toNat, by omega⟩
    rw [if_pos h, hm, Int.toNat_natCast] at hp
    have hlt : m % n < n := Nat.mod_lt _ (by omega)
    have hq : (m : Int) % (n : Int) = ((m % n : Nat) : Int) := (Int.natCast_emod m n).symm
    have HQ := hide (And.intro hp hq)
    have hm2 : m ≤ 9223372036854775807 := by omega
    obtain rfl : c = -(m : Int) - 1 := by omega
    clear hp hq hm
    go_enter Tryz.func60, Tryz.ntmps60
    go_wp2_with fail
    go_ret
    refine ⟨?_, rfl⟩
    apply retI
    rw [(unhide HQ).1]
    have h2 := (unhide HQ).2
    have h3 : wrap64 (-(wrap64 (-(m : Int) - 1 + 1))) = (m : Int) := by unfold wrap64; omega
    have h4 : -(-(m : Int) - 1 + 1) = (m : Int) := by omega
    first
      | (rw [h3, h2]; done)
      | (rw [h4, h2]; done)
      | (rw [← h2]; done)
      | (rw [← h2]; congr 1; omega)
  · obtain ⟨m, rfl⟩ : ∃ m : Nat, c = (m : Int) := ⟨c.toNat, by omega⟩
    rw [if_neg (by omega), Int.toNat_natCast] at hp
    have hlt : m % n < n := Nat.mod_lt _ (by omega)
    have hq : (m : Int) % (n : Int) = ((m % n : Nat) : Int) := (Int.natCast_emod m n).symm
    have HQ := hide (And.intro hp hq)
    clear hp hq
    go_enter Tryz.func60, Tryz.ntmps60
    go_wp2_with fail
    go_ret
    refine ⟨?_, rfl⟩
    apply retI
    rw [(unhide HQ).1]
    have h2 := (unhide HQ).2
    rw [h2]


theorem pair_read {w0 w : World} {zb : Nat} {av : Value} {ps : List Pr} {tot : Nat} (h : WS w0 w zb av ps tot) : ∃ ao cap, av = .slice ao ps.length cap ∧ ps.length ≤ cap ∧ (0 < ps.length → ∃ g o, g < w.heap.size ∧ ao = some ⟨g, o, none⟩ ∧ ∀ (j : Nat) (p : Pr), ps[j]? = some p → w.cell? ⟨g, o + j * 2, none⟩ = some (.pointer (some ⟨p.mb, 0, none⟩)) ∧ w.cell? ⟨g, o + j * 2 + 1, none⟩ = some (.pointer (some ⟨p.yb, 0, none⟩))) := by
  have hlt := h.row.lt
  rcases h.row.2 with ⟨rfl, h0⟩ | ⟨g, cap, cur, rfl, hb, hg, hn, hm, hsz, ht⟩
  · exact ⟨none, 0, by rw [h0], by omega, fun h1 => by omega⟩
  · refine ⟨_, cap, rfl, hn, fun _ => ⟨g, 0, (hlt g rfl).2, rfl, fun j p hj => ?_⟩⟩
    have hc : ∀ (i : Nat) (u : Value), (flatP ps)[i]? = some u → w.cell? ⟨g, i, none⟩ = some u := by
      intro i u hu
      rw [cell_of_row w g i cur _ _ hg]
      rw [← ht, List.getElem?_take] at hu
      split at hu
      · simpa using hu
      · cases hu
    have hf := flatP_get ps j p hj
    rw [Nat.zero_add]
    exact ⟨hc _ _ hf.1, hc _ _ hf.2⟩

set_option maxRecDepth 40000 in
set_option maxHeartbeats 1600000 in
theorem step_new {w0 w : World} {zb : Nat} {av : Value} {ps : List Pr} {tot : Nat} (h : WS w0 w zb av ps tot) (wn A B Cc : Int) (S : ByteArray) (V U : Nat) (Lv : Value) (ht : tot < 1900000000000) :
    Calls Tryz.prog 33 #[.pointer (some ⟨zb, 0, none⟩), opV 7 wn A B Cc S V U Lv] w fun e w' => e = .returned (.bool true) ∧ ∃ av' ps', WS w0 w' zb av' ps' (tot + 1) ∧ ps.length ≤ ps'.length := by
  have hba : Below w.heap.size w (w.alloc (opB 7 wn A B Cc S V U Lv)) := (Below.refl _ w).alloc (Nat.le_refl _) _
  have hM : Calls Tryz.prog 32 #[.pointer (some ⟨zb, 0, none⟩), .int .i64 A, .int .i64 B] (w.alloc (opB 7 wn A B Cc S V U Lv)) fun e w' => e = .returned (.bool true) ∧ ∃ av' ps', WS w0 w' zb av' ps' (tot + 1) ∧ ps.length ≤ ps'.length := by
    by_cases hp : newOk A B
    · refine (made_ok (h.below hba) A B hp (by omega)).mono ?_
      rintro e w' ⟨h1, av', ps', h2, h3⟩
      exact ⟨h1, av', ps', h2, by omega⟩
    · refine (made_bad (h.below hba) A B hp).mono ?_
      rintro e w' ⟨h1, h2⟩
      exact ⟨h1, av, ps, h2.more (by omega), Nat.le_refl _⟩
  have HM := hide hM
  clear h hba hM
  go_enter Tryz.func33, Tryz.ntmps33
  go_wp2_with fail
  refine (unhide HM).mono ?_
  rintro e w1 ⟨rfl, hh⟩
  have HH := hide hh
  clear hh HM
  go_wp2_with fail
  go_ret
  exact ⟨rfl, unhide HH⟩

set_option maxRecDepth 40000 in
set_option maxHeartbeats 3200000 in
theorem step_met {w0 w : World} {zb : Nat} {av : Value} {ps : List Pr} {tot : Nat} (h : WS w0 w zb av ps tot) (kd : Int) (hkd : 8 ≤ kd ∧ kd ≤ 11) (wn A B Cc : Int) (S : ByteArray) (V U : Nat) (Lv : Value) (hw1 : -9223372036854775808 ≤ wn) (hw2 : wn ≤ 9223372036854775807) (hV : V < 18446744073709551616) (ht : tot < 1900000000000) (h1 : 1 ≤ ps.length) :
    Calls Tryz.prog 33 #[.pointer (some ⟨zb, 0, none⟩), opV kd wn A B Cc S V U Lv] w fun e w' => e = .returned (.bool true) ∧ ∃ ps', WS w0 w' zb av ps' (tot + 1) ∧ ps'.length = ps.length := by
  have hba : Below w.heap.size w (w.alloc (opB kd wn A B Cc S V U Lv)) := (Below.refl _ w).alloc (Nat.le_refl _) _
  have h2 := h.below hba
  have hob : (w.alloc (opB kd wn A B Cc S V U Lv)).heap[w.heap.size]? = some (opB kd wn A B Cc S V U Lv) := heap_alloc_new w _
  have hlen := h2.len
  obtain ⟨p, hp⟩ : ∃ p, ps[pickN wn ps.length]? = some p := ⟨_, List.getElem?_eq_getElem (pickN_lt wn ps.length (by omega))⟩
  have HPk := hide (fun w => lawpick_any wn ps.length w hw1 hw2 h1 (by omega))
  have hpl := pickN_lt wn ps.length (by omega)
  obtain ⟨ao, cap, rfl, hcap, hcells⟩ := pair_read h2
  obtain ⟨g, o, hg, rfl, hce⟩ := hcells (by omega)
  have e1 := (hce _ p hp).1
  have e2 := (hce _ p hp).2
  have c0 := h2.c0
  have H2 := hide h2
  have HI := hide hp
  have HOb := hide hob
  have HKd := hide hkd
  have HV := hide hV
  clear h h2 hcells hce hp hob hkd hV hba
  generalize pickN wn ps.length = i at *
  generalize hN : ps.length = n at *
  have k1 : (kd == 1) = false := by simp; have := unhide HKd; omega
  have k2 : (kd == 2) = false := by simp; have := unhide HKd; omega
  have k3 : (kd == 3) = false := by simp; have := unhide HKd; omega
  have k4 : (kd == 4) = false := by simp; have := unhide HKd; omega
  have k5 : (kd == 5) = false := by simp; have := unhide HKd; omega
  have k6 : (kd == 6) = false := by simp; have := unhide HKd; omega
  have k7 : (kd == 7) = false := by simp; have := unhide HKd; omega
  have k8 : decide (kd < 8) = false := by simp; have := unhide HKd; omega
  have k9 : decide (13 < kd) = false := by simp; have := unhide HKd; omega
  go_enter Tryz.func33, Tryz.ntmps33
  go_wp2_with fail
  generalize hwa : w.alloc (opB kd wn A B Cc S V U Lv) = wa at *
  generalize w.heap.size = ob at *
  have hob := unhide HOb
  have o0 : wa.cell? ⟨ob, 0, none⟩ = some (.int .i64 kd) := by simp [World.cell?, hob]
  have o1 : wa.cell? ⟨ob, 1, none⟩ = some (.int .i64 wn) := by simp [World.cell?, hob]
  have o2 : wa.cell? ⟨ob, 2, none⟩ = some (.int .i64 A) := by simp [World.cell?, hob]
  have o3 : wa.cell? ⟨ob, 3, none⟩ = some (.int .i64 B) := by simp [World.cell?, hob]
  have o4 : wa.cell? ⟨ob, 4, none⟩ = some (.int .i64 Cc) := by simp [World.cell?, hob]
  have o5 : wa.cell? ⟨ob, 5, none⟩ = some (.string S) := by simp [World.cell?, hob]
  have o6 : wa.cell? ⟨ob, 6, none⟩ = some (.int .u64 V) := by simp [World.cell?, hob]
  have o7 : wa.cell? ⟨ob, 7, none⟩ = some (.int .u64 U) := by simp [World.cell?, hob]
  have o8 : wa.cell? ⟨ob, 8, none⟩ = some Lv := by simp [World.cell?, hob]
  have h3 := (unhide H2).below (below_drewn wa 1)
  have HMe : Hid (Calls Tryz.prog 59 #[pairV p.mb p.yb, opV kd wn A B Cc S V U Lv] wa.drew fun e w' => e = .returned (.bool true) ∧ Nxt wa.drew p.mb p.yb p.n p.W p.l p.kb p.ms p.v w' ∧ w'.heap[zb]? = wa.heap[zb]? ∧ w'.heap[ob]? = wa.heap[ob]? ∧ w'.heap[g]? = wa.heap[g]?) := by
    have hpo := h3.ok p (List.mem_of_getElem? (unhide HI))
    refine (meters_any hpo (by have := h3.few p (List.mem_of_getElem? (unhide HI)); omega) kd (unhide HKd) wn A B Cc S V U Lv (unhide HV)).mono ?_
    rintro e w' ⟨q1, q2⟩
    obtain ⟨C', l', kb', ms', v', r1, r2, r3⟩ := q2
    refine ⟨q1, ⟨C', l', kb', ms', v', r1, r2, r3⟩, ?_, ?_, ?_⟩
    · exact r2.keep zb (Array.getElem?_eq_some_iff.1 h3.hz).1 (hpo.no h3.hz (Or.inl rfl))
    · exact r2.keep ob (Array.getElem?_eq_some_iff.1 hob).1 (hpo.no (w := wa.drewN 1) hob (Or.inr (Or.inr rfl)))
    · exact r2.keep g hg ((h3.rowNo g rfl).2 p hpo)
  have H3 : Hid (WS w0 wa.drew zb (.slice (some ⟨g, o, none⟩) n cap) ps tot) := h3
  clear hwa h3 hob HOb H2 k1 k2 k3 k4 k5 k6 k7 k8 k9
  generalize hpm : p.mb = mb at *
  generalize hpy : p.yb = yb at *
  have HMb := hide (And.intro hpm hpy)
  clear hpm hpy
  go_region_held (fun w' => w'.cell? ⟨zb, 0, none⟩ = some (.slice (some ⟨g, o, none⟩) n cap) ∧ w'.cell? ⟨g, o + i * 2, none⟩ = some (.pointer (some ⟨mb, 0, none⟩)) ∧ w'.cell? ⟨g, o + i * 2 + 1, none⟩ = some (.pointer (some ⟨yb, 0, none⟩)) ∧ w'.cell? ⟨ob, 0, none⟩ = some (.int .i64 kd) ∧ w'.cell? ⟨ob, 1, none⟩ = some (.int .i64 wn) ∧ w'.cell? ⟨ob, 2, none⟩ = some (.int .i64 A) ∧ w'.cell? ⟨ob, 3, none⟩ = some (.int .i64 B) ∧ w'.cell? ⟨ob, 4, none⟩ = some (.int .i64 Cc) ∧ w'.cell? ⟨ob, 5, none⟩ = some (.string S) ∧ w'.cell? ⟨ob, 6, none⟩ = some (.int .u64 V) ∧ w'.cell? ⟨ob, 7, none⟩ = some (.int .u64 U) ∧ w'.cell? ⟨ob, 8, none⟩ = some Lv) (go_keep)
    (first
      | (go_at_call 60; refine (unhide HPk _).mono ?_; rintro e w' ⟨rfl, rfl⟩)
      | (go_at_call 59; refine (unhide HMe).mono ?_; rintro e w' ⟨rfl, hNx, x1, x2, x3⟩; have y0 : w'.cell? ⟨zb, 0, none⟩ = some (.slice (some ⟨g, o, none⟩) n cap) := (World.cell?_of_block (w := wa) (a := ⟨zb, 0, none⟩) x1).trans c0; have y1 : w'.cell? ⟨g, o + i * 2, none⟩ = some (.pointer (some ⟨mb, 0, none⟩)) := (World.cell?_of_block (w := wa) (a := ⟨g, o + i * 2, none⟩) x3).trans e1; have y2 : w'.cell? ⟨g, o + i * 2 + 1, none⟩ = some (.pointer (some ⟨yb, 0, none⟩)) := (World.cell?_of_block (w := wa) (a := ⟨g, o + i * 2 + 1, none⟩) x3).trans e2; have z0 := (World.cell?_of_block (w := wa) (a := ⟨ob, 0, none⟩) x2).trans o0; have z1 := (World.cell?_of_block (w := wa) (a := ⟨ob, 1, none⟩) x2).trans o1; have z2 := (World.cell?_of_block (w := wa) (a := ⟨ob, 2, none⟩) x2).trans o2; have z3 := (World.cell?_of_block (w := wa) (a := ⟨ob, 3, none⟩) x2).trans o3; have z4 := (World.cell?_of_block (w := wa) (a := ⟨ob, 4, none⟩) x2).trans o4; have z5 := (World.cell?_of_block (w := wa) (a := ⟨ob, 5, none⟩) x2).trans o5; have z6 := (World.cell?_of_block (w := wa) (a := ⟨ob, 6, none⟩) x2).trans o6; have z7 := (World.cell?_of_block (w := wa) (a := ⟨ob, 7, none⟩) x2).trans o7; have z8 := (World.cell?_of_block (w := wa) (a := ⟨ob, 8, none⟩) x2).trans o8))
  all_goals
    go_wp2_with fail
    go_ret
    obtain ⟨q1, q2⟩ := unhide HMb
    obtain ⟨ps', r1, r2⟩ := (unhide H3).stepped i p (unhide HI) (by rw [q1, q2]; exact hNx)
    exact ⟨rfl, ps', r1, by rw [r2, hN]⟩
end Go.Proofs.YtgjhjfldocapjaaGreatDoor

namespace Go.Proofs.YtgjhjfldocapjaaGreatDoor
open Go.RowKit Go.Shelf Go.Maps

set_option maxRecDepth 40000 in
set_option maxHeartbeats 1600000 in
theorem lawkept_ok {w0 w : World} {zb : Nat} {av : Value} {ps : List Pr} {tot : Nat} (h : WS w0 w zb av ps tot) :
    Calls Tryz.prog 34 #[.pointer (some ⟨zb, 0, none⟩)] w fun e w' => e = .returned (.bool true) ∧ w' = w := by
  have c1 := h.c1
  have c3 := h.c3
  clear h
  go_enter Tryz.func34, Tryz.ntmps34
  go_wp2_with fail
  go_loopw [3, 4] (fun i _ wr => i = .int .i64 0 ∧ w = wr) (fun _ _ _ => 0)
  case atStart => exact ⟨rfl, rfl⟩
  case round =>
    obtain ⟨rfl, rfl⟩ := hrel
    go_wp2_with fail
    go_loopw [5, 6] (fun i _ wr => i = .int .i64 0 ∧ w = wr) (fun _ _ _ => 0)
    case atStart => exact ⟨rfl, rfl⟩
    case round =>
      obtain ⟨rfl, rfl⟩ := hrel
      go_wp2_with fail
      go_ret
      exact ⟨rfl, rfl⟩
end Go.Proofs.YtgjhjfldocapjaaGreatDoor

namespace Go.Proofs.YtgjhjfldocapjaaGreatDoor
open Go.RowKit Go.Shelf Go.Maps

structure OpR where
  kd : Int
  wn : Int
  A : Int
  B : Int
  Cc : Int
  S : ByteArray
  V : Nat
  U : Nat
  Lv : Value

def OpR.good (o : OpR) : Prop := -9223372036854775808 ≤ o.kd ∧ o.kd ≤ 9223372036854775807 ∧ -9223372036854775808 ≤ o.wn ∧ o.wn ≤ 9223372036854775807 ∧ o.V < 18446744073709551616

/-- a slice that reads as steps, in blocks of K -/
def RdO (K : Nat → Prop) (w : World) (v : Value) (os : List OpR) : Prop :=
  ∃ ao cap, v = .slice ao os.length cap ∧ os.length ≤ cap ∧ (0 < os.length → ∃ g o, K g ∧ ao = some ⟨g, o, none⟩ ∧ ∀ (j : Nat) (p : OpR), os[j]? = some p →
    w.cell? ⟨g, o + j * 9, none⟩ = some (.int .i64 p.kd) ∧ w.cell? ⟨g, o + j * 9 + 1, none⟩ = some (.int .i64 p.wn) ∧ w.cell? ⟨g, o + j * 9 + 2, none⟩ = some (.int .i64 p.A) ∧ w.cell? ⟨g, o + j * 9 + 3, none⟩ = some (.int .i64 p.B) ∧ w.cell? ⟨g, o + j * 9 + 4, none⟩ = some (.int .i64 p.Cc) ∧
    w.cell? ⟨g, o + j * 9 + 5, none⟩ = some (.string p.S) ∧ w.cell? ⟨g, o + j * 9 + 6, none⟩ = some (.int .u64 p.V) ∧ w.cell? ⟨g, o + j * 9 + 7, none⟩ = some (.int .u64 p.U) ∧ w.cell? ⟨g, o + j * 9 + 8, none⟩ = some p.Lv ∧ (∃ a l c, p.Lv = .slice a l c))

theorem ws_start (w : World) : WS w (w.alloc (.cells (wcells (.slice none 0 0)) 68)) w.heap.size (.slice none 0 0) [] 0 :=
  ⟨heap_alloc_new w _, World.ownsRow_nil _ _ _ _, (fun p hp => by cases hp), List.Pairwise.nil, (fun p hp => by cases hp), Nat.le_refl _, (Below.refl _ w).alloc (Nat.le_refl _) _, (fun p hp => by cases hp), by simp⟩

/-- any step that Meters plays -/
theorem step_any {w0 w : World} {zb : Nat} {av : Value} {ps : List Pr} {tot : Nat} (h : WS w0 w zb av ps tot) (p : OpR) (hp : p.good) (hk : 7 ≤ p.kd ∧ p.kd ≤ 11) (ht : tot < 1900000000000) (h1 : 1 ≤ ps.length) :
    Calls Tryz.prog 33 #[.pointer (some ⟨zb, 0, none⟩), opV p.kd p.wn p.A p.B p.Cc p.S p.V p.U p.Lv] w fun e w' => e = .returned (.bool true) ∧ ∃ av' ps', WS w0 w' zb av' ps' (tot + 1) ∧ 1 ≤ ps'.length := by
  obtain ⟨_, _, g3, g4, g5⟩ := hp
  by_cases h7 : p.kd = 7
  · rw [h7]
    refine (step_new h p.wn p.A p.B p.Cc p.S p.V p.U p.Lv ht).mono ?_
    rintro e w' ⟨r1, av', ps', r2, r3⟩
    exact ⟨r1, av', ps', r2, by omega⟩
  · refine (step_met h p.kd ⟨by omega, by omega⟩ p.wn p.A p.B p.Cc p.S p.V p.U p.Lv g3 g4 g5 ht h1).mono ?_
    rintro e w' ⟨r1, ps', r2, r3⟩
    exact ⟨r1, av, ps', r2, by omega⟩

set_option maxRecDepth 40000 in
set_option maxHeartbeats 3200000 in
theorem plays_ok (v : Value) (os : List OpR) (w : World) (hv : RdO (Under w) w v os) (hg : ∀ p ∈ os, p.good) (hl : os.length < 1800000000000) :
    Calls Tryz.prog 13 #[v, .int .i64 7, .int .i64 11] w fun e w' => e = .returned (.bool true) ∧ Below w.heap.size w w' := by
  have HM := hide (made_ok (ws_start w) 3 10 ⟨by omega, by omega, by omega, by omega⟩ (by omega))
  obtain ⟨ao, cap, rfl, hcap, hcells⟩ := hv
  have HCe := hide hcells
  have HG := hide hg
  clear hcells hg
  generalize hL : os.length = L at *
  go_enter Tryz.func13, Tryz.ntmps13
  go_wp2_with fail
  refine (unhide HM).mono ?_
  rintro e w1 ⟨rfl, av, ps, hW, hps⟩
  have hpr := pair_read hW
  obtain ⟨ao2, cap2, rfl, hcap2, _⟩ := hpr
  have hp1 : ps.length = 1 := hps
  have c0 := hW.c0
  rw [hp1] at c0
  have HW := hide hW
  clear hW hps HM
  go_wp2_with fail
  clear c0
  go_loopw [9, 10, 11, 12] (fun i _ _ _ wr => ∃ (j : Nat) (av : Value) (ps : List Pr), j ≤ L ∧ i = .int .i64 j ∧ 1 ≤ ps.length ∧ Hid (WS w wr w.heap.size av ps (j + 1))) (fun i _ _ _ _ => L - (RowKit.intOf i).toNat)
  case atStart => exact ⟨0, _, ps, by omega, rfl, by omega, HW⟩
  case round =>
    clear HW hp1 hcap2
    obtain ⟨j, av, ps, hj, rfl, h1, hW⟩ := hrel
    by_cases hjl : j < L
    · obtain ⟨g, o, hgK, rfl, hce⟩ := unhide HCe (by omega)
      obtain ⟨p, hp⟩ : ∃ p, os[j]? = some p := ⟨_, List.getElem?_eq_getElem (by rw [hL]; exact hjl)⟩
      have hgd := unhide HG p (List.mem_of_getElem? hp)
      obtain ⟨e0, e1, e2, e3, e4, e5, e6, e7, e8, lv1, lv2, lv3, hlv⟩ := hce j p hp
      have hB := (unhide hW).bel
      have d0 := (hB.cell (p := ⟨g, o + j * 9, none⟩) hgK).trans e0
      have d1 := (hB.cell (p := ⟨g, o + j * 9 + 1, none⟩) hgK).trans e1
      have d2 := (hB.cell (p := ⟨g, o + j * 9 + 2, none⟩) hgK).trans e2
      have d3 := (hB.cell (p := ⟨g, o + j * 9 + 3, none⟩) hgK).trans e3
      have d4 := (hB.cell (p := ⟨g, o + j * 9 + 4, none⟩) hgK).trans e4
      have d5 := (hB.cell (p := ⟨g, o + j * 9 + 5, none⟩) hgK).trans e5
      have d6 := (hB.cell (p := ⟨g, o + j * 9 + 6, none⟩) hgK).trans e6
      have d7 := (hB.cell (p := ⟨g, o + j * 9 + 7, none⟩) hgK).trans e7
      have d8 := (hB.cell (p := ⟨g, o + j * 9 + 8, none⟩) hgK).trans e8
      have hdj : decide (j < L) = true := by simp; omega
      have HGd := hide hgd
      have HPj := hide hp
      clear hce hp hgd e0 e1 e2 e3 e4 e5 e6 e7 e8 hB
      by_cases hin : 7 ≤ p.kd ∧ p.kd ≤ 11
      · have k1 : decide (7 ≤ p.kd) = true := by simp; omega
        have k2 : decide (p.kd ≤ 11) = true := by simp; omega
        have HIn := hide hin
        clear hin
        have hSt := step_any ((unhide hW).below ((Below.refl _ wr).alloc (Nat.le_refl _) (opB p.kd p.wn p.A p.B p.Cc p.S p.V p.U p.Lv))) p (unhide HGd) (unhide HIn) (by omega) h1
        rw [hlv] at d8 hSt
        have HSt := hide hSt
        clear hSt
        go_wp2_with fail
        refine (unhide HSt).mono ?_
        rintro e w4 ⟨rfl, av4, ps4, hW4, h14⟩
        have HW4 := hide hW4
        have HKe := hide (lawkept_ok hW4)
        clear hW4 HSt d0 d1 d2 d3 d4 d5 d6 d7 d8
        go_wp2_with fail
        refine (unhide HKe).mono ?_
        rintro e w5 ⟨rfl, e5⟩
        rw [e5]
        clear e5 w5 HKe
        go_wp2_with fail
        go_roundw
        case rel => exact ⟨j + 1, av4, ps4, by omega, rfl, h14, HW4⟩
        case measure => simp [RowKit.intOf]; omega
      · have hWn : Hid (WS w (wr.alloc (opB p.kd p.wn p.A p.B p.Cc p.S p.V p.U p.Lv)) w.heap.size av ps (j + 1 + 1)) := ((unhide hW).below ((Below.refl _ wr).alloc (Nat.le_refl _) _)).more (by omega)
        rw [hlv] at d8 hWn
        by_cases h7 : 7 ≤ p.kd
        · have k1 : decide (7 ≤ p.kd) = true := by simp; omega
          have k2 : decide (p.kd ≤ 11) = false := by simp; omega
          clear hin h7
          go_wp2_with fail
          go_roundw
          case rel => exact ⟨j + 1, av, ps, by omega, rfl, h1, hWn⟩
          case measure => simp [RowKit.intOf]; omega
        · have k1 : decide (7 ≤ p.kd) = false := by simp; omega
          clear hin h7
          go_wp2_with fail
          go_roundw
          case rel => exact ⟨j + 1, av, ps, by omega, rfl, h1, hWn⟩
          case measure => simp [RowKit.intOf]; omega
    · have hdj : decide (j < L) = false := by simp; omega
      go_wp2_with fail
      go_ret
      exact ⟨rfl, (unhide hW).bel⟩

set_option maxHeartbeats 400000 in
theorem metersLaw_ok (v : Value) (os : List OpR) (w : World) (hv : RdO (Under w) w v os) (hg : ∀ p ∈ os, p.good) (hl : os.length < 1800000000000) :
    Calls Tryz.prog 4 #[v] w fun e w' => e = .returned (.bool true) ∧ Below w.heap.size w w' := by
  have HP := hide (plays_ok v os w hv hg hl)
  clear hv hg hl
  go_enter Tryz.func4, Tryz.ntmps4
  go_wp2_with fail
  refine (unhide HP).mono ?_
  rintro e w1 ⟨rfl, hb⟩
  have HB := hide hb
  clear hb HP
  go_wp2_with fail
  go_ret
  exact ⟨rfl, unhide HB⟩
end Go.Proofs.YtgjhjfldocapjaaGreatDoor
