import Derived.Test.YtgekdmjneogdoaaGreatDoorXNz6
import Derived.Test.YtgekdmjneogdoaaGreatDoorXRn5
import Derived.Test.YtgekdmjneogdoaaGreatDoorXRt1
import Derived.Test.YtgekdmjneogdoaaGreatDoorXRt4
namespace Go.Proofs.YtgekdmjneogdoaaGreatDoor
open Go.RowKit

/-! the program's digits and the document's are one number -/
theorem leX_mono {c v n : Nat} {a b : Int} (h : LeX c v n b) (hab : a ≤ b) : LeX c v n a := by
  obtain ⟨j, hj⟩ : ∃ j : Nat, b = a + j := ⟨(b - a).toNat, by omega⟩
  have h2 := (leX_shift c v n j a b hj).2 h
  unfold LeX at h2 ⊢
  refine Nat.le_trans (Nat.mul_le_mul_right _ (Nat.mul_le_mul_right _ ?_)) h2
  exact Nat.le_mul_of_pos_right _ (Nat.pow_pos (by omega))

theorem leX_unique {c v n : Nat} {P Q : Int} (h1 : LeX c v n P) (h2 : ¬ LeX c v n (P + 1)) (h3 : LeX c v n Q) (h4 : ¬ LeX c v n (Q + 1)) : P = Q := by
  rcases Int.lt_trichotomy P Q with q | q | q
  · exact absurd (leX_mono h3 (by omega)) h2
  · exact q
  · exact absurd (leX_mono h1 (by omega)) h4

theorem near_low_ge {X Y d L : Nat} (h : NearI X Y d) (hx : L * Y ≤ X) (hY : 0 < Y) : L ≤ d := by
  rcases Nat.lt_or_ge d L with q | q
  · exfalso
    have h1 : (2 * d + 2) * Y ≤ (2 * L) * Y := Nat.mul_le_mul_right _ (by omega)
    have h2 : (2 * L) * Y = 2 * (L * Y) := Nat.mul_assoc 2 L Y
    have h3 : (2 * d + 2) * Y = (2 * d + 1) * Y + Y := by rw [← Nat.succ_mul]
    rcases h.hi with a | ⟨a, _⟩ <;> omega
  · exact q

/-- fixedWidthFloat's number and the document's are one -/
theorem val_same (c v k n : Nat) (hc : c = 1074) (hn : n = k + 1) (hv0 : 1 ≤ v) (hv : v < 9218868437227405312) (hk : k ≤ 16) (P : Int) (hP1 : LeX c v 1 P) (hP2 : ¬ LeX c v 1 (P + 1)) :
    ∃ dr, NearI (VN v * 10 ^ (-(P - n + 1)).toNat) (10 ^ (P - n + 1).toNat * 2 ^ c) dr ∧ 10 ^ k ≤ digV v k ∧ ((dr = digV v k ∧ P - n + 1 = powV v k) ∨ (dr = 10 * digV v k ∧ digV v k = 10 ^ k ∧ P - n + 1 = powV v k - 1)) := by
  obtain ⟨p, p1, p2, F⟩ := fix_r v k c hc hv0 hv hk
  have hC : 0 < 2 ^ c := Nat.pow_pos (by omega)
  have tp : ∀ q : Int, 0 < 10 ^ q.toNat * 2 ^ c := fun q => Nat.mul_pos (Nat.pow_pos (by omega)) hC
  have low1 : LeX c v 1 ((k : Int) - p) := by
    have h := F.low
    rw [show k + 1 - 1 = k by omega] at h
    have h2 : LeX c v (1 * 10 ^ k) (-p) := by
      unfold LeX
      rw [Int.neg_neg, Nat.one_mul, Nat.mul_assoc]
      exact h
    exact (leX_shift c v 1 k (-p) ((k : Int) - p) (by omega)).1 h2
  obtain ⟨q, hq⟩ : ∃ q, powV v k = q := ⟨_, rfl⟩
  obtain ⟨d, hd⟩ : ∃ d, digV v k = d := ⟨_, rfl⟩
  have Fn := F.near
  rw [hq, hd] at Fn ⊢
  rcases F.split with ⟨s1, s2⟩ | ⟨s1, s2, s3⟩
  · rw [hq] at s1
    have hnot : ¬ LeX c v 1 ((k : Int) - p + 1) := by
      intro h
      have h2 := (leX_shift c v 1 (k + 1) (-p) ((k : Int) - p + 1) (by omega)).2 h
      unfold LeX at h2
      rw [Int.neg_neg, Nat.one_mul, Nat.mul_assoc] at h2
      omega
    have eP := leX_unique hP1 hP2 low1 hnot
    have eq : P - n + 1 = q := by omega
    refine ⟨d, by rw [eq]; exact Fn, ?_, Or.inl ⟨rfl, eq⟩⟩
    refine near_low_ge Fn ?_ (tp q)
    have h := F.low
    rw [show k + 1 - 1 = k by omega] at h
    rw [s1, Int.neg_neg]
    exact h
  · rw [hq] at s1
    by_cases hB : LeX c v 1 ((k : Int) - p + 1)
    · have hnot : ¬ LeX c v 1 ((k : Int) - p + 1 + 1) := by
        intro h
        have h2 := (leX_shift c v 1 (k + 2) (-p) ((k : Int) - p + 1 + 1) (by omega)).2 h
        unfold LeX at h2
        rw [Int.neg_neg, Nat.one_mul, Nat.mul_assoc] at h2
        have h3 : 2 * 10 ^ (k + 1) * (10 ^ (-p).toNat * 2 ^ c) ≤ 10 ^ (k + 2) * (10 ^ (-p).toNat * 2 ^ c) := Nat.mul_le_mul_right _ (by rw [Nat.pow_succ 10 (k + 1)]; omega)
        omega
      have eP := leX_unique hP1 hP2 hB hnot
      have eq : P - n + 1 = q := by omega
      refine ⟨d, by rw [eq]; exact Fn, ?_, Or.inl ⟨rfl, eq⟩⟩
      refine near_low_ge Fn ?_ (tp q)
      have h2 := (leX_shift c v 1 k q ((k : Int) - p + 1) (by omega)).2 hB
      unfold LeX at h2
      rw [Nat.one_mul, Nat.mul_assoc] at h2
      exact h2
    · have eP := leX_unique hP1 hP2 low1 hB
      have eq : P - n + 1 = q - 1 := by omega
      have eq2 : P - n + 1 = -p := by omega
      -- the value is just below a power of ten
      have X2 : VN v * 10 ^ p.toNat < 10 ^ (k + 1) * (10 ^ (-p).toNat * 2 ^ c) := by
        rcases Nat.lt_or_ge (VN v * 10 ^ p.toNat) (10 ^ (k + 1) * (10 ^ (-p).toNat * 2 ^ c)) with g | g
        · exact g
        · exfalso
          apply hB
          refine (leX_shift c v 1 (k + 1) (-p) ((k : Int) - p + 1) (by omega)).1 ?_
          unfold LeX
          rw [Int.neg_neg, Nat.one_mul, Nat.mul_assoc]
          exact g
      have NA : NearI (VN v * 10 ^ p.toNat) (10 ^ (-p).toNat * 2 ^ c) (10 ^ (k + 1)) := by
        have hpos : 0 < 10 ^ (k + 1) := Nat.pow_pos (by omega)
        have hev : 10 ^ (k + 1) % 2 = 0 := by rw [Nat.pow_succ]; omega
        generalize 10 ^ (k + 1) = L at *
        generalize 10 ^ (-p).toNat * 2 ^ c = Y at *
        generalize VN v * 10 ^ p.toNat = X at *
        refine ⟨fun _ => ?_, Or.inl ?_⟩
        · rcases Nat.lt_or_eq_of_le s2 with g | g
          · exact Or.inl g
          · exact Or.inr ⟨g, hev⟩
        · have : (2 * L + 1) * Y = 2 * (L * Y) + Y := by rw [Nat.add_mul, Nat.one_mul, Nat.mul_assoc]
          omega
      have ND : NearI (VN v * 10 ^ (-q).toNat) (10 ^ q.toNat * 2 ^ c) (10 ^ k) := by
        have hY : 0 < 10 ^ (-p).toNat * 2 ^ c := Nat.mul_pos (Nat.pow_pos (by omega)) hC
        have key : NearI (VN v * 10 ^ p.toNat) (10 * (10 ^ (-p).toNat * 2 ^ c)) (10 ^ k) := by
          have e10 : 10 ^ (k + 1) = 10 * 10 ^ k := by rw [Nat.pow_succ, Nat.mul_comm]
          rw [e10] at s2 X2
          have hpos : 0 < 10 ^ k := Nat.pow_pos (by omega)
          generalize 10 ^ k = L at *
          generalize 10 ^ (-p).toNat * 2 ^ c = Y at *
          generalize VN v * 10 ^ p.toNat = X at *
          have a1 : (2 * (10 * L) - 1) * Y + Y = 20 * (L * Y) := by
            rw [← Nat.succ_mul, Nat.succ_eq_add_one, show 2 * (10 * L) - 1 + 1 = 20 * L by omega, Nat.mul_assoc]
          have a2 : 10 * L * Y = 10 * (L * Y) := Nat.mul_assoc _ _ _
          have a3 : (2 * L - 1) * (10 * Y) + 10 * Y = 20 * (L * Y) := by
            rw [← Nat.succ_mul, Nat.succ_eq_add_one, show 2 * L - 1 + 1 = 2 * L by omega, Nat.mul_assoc, Nat.mul_left_comm L 10 Y]; omega
          have a4 : (2 * L + 1) * (10 * Y) = 20 * (L * Y) + 10 * Y := by
            rw [Nat.add_mul, Nat.one_mul, Nat.mul_assoc, Nat.mul_left_comm L 10 Y]; omega
          refine ⟨fun _ => Or.inl ?_, Or.inl ?_⟩
          · omega
          · omega
        refine NearI.scale (Nat.mul_pos (by omega) hY) (tp q) ?_ key
        have e : p.toNat + q.toNat = (-q).toNat + (1 + (-p).toNat) := by omega
        have e1 : VN v * 10 ^ p.toNat * (10 ^ q.toNat * 2 ^ c) = VN v * 2 ^ c * 10 ^ (p.toNat + q.toNat) := by
          rw [Nat.pow_add]
          generalize 10 ^ p.toNat = a
          generalize 10 ^ q.toNat = b
          generalize 2 ^ c = t
          simp only [Nat.mul_assoc, Nat.mul_comm, Nat.mul_left_comm]
        have e2 : VN v * 10 ^ (-q).toNat * (10 * (10 ^ (-p).toNat * 2 ^ c)) = VN v * 2 ^ c * 10 ^ ((-q).toNat + (1 + (-p).toNat)) := by
          rw [Nat.pow_add, Nat.pow_add, Nat.pow_one]
          generalize 10 ^ (-q).toNat = a
          generalize 10 ^ (-p).toNat = b
          generalize 2 ^ c = t
          simp only [Nat.mul_assoc, Nat.mul_comm, Nat.mul_left_comm]
        rw [e1, e2, e]
      have ed := NearI.unique (tp q) Fn ND
      refine ⟨10 ^ (k + 1), by rw [eq2, Int.neg_neg]; exact NA, by rw [ed]; exact Nat.le_refl _, Or.inr ⟨by rw [ed, Nat.pow_succ, Nat.mul_comm], ed, eq⟩⟩
end Go.Proofs.YtgekdmjneogdoaaGreatDoor

namespace Go.Proofs.YtgekdmjneogdoaaGreatDoor
open Go.RowKit

/-! what the document's Short answers is the program's text -/
theorem gv_iff {v k dr : Nat} {q : Int} (h : (dr = digV v k ∧ q = powV v k) ∨ (dr = 10 * digV v k ∧ digV v k = 10 ^ k ∧ q = powV v k - 1)) : NearV (dr * 10 ^ q.toNat) (10 ^ (-q).toNat) v ↔ Gv v k := by
  unfold Gv
  rcases h with ⟨rfl, rfl⟩ | ⟨rfl, _, rfl⟩
  · exact Iff.rfl
  · have e : 10 * digV v k * 10 ^ (powV v k - 1).toNat * 10 ^ (-powV v k).toNat = digV v k * 10 ^ (powV v k).toNat * 10 ^ (-(powV v k - 1)).toNat := by
      rw [Nat.mul_comm 10 (digV v k)]
      have e1 : ∀ a b : Nat, digV v k * 10 * 10 ^ a * 10 ^ b = digV v k * 10 ^ (1 + a + b) := by
        intro a b
        rw [Nat.pow_add, Nat.pow_add, Nat.pow_one, Nat.mul_assoc, Nat.mul_assoc, Nat.mul_assoc]
      have e2 : ∀ a b : Nat, digV v k * 10 ^ a * 10 ^ b = digV v k * 10 ^ (a + b) := by
        intro a b
        rw [Nat.pow_add, Nat.mul_assoc]
      rw [e1, e2]
      congr 2
      omega
    exact ⟨near_congr (Nat.pow_pos (by omega)) (Nat.pow_pos (by omega)) e, near_congr (Nat.pow_pos (by omega)) (Nat.pow_pos (by omega)) e.symm⟩

theorem near_tenth {X Y e : Nat} (hY : 0 < Y) (h : NearI X Y (10 * e)) : NearI X (10 * Y) e := by
  have h1 := h.hi
  have a2 : (2 * (10 * e) + 1) * Y = 20 * (e * Y) + Y := by rw [Nat.add_mul, Nat.one_mul, show 2 * (10 * e) = 20 * e by omega, Nat.mul_assoc]
  have a4 : (2 * e + 1) * (10 * Y) = 20 * (e * Y) + 10 * Y := by rw [Nat.add_mul, Nat.one_mul, Nat.mul_assoc, Nat.mul_left_comm e 10 Y]; omega
  rw [a2] at h1
  refine ⟨fun h0 => Or.inl ?_, Or.inl ?_⟩
  · have h2 := h.lo (by omega)
    have a1 : (2 * (10 * e) - 1) * Y + Y = 20 * (e * Y) := by
      rw [← Nat.succ_mul, Nat.succ_eq_add_one, show 2 * (10 * e) - 1 + 1 = 20 * e by omega, Nat.mul_assoc]
    have a3 : (2 * e - 1) * (10 * Y) + 10 * Y = 20 * (e * Y) := by
      rw [← Nat.succ_mul, Nat.succ_eq_add_one, show 2 * e - 1 + 1 = 2 * e by omega, Nat.mul_assoc, Nat.mul_left_comm e 10 Y]; omega
    rcases h2 with q | ⟨q, _⟩ <;> omega
  · rw [a4]
    rcases h1 with q | ⟨q, _⟩ <;> omega

theorem near_tenth_at {c v e : Nat} {q : Int} (h : NearI (VN v * 10 ^ (-q).toNat) (10 ^ q.toNat * 2 ^ c) (10 * e)) : NearI (VN v * 10 ^ (-(q + 1)).toNat) (10 ^ (q + 1).toNat * 2 ^ c) e := by
  have hC : 0 < 2 ^ c := Nat.pow_pos (by omega)
  have hY : 0 < 10 ^ q.toNat * 2 ^ c := Nat.mul_pos (Nat.pow_pos (by omega)) hC
  refine NearI.scale (Nat.mul_pos (by omega) hY) (Nat.mul_pos (Nat.pow_pos (by omega)) hC) ?_ (near_tenth hY h)
  have e0 : (-q).toNat + (q + 1).toNat = (-(q + 1)).toNat + (1 + q.toNat) := by omega
  have e1 : VN v * 10 ^ (-q).toNat * (10 ^ (q + 1).toNat * 2 ^ c) = VN v * 2 ^ c * 10 ^ ((-q).toNat + (q + 1).toNat) := by
    rw [Nat.pow_add]
    generalize 10 ^ (-q).toNat = a
    generalize 10 ^ (q + 1).toNat = b
    generalize 2 ^ c = t
    simp only [Nat.mul_assoc, Nat.mul_comm, Nat.mul_left_comm]
  have e2 : VN v * 10 ^ (-(q + 1)).toNat * (10 * (10 ^ q.toNat * 2 ^ c)) = VN v * 2 ^ c * 10 ^ ((-(q + 1)).toNat + (1 + q.toNat)) := by
    rw [Nat.pow_add, Nat.pow_add, Nat.pow_one]
    generalize 10 ^ (-(q + 1)).toNat = a
    generalize 10 ^ q.toNat = b
    generalize 2 ^ c = t
    simp only [Nat.mul_assoc, Nat.mul_comm, Nat.mul_left_comm]
  rw [e1, e2, e0]

/-- the texts are one -/
theorem told_same {v k : Nat} (hd : 10 ^ k ≤ digV v k) (hd2 : digV v k < 10 ^ (k + 1)) (h0 : digV v k % 10 ≠ 0) : toldT (digV v k) (powV v k) = decBody (dgA v k) (dgB v k) (101 :: Lib.itoa (expV v k)) := by
  have hn : Lib.nDigits (digV v k) = k + 1 := Lib.nDigits_unique k _ hd hd2
  have ht : trimN (fun t => Lib.dg (digV v k) (Lib.nDigits (digV v k) - 1 - t)) (Lib.nDigits (digV v k)) = k + 1 := by
    rw [hn]
    unfold trimN
    rw [if_neg]
    intro h
    have h2 := dg_val (digV v k) 0
    have h3 : k + 1 - 1 - k = 0 := by omega
    rw [h3] at h
    rw [h] at h2
    simp at h2
    omega
  have hD : Lib.decDigits (digV v k) = (List.range (k + 1)).map fun t => Lib.dg (digV v k) (k + 1 - 1 - t) := by rw [Lib.decDigits_eq, hn]
  have hA : dgA v k = [Lib.dg (digV v k) k] := by unfold dgA; rw [hn]; rfl
  have hB : dgB v k = (List.range k).map fun t => Lib.dg (digV v k) (k - (t + 1)) := by
    unfold dgB
    rw [ht, hn, Nat.min_self]
    by_cases hk : k = 0
    · rw [if_pos hk, hk]; rfl
    · rw [if_neg hk]
      simp
  have hsplit : Lib.decDigits (digV v k) = dgA v k ++ dgB v k := by
    rw [hD, hA, hB, List.range_succ_eq_map, List.map_cons, List.map_map]
    rfl
  have hlA : (dgA v k).length = 1 := by rw [hA]; rfl
  have hlB : (dgB v k).length = k := by rw [hB]; simp
  unfold toldT decBody
  have hlen : (Lib.decDigits (digV v k)).length = k + 1 := by rw [hD]; simp
  rw [hlen]
  have hexp : powV v k + ((k + 1 : Nat) : Int) - 1 = expV v k := by unfold expV; rw [hn]; omega
  rw [hexp, hsplit]
  have t1 : (dgA v k ++ dgB v k).take 1 = dgA v k := by rw [List.take_append_of_le_length (by omega), List.take_of_length_le (by omega)]
  have t2 : (dgA v k ++ dgB v k).drop 1 = dgB v k := by rw [← hlA]; exact List.drop_left
  rw [t1, t2]
  by_cases hk : k = 0
  · rw [if_neg (by omega), if_pos (List.length_eq_zero_iff.1 (by omega))]
  · rw [if_pos (by omega), if_neg (fun q => hk (by rw [q] at hlB; simpa using hlB.symm))]

theorem short_same {c v one : Nat} (hc : c = 1074) (hone : one = 1) (hv0 : 1 ≤ v) (hv : v < 9218868437227405312) {S : List UInt8} {e : Ending} (h : ShortP c v one S e) {K : Nat} (hK : K ≤ 16) (hg : Gv v K) (hl : ∀ k, k < K → ¬ Gv v k) :
    e = .returned (.string (bs (S ++ decBody (dgA v K) (dgB v K) (101 :: Lib.itoa (expV v K))))) := by
  subst hone
  obtain ⟨P, n, d, m, z, n1, n2, hP1, hP2, hN, hNV, hNG, hdz, hm, _, _, he⟩ := h
  have hC : 0 < 2 ^ c := Nat.pow_pos (by omega)
  have tp : ∀ q : Int, 0 < 10 ^ q.toNat * 2 ^ c := fun q => Nat.mul_pos (Nat.pow_pos (by omega)) hC
  have cl1 : ∀ j, 1 ≤ j → j < n → ¬ Gv v (j - 1) := by
    intro j j1 j2 hgv
    obtain ⟨dr, a, _, b⟩ := val_same c v (j - 1) j hc (by omega) hv0 hv (by omega) P hP1 hP2
    exact hNG j j1 j2 dr a ((gv_iff b).2 hgv)
  obtain ⟨dr, va, vb, vc⟩ := val_same c v (n - 1) n hc (by omega) hv0 hv (by omega) P hP1 hP2
  obtain rfl : dr = d := NearI.unique (tp _) va hN
  have cl2 : Gv v (n - 1) := by
    by_cases h17 : n < 17
    · exact (gv_iff vc).1 (hNV h17)
    · obtain rfl : n = 17 := by omega
      exact (digV_ok v 16 hv0 hv (by omega)).2.2.2.2.2 rfl
  have eK : K = n - 1 := by
    rcases Nat.lt_trichotomy K (n - 1) with q | q | q
    · exact absurd hg (by have := cl1 (K + 1) (by omega) (by omega); rwa [Nat.add_sub_cancel] at this)
    · exact q
    · exact absurd cl2 (hl _ q)
  subst eK
  obtain ⟨k, rfl⟩ : ∃ k, n = k + 1 := ⟨n - 1, by omega⟩
  rw [Nat.add_sub_cancel] at *
  obtain ⟨_, g1, g2, _, _, _⟩ := digV_ok v k hv0 hv hK
  have tz : 1 ≤ k → dr % 10 ≠ 0 := by
    intro hk1 h0
    obtain ⟨e0, he0⟩ : ∃ e0, dr = 10 * e0 := ⟨dr / 10, by omega⟩
    rw [he0] at va
    have na := near_tenth_at va
    obtain ⟨dr', a, _, b⟩ := val_same c v (k - 1) k hc (by omega) hv0 hv (by omega) P hP1 hP2
    have eq1 : P - (k + 1 : Nat) + 1 + 1 = P - k + 1 := by omega
    rw [eq1] at na
    have e1 := NearI.unique (tp _) a na
    refine hl (k - 1) (by omega) ((gv_iff b).1 ?_)
    rw [e1]
    have hn2 := (gv_iff vc).2 hg
    rw [he0] at hn2
    refine near_congr (Nat.pow_pos (by omega)) (Nat.pow_pos (by omega)) ?_ hn2
    rw [Nat.mul_comm 10 e0, Nat.mul_assoc, Nat.mul_assoc, Nat.mul_assoc, ← Nat.pow_add]
    have : ∀ a : Nat, 10 * 10 ^ a = 10 ^ (a + 1) := fun a => by rw [Nat.pow_succ, Nat.mul_comm]
    rw [this, ← Nat.pow_add]
    congr 2
    omega
  have dz : digV v k % 10 ≠ 0 := by
    by_cases hk0 : k = 0
    · subst hk0; omega
    · rcases vc with ⟨q, _⟩ | ⟨q, _⟩
      · rw [← q]; exact tz (by omega)
      · exact absurd (by rw [q]; omega) (tz (by omega))
  have fin : toldT m (P - (k + 1 : Nat) + 1 + z) = toldT (digV v k) (powV v k) := by
    rcases vc with ⟨q, r⟩ | ⟨q, q2, r⟩
    · have z0 : z = 0 := by
        rcases Nat.eq_zero_or_pos z with g | g
        · exact g
        · exfalso
          obtain ⟨y, rfl⟩ : ∃ y, z = y + 1 := ⟨z - 1, by omega⟩
          rw [← q, hdz, Nat.pow_succ, ← Nat.mul_assoc] at dz
          omega
      subst z0
      rw [Nat.pow_zero, Nat.mul_one] at hdz
      rw [← hdz, q, r]
      congr 1
      omega
    · have hk0 : k = 0 := by
        rcases Nat.eq_zero_or_pos k with g | g
        · exact g
        · exact absurd (by rw [q]; omega) (tz g)
      subst hk0
      rw [Nat.pow_zero] at q2
      rw [q2] at q
      have hz1 : z = 1 := by
        rcases Nat.lt_trichotomy z 1 with g | g | g
        · have : z = 0 := by omega
          subst this
          rw [Nat.pow_zero, Nat.mul_one] at hdz
          omega
        · exact g
        · exfalso
          have h2 : 10 ^ 2 ≤ 10 ^ z := Nat.pow_le_pow_right (by omega) g
          have h3 : 1 * 10 ^ z ≤ m * 10 ^ z := Nat.mul_le_mul_right _ (by
            rcases Nat.eq_zero_or_pos m with x | x
            · rw [x] at hm; simp at hm
            · exact x)
          omega
      subst hz1
      have hm1 : m = 1 := by omega
      rw [hm1, q2, r]
      congr 1
      omega
  rw [he, fin, told_same vb g2 dz]
end Go.Proofs.YtgekdmjneogdoaaGreatDoor

namespace Go.Proofs.YtgekdmjneogdoaaGreatDoor
open Go.RowKit

/-! the document's Short: its other ways -/
set_option maxRecDepth 100000 in
set_option maxHeartbeats 1600000 in
theorem rshort_nan (v : Nat) (w : World) (h : 9218868437227405312 < v % 9223372036854775808) (hv : v < 18446744073709551616) :
    Calls Tryz.prog 108 #[.int .u64 v] w fun e w' => e = .returned (.string ⟨#[110, 97, 110]⟩) ∧ w' = w := by
  by_cases hs : v < 9223372036854775808
  · have i1 : ¬ (9223372036854775808 : Int) ≤ (v : Int) := by omega
    have i2 : (9218868437227405312 : Int) < (v : Int) := by omega
    clear h hv hs
    go_enter Tryz.func108, Tryz.ntmps108
    go_wp2_with fail
    go_ret
    exact ⟨rfl, rfl⟩
  · obtain ⟨u, hu⟩ : ∃ u : Nat, v - 9223372036854775808 = u := ⟨_, rfl⟩
    have i1 : (9223372036854775808 : Int) ≤ (v : Int) := by omega
    have i2 : (v : Int) - 9223372036854775808 = (u : Int) := by omega
    have i3 : (9218868437227405312 : Int) < (u : Int) := by omega
    have i4 : IntKind.u64.wrap (u : Int) = (u : Int) := wrap_inu u (by omega)
    clear h hv hs hu
    go_enter Tryz.func108, Tryz.ntmps108
    go_wp2_with fail
    all_goals first | (go_ret; exact ⟨rfl, rfl⟩) | (exfalso; omega)

set_option maxRecDepth 100000 in
set_option maxHeartbeats 1600000 in
theorem rshort_inf (w : World) :
    Calls Tryz.prog 108 #[.int .u64 9218868437227405312] w fun e w' => e = .returned (.string ⟨#[105, 110, 102]⟩) ∧ w' = w := by
  go_enter Tryz.func108, Tryz.ntmps108
  go_wp2_with fail
  go_ret
  exact ⟨rfl, rfl⟩

set_option maxRecDepth 100000 in
set_option maxHeartbeats 1600000 in
theorem rshort_minf (w : World) :
    Calls Tryz.prog 108 #[.int .u64 18442240474082181120] w fun e w' => e = .returned (.string ⟨#[45, 105, 110, 102]⟩) ∧ w' = w := by
  go_enter Tryz.func108, Tryz.ntmps108
  go_wp2_with fail
  go_ret
  exact ⟨rfl, rfl⟩

set_option maxRecDepth 100000 in
set_option maxHeartbeats 1600000 in
theorem rshort_zero (w : World) :
    Calls Tryz.prog 108 #[.int .u64 0] w fun e w' => e = .returned (.string ⟨#[48]⟩) ∧ w' = w := by
  go_enter Tryz.func108, Tryz.ntmps108
  go_wp2_with fail
  go_ret
  exact ⟨rfl, rfl⟩

set_option maxRecDepth 100000 in
set_option maxHeartbeats 1600000 in
theorem rshort_mzero (w : World) :
    Calls Tryz.prog 108 #[.int .u64 9223372036854775808] w fun e w' => e = .returned (.string ⟨#[45, 48]⟩) ∧ w' = w := by
  go_enter Tryz.func108, Tryz.ntmps108
  go_wp2_with fail
  go_ret
  exact ⟨rfl, rfl⟩
end Go.Proofs.YtgekdmjneogdoaaGreatDoor

namespace Go.Proofs.YtgekdmjneogdoaaGreatDoor
open Go.RowKit Go.Shelf Go.Maps

/-- the least number of digits that gives a value back -/
theorem least_k (v : Nat) (hv0 : 1 ≤ v) (hv : v < 9218868437227405312) : ∃ K, K ≤ 16 ∧ Gv v K ∧ ∀ k, k < K → ¬ Gv v k := by
  have h16 : Gv v 16 := (digV_ok v 16 hv0 hv (by omega)).2.2.2.2.2 rfl
  have : ∀ n, Gv v n → ∃ K, K ≤ n ∧ Gv v K ∧ ∀ k, k < K → ¬ Gv v k := by
    intro n
    induction n using Nat.strongRecOn with
    | _ n ih =>
      intro hn
      by_cases h : ∃ k, k < n ∧ Gv v k
      · obtain ⟨k, hk, hg⟩ := h
        obtain ⟨K, a, b, c⟩ := ih k hk hg
        exact ⟨K, by omega, b, c⟩
      · exact ⟨n, Nat.le_refl _, hn, fun k hk hg => h ⟨k, hk, hg⟩⟩
  exact this 16 h16

theorem short_text (neg : Bool) (v K : Nat) (hv0 : 1 ≤ v) (hv : v < 9218868437227405312) (hg : Gv v K) (hl : ∀ k, k < K → ¬ Gv v k) (w : World) (ht : Tabs w) :
    Calls Tryz.prog 17 #[.int .u64 (sgn neg + v : Nat)] w fun e w' => e = .returned (.string ⟨(shortV neg v K).toArray⟩) ∧ Below w.heap.size w w' := by
  refine (short_all neg v hv0 hv w ht).mono ?_
  rintro e w' ⟨K', rfl, ⟨h1, h2, h3⟩, hb⟩
  have : K' = K := by
    rcases Nat.lt_trichotomy K' K with q | q | q
    · exact absurd h3 (hl K' q)
    · exact q
    · exact absurd hg (h2 K q)
  rw [this]
  exact ⟨rfl, hb⟩

theorem below_self {w w' : World} (h : w' = w) : Below w.heap.size w w' := by rw [h]; exact Below.refl _ _

end Go.Proofs.YtgekdmjneogdoaaGreatDoor

namespace Go.Proofs.YtgekdmjneogdoaaGreatDoor
open Go.RowKit

/-! Short: the program's and the document's, beside each other -/
theorem short_both (v : Nat) (hv : v < 18446744073709551616) (w : World) (hT : Tabs w) :
    ∃ r : ByteArray, ∀ u, Below w.heap.size w u →
      Calls Tryz.prog 17 #[.int .u64 v] u (fun e w' => e = .returned (.string r) ∧ Below u.heap.size u w') ∧
      Calls Tryz.prog 108 #[.int .u64 v] u (fun e w' => e = .returned (.string r) ∧ Below u.heap.size u w') := by
  by_cases hn : v % 9223372036854775808 ≤ 9218868437227405312
  · obtain ⟨neg, r, hr, rfl⟩ : ∃ (neg : Bool) (r : Nat), r ≤ 9218868437227405312 ∧ v = sgn neg + r := by
      by_cases h : v < 9223372036854775808
      · exact ⟨false, v, by omega, by simp [sgn]⟩
      · exact ⟨true, v - 9223372036854775808, by omega, by simp [sgn]; omega⟩
    by_cases hinf : r = 9218868437227405312
    · subst hinf
      cases neg
      · refine ⟨⟨#[105, 110, 102]⟩, fun u _ => ⟨?_, ?_⟩⟩
        · exact (short_inf 9218868437227405312 u (by kernel_rfl) (by kernel_rfl)).mono (fun e w'' h => ⟨h.1, below_self h.2⟩)
        · exact (rshort_inf u).mono (fun e w'' h => ⟨h.1, below_self h.2⟩)
      · refine ⟨⟨#[45, 105, 110, 102]⟩, fun u _ => ⟨?_, ?_⟩⟩
        · exact (short_minf 18442240474082181120 9218868437227405312 u (by kernel_rfl) (by kernel_rfl) (by kernel_rfl) (by kernel_rfl)).mono (fun e w'' h => ⟨h.1, below_self h.2⟩)
        · exact (rshort_minf u).mono (fun e w'' h => ⟨h.1, below_self h.2⟩)
    · by_cases hz : r = 0
      · subst hz
        cases neg
        · refine ⟨⟨#[48]⟩, fun u _ => ⟨?_, ?_⟩⟩
          · exact (short_zero 0 9223372036854775808 u (by kernel_rfl) (by kernel_rfl) (by kernel_rfl) (by kernel_rfl) (by kernel_rfl) (by decide)).mono (fun e w'' h => ⟨h.1, below_self h.2⟩)
          · exact (rshort_zero u).mono (fun e w'' h => ⟨h.1, below_self h.2⟩)
        · refine ⟨⟨#[45, 48]⟩, fun u _ => ⟨?_, ?_⟩⟩
          · exact (short_mzero 9223372036854775808 0 u (by kernel_rfl) (by decide) (by kernel_rfl) (by kernel_rfl) (by kernel_rfl) (by kernel_rfl) (by decide)).mono (fun e w'' h => ⟨h.1, below_self h.2⟩)
          · exact (rshort_mzero u).mono (fun e w'' h => ⟨h.1, below_self h.2⟩)
      · obtain ⟨K, hK, hg, hl⟩ := least_k r (by omega) (by omega)
        refine ⟨bs (shortV neg r K), fun u hb => ⟨?_, ?_⟩⟩
        · exact short_text neg r K (by omega) (by omega) hg hl u (hT.below hb)
        · refine (rshort_any neg 1074 r 1 rfl rfl u (by omega) (by omega)).mono ?_
          rintro e w' ⟨h, hb2⟩
          exact ⟨short_same rfl rfl (by omega) (by omega) h hK hg hl, hb2⟩
  · refine ⟨⟨#[110, 97, 110]⟩, fun u _ => ⟨?_, ?_⟩⟩
    · refine (short_nan v u ?_).mono (fun e w'' h => ⟨h.1, below_self h.2⟩)
      rw [num_iff v hv, decide_eq_true (by omega)]
    · exact (rshort_nan v u (by omega) hv).mono (fun e w'' h => ⟨h.1, below_self h.2⟩)
end Go.Proofs.YtgekdmjneogdoaaGreatDoor

namespace Go.Proofs.YtgekdmjneogdoaaGreatDoor
open Go.RowKit

/-! gaugelaw.numbers -/
theorem num_same (n : Int) (w : World) : Calls Tryz.prog 66 #[.int .i64 n] w fun e w' => e = .returned (.int .i64 n) ∧ w' = w := by
  go_enter Tryz.func66, Tryz.ntmps66
  go_wp2_with fail
  go_ret
  exact ⟨rfl, rfl⟩

/-- two functions that answer alike, in every world above this one -/
def Alike (f g : FuncId) (v r : Value) (w : World) : Prop := ∀ u, Below w.heap.size w u →
  Calls Tryz.prog f #[v] u (fun e w' => e = .returned r ∧ Below u.heap.size u w') ∧ Calls Tryz.prog g #[v] u (fun e w' => e = .returned r ∧ Below u.heap.size u w')

set_option maxRecDepth 20000 in
set_option maxHeartbeats 800000 in
theorem numbers_number (wn A B C : Int) (S : ByteArray) (V U : Int) (la : Option Addr) (ln lc : Nat) (a b : Int) (w : World)
    (h : Alike 18 107 (.string S) (.tuple #[.int .u64 a, .int .i64 b]) w) :
    Calls Tryz.prog 67 #[.agg #[.int .i64 1, .int .i64 wn, .int .i64 A, .int .i64 B, .int .i64 C, .string S, .int .u64 V, .int .u64 U, .slice la ln lc]] w fun e w' => e = .returned (.bool true) ∧ Below w.heap.size w w' := by
  have H := hide h
  have NS := hide num_same
  clear h
  go_enter Tryz.func67, Tryz.ntmps67
  go_wp2_with fail
  have r0 : (w.alloc (Obj.cells #[.int .i64 1, .int .i64 wn, .int .i64 A, .int .i64 B, .int .i64 C, .string S, .int .u64 V, .int .u64 U, .slice la ln lc] 76)).heap[w.heap.size]? = some (Obj.cells #[.int .i64 1, .int .i64 wn, .int .i64 A, .int .i64 B, .int .i64 C, .string S, .int .u64 V, .int .u64 U, .slice la ln lc] 76) := heap_alloc_new w _
  have b0 : Below w.heap.size w (w.alloc (Obj.cells #[.int .i64 1, .int .i64 wn, .int .i64 A, .int .i64 B, .int .i64 C, .string S, .int .u64 V, .int .u64 U, .slice la ln lc] 76)) := (Below.refl _ _).alloc (Nat.le_refl _) _
  have s0 : w.heap.size < (w.alloc (Obj.cells #[.int .i64 1, .int .i64 wn, .int .i64 A, .int .i64 B, .int .i64 C, .string S, .int .u64 V, .int .u64 U, .slice la ln lc] 76)).heap.size := by simp
  generalize hw0 : w.alloc (Obj.cells #[.int .i64 1, .int .i64 wn, .int .i64 A, .int .i64 B, .int .i64 C, .string S, .int .u64 V, .int .u64 U, .slice la ln lc] 76) = w0 at *
  clear hw0
  have R0 := hide r0
  have B0 := hide b0
  clear r0 b0
  refine ((unhide H) w0 (unhide B0)).1.mono ?_
  rintro e w1 ⟨rfl, hb1⟩
  have R1 : Hid (w1.heap[w.heap.size]? = some (Obj.cells #[.int .i64 1, .int .i64 wn, .int .i64 A, .int .i64 B, .int .i64 C, .string S, .int .u64 V, .int .u64 U, .slice la ln lc] 76)) := (hb1.block _ s0).trans (unhide R0)
  have B1 : Hid (Below w.heap.size w w1) := (unhide B0).trans (hb1.mono (unhide B0).size)
  clear hb1
  have c5 : w1.cell? ⟨w.heap.size, 5, none⟩ = some (.string S) := by
    rw [Go.cell_of_row w1 w.heap.size 5 _ _ _ (unhide R1)]; rfl
  go_wp2_with fail
  refine ((unhide H) w1 (unhide B1)).2.mono ?_
  rintro e w2 ⟨rfl, hb2⟩
  have B2 : Hid (Below w.heap.size w w2) := (unhide B1).trans (hb2.mono (unhide B1).size)
  clear hb2
  go_wp2_with fail
  refine (unhide NS b w2).mono ?_
  rintro e w3 ⟨rfl, hw⟩
  rw [hw]
  clear hw
  go_wp2_with fail
  go_ret
  exact ⟨rfl, unhide B2⟩

set_option maxRecDepth 20000 in
set_option maxHeartbeats 800000 in
theorem numbers_short (kd wn A B C : Int) (hk : ¬ kd = 1) (S : ByteArray) (V U : Int) (la : Option Addr) (ln lc : Nat) (r : ByteArray) (w : World)
    (h : Alike 17 108 (.int .u64 V) (.string r) w) :
    Calls Tryz.prog 67 #[.agg #[.int .i64 kd, .int .i64 wn, .int .i64 A, .int .i64 B, .int .i64 C, .string S, .int .u64 V, .int .u64 U, .slice la ln lc]] w fun e w' => e = .returned (.bool true) ∧ Below w.heap.size w w' := by
  have H := hide h
  have NS := hide num_same
  have hkb : (kd == 1) = false := by rw [beq_eq_false_iff_ne]; exact hk
  clear h
  go_enter Tryz.func67, Tryz.ntmps67
  go_wp2_with fail
  have r0 : (w.alloc (Obj.cells #[.int .i64 kd, .int .i64 wn, .int .i64 A, .int .i64 B, .int .i64 C, .string S, .int .u64 V, .int .u64 U, .slice la ln lc] 76)).heap[w.heap.size]? = some (Obj.cells #[.int .i64 kd, .int .i64 wn, .int .i64 A, .int .i64 B, .int .i64 C, .string S, .int .u64 V, .int .u64 U, .slice la ln lc] 76) := heap_alloc_new w _
  have b0 : Below w.heap.size w (w.alloc (Obj.cells #[.int .i64 kd, .int .i64 wn, .int .i64 A, .int .i64 B, .int .i64 C, .string S, .int .u64 V, .int .u64 U, .slice la ln lc] 76)) := (Below.refl _ _).alloc (Nat.le_refl _) _
  have s0 : w.heap.size < (w.alloc (Obj.cells #[.int .i64 kd, .int .i64 wn, .int .i64 A, .int .i64 B, .int .i64 C, .string S, .int .u64 V, .int .u64 U, .slice la ln lc] 76)).heap.size := by simp
  generalize hw0 : w.alloc (Obj.cells #[.int .i64 kd, .int .i64 wn, .int .i64 A, .int .i64 B, .int .i64 C, .string S, .int .u64 V, .int .u64 U, .slice la ln lc] 76) = w0 at *
  clear hw0
  have R0 := hide r0
  have B0 := hide b0
  clear r0 b0
  refine ((unhide H) w0 (unhide B0)).1.mono ?_
  rintro e w1 ⟨rfl, hb1⟩
  have R1 : Hid (w1.heap[w.heap.size]? = some (Obj.cells #[.int .i64 kd, .int .i64 wn, .int .i64 A, .int .i64 B, .int .i64 C, .string S, .int .u64 V, .int .u64 U, .slice la ln lc] 76)) := (hb1.block _ s0).trans (unhide R0)
  have B1 : Hid (Below w.heap.size w w1) := (unhide B0).trans (hb1.mono (unhide B0).size)
  clear hb1
  have c6 : w1.cell? ⟨w.heap.size, 6, none⟩ = some (.int .u64 V) := by
    rw [Go.cell_of_row w1 w.heap.size 6 _ _ _ (unhide R1)]; rfl
  go_wp2_with fail
  refine ((unhide H) w1 (unhide B1)).2.mono ?_
  rintro e w2 ⟨rfl, hb2⟩
  have B2 : Hid (Below w.heap.size w w2) := (unhide B1).trans (hb2.mono (unhide B1).size)
  clear hb2
  go_wp2_with fail
  go_ret
  exact ⟨rfl, unhide B2⟩
end Go.Proofs.YtgekdmjneogdoaaGreatDoor
