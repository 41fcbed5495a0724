import Derived.Test.YtgekdmjneogdoaaGreatDoorXDeK
import Derived.Test.YtgekdmjneogdoaaGreatDoorXNear
import Derived.Test.YtgekdmjneogdoaaGreatDoorXNy1
import Derived.Test.YtgekdmjneogdoaaGreatDoorXRn2
import Derived.Test.YtgekdmjneogdoaaGreatDoorXRn3
import Derived.Test.YtgekdmjneogdoaaGreatDoorXRn4
namespace Go.Proofs.YtgekdmjneogdoaaGreatDoor
open Go.RowKit

set_option maxRecDepth 20000 in
set_option maxHeartbeats 1600000 in
theorem numeral_nil (s : ByteArray) (w : World) (h0 : s.size = 0) :
    Calls Tryz.prog 151 #[.string s] w fun e w' => NumPost s w e w' := by
  have hn : s.data.toList = [] := List.length_eq_zero_iff.1 (by rw [len_s]; exact h0)
  have FF : Hid (isDec s.data.toList = false) := by rw [hn]; exact hide rfl
  clear hn
  go_enter Tryz.func151, Tryz.ntmps151
  go_wp2_with fail
  go_loopw [6, 8] (fun iv nv wr => iv = .int .i64 0 ∧ nv = .slice none 0 0 ∧ wr = w) (fun iv _ _ => 0)
  case atStart => exact ⟨rfl, rfl, rfl⟩
  case round =>
    obtain ⟨rfl, rfl, hw⟩ := hrel
    rw [hw]
    clear hw
    go_wp2_with fail
    all_goals (try simp only [Exit.inBlock, Exit.then])
    all_goals refine bodyPost_ret (results_tmp4 rfl _ _ _) rfl ?_
    all_goals exact ⟨_, _, _, _, 0, rfl, ⟨rd_nil _, Below.refl _ _⟩, by rw [unhide FF], fun h => by cases h⟩

theorem numeral_any (s : ByteArray) (w : World) (hs : s.size ≤ 40) :
    Calls Tryz.prog 151 #[.string s] w fun e w' => NumPost s w e w' := by
  by_cases h0 : 0 < s.size
  · by_cases h45 : (s[0].toNat : Int) = 45
    · exact numeral_neg s w hs h0 h45
    · exact numeral_pos s w hs h0 h45
  · exact numeral_nil s w (by omega)

/-! the document's Number -/
def RefNum (s : ByteArray) (w : World) (e : Ending) (w' : World) : Prop :=
  ((isDec s.data.toList = false ∧ e = .returned (.tuple #[.int .u64 0, .int .i64 2])) ∨
    ∃ neg A B T x v, s.data.toList = (if neg then [45] else []) ++ decBody A B T ∧ Digs A ∧ A ≠ [] ∧ Digs B ∧ TailOk T x ∧
      NearV (expVal 0 (A ++ B) * 10 ^ (x - (B.length : Int)).toNat) (10 ^ (-(x - (B.length : Int))).toNat) v ∧ e = .returned (.tuple #[.int .u64 (sgn neg + v : Nat), .int .i64 0])) ∧ Below w.heap.size w w'

theorem big_pow (a b : Nat) (ha : a = 400) (hb : b = 1200) : 10 ^ 50 * 10 ^ a * 2 ^ b ≤ 16777216 ^ 120 := by subst ha hb; decide +kernel
theorem lim_dec {N k j : Nat} (hN : N < 10 ^ 50) (hk : k ≤ 400) (hj : j ≤ 1200) : Lim (N * 10 ^ k * 2 ^ j) := by
  obtain ⟨a, ha⟩ : ∃ a, a = 400 := ⟨_, rfl⟩
  obtain ⟨b, hb⟩ : ∃ b, b = 1200 := ⟨_, rfl⟩
  refine Nat.le_trans (digs_len_lt 120 _ (Nat.lt_of_lt_of_le ?_ (big_pow a b ha hb))) (by omega)
  have h1 : 10 ^ k ≤ 10 ^ a := Nat.pow_le_pow_right (by omega) (by omega)
  have h2 : 2 ^ j ≤ 2 ^ b := Nat.pow_le_pow_right (by omega) (by omega)
  have h3 : N * 10 ^ k < 10 ^ 50 * 10 ^ a := Nat.mul_lt_mul_of_lt_of_le hN h1 (Nat.pow_pos (by omega))
  exact Nat.mul_lt_mul_of_lt_of_le h3 h2 (Nat.pow_pos (by omega))
theorem lim_mul {m k j : Nat} (hm : m < 18446744073709551616) (hk : k ≤ 400) (hj : j ≤ 1200) : Lim (m * 2 ^ j * 10 ^ k) := by
  rw [Nat.mul_right_comm]
  exact lim_dec (Nat.lt_trans hm (by decide)) hk hj

theorem val_small {A B : List UInt8} (hA : Digs A) (hB : Digs B) (hl : A.length + B.length ≤ 40) : expVal 0 (A ++ B) < 10 ^ 40 := by
  have h := expVal_lt (A ++ B) 0 (by
    intro c hc
    rcases List.mem_append.1 hc with q | q
    · exact (hA c q).2
    · exact (hB c q).2)
  rw [Nat.zero_add, Nat.one_mul, List.length_append] at h
  exact Nat.lt_of_lt_of_le h (Nat.pow_le_pow_right (by omega) hl)

theorem digs_none {N : Nat} (h : 0 < N) : 0 < (digs N).length := by
  rw [digs_pos h]
  simp

theorem near_low {N : Nat} {p : Int} (hN : N < 10 ^ 40) (hp : p < -400) : NearV (N * 10 ^ p.toNat) (10 ^ (-p).toNat) 0 := by
  obtain ⟨a, ha⟩ : ∃ a, a = 401 := ⟨_, rfl⟩
  obtain ⟨b, hb⟩ : ∃ b, b = 346 := ⟨_, rfl⟩
  refine near_tiny _ _ b (by omega) ?_
  rw [show p.toNat = 0 by omega, Nat.pow_zero, Nat.mul_one]
  have h1 : 10 ^ a ≤ 10 ^ (-p).toNat := Nat.pow_le_pow_right (by omega) (by omega)
  have h2 : N * 10 ^ b < 10 ^ 40 * 10 ^ b := Nat.mul_lt_mul_of_pos_right hN (Nat.pow_pos (by omega))
  refine Nat.lt_of_lt_of_le h2 (Nat.le_trans ?_ (Nat.mul_le_mul_left _ h1))
  rw [← Nat.pow_add, ← Nat.pow_add]
  exact Nat.pow_le_pow_right (by omega) (by omega)

theorem near_high {N : Nat} {p : Int} (hN : 0 < N) (hp : 400 < p) : NearV (N * 10 ^ p.toNat) (10 ^ (-p).toNat) 9218868437227405312 := by
  obtain ⟨b, hb⟩ : ∃ b, b = 311 := ⟨_, rfl⟩
  refine near_huge _ _ b (by omega) ?_
  rw [show (-p).toNat = 0 by omega, Nat.pow_zero, Nat.one_mul]
  have h1 : 10 ^ b ≤ 10 ^ p.toNat := Nat.pow_le_pow_right (by omega) (by omega)
  exact Nat.le_trans h1 (Nat.le_mul_of_pos_left _ hN)

/-- decimal and nearest, whatever the power -/
theorem ref_near (v : Value) (N : Nat) (p : Int) (w : World) (hr : Rd w v (digs N)) (hN : N < 10 ^ 50) (h1 : -400 ≤ p) (h2 : p ≤ 400) :
    Calls Tryz.prog 153 #[v, .int .i64 p] w fun e w' => ∃ vn vm N' M', e = .returned (.agg #[vn, vm]) ∧ Rd w' vn (digs N') ∧ Rd w' vm (digs M') ∧ Below w.heap.size w w' ∧ N' = N * 10 ^ p.toNat ∧ M' = 10 ^ (-p).toNat := by
  by_cases h : 0 ≤ p
  · obtain ⟨k, rfl⟩ := Int.eq_ofNat_of_zero_le h
    refine (ref_decimal_up v N k w hr (by omega) ?_).mono ?_
    · have := lim_dec (j := 0) hN (by omega : k ≤ 400) (by omega)
      rwa [Nat.pow_zero, Nat.mul_one] at this
    · rintro e w' ⟨vn, vm, rfl, a, b, c⟩
      exact ⟨vn, vm, _, _, rfl, a, b, c, by rw [Int.toNat_natCast], by rw [show (-(k : Int)).toNat = 0 by omega, Nat.pow_zero]⟩
  · obtain ⟨k, hk⟩ : ∃ k : Nat, p = -(k : Int) := ⟨(-p).toNat, by omega⟩
    subst hk
    refine (ref_decimal_down v N k w hr (by omega) (by omega) ?_).mono ?_
    · have := lim_dec (N := 1) (j := 0) (by decide) (by omega : k ≤ 400) (by omega)
      rwa [Nat.pow_zero, Nat.mul_one, Nat.one_mul] at this
    · rintro e w' ⟨vn, vm, rfl, a, b, c⟩
      exact ⟨vn, vm, _, _, rfl, a, b, c, by rw [show (-(k : Int)).toNat = 0 by omega, Nat.pow_zero, Nat.mul_one], by rw [Int.neg_neg, Int.toNat_natCast]⟩

theorem ref_nearest2 (xn xm : Value) (N : Nat) (p : Int) (N' M' : Nat) (w : World) (h1 : Rd w xn (digs N')) (h2 : Rd w xm (digs M')) (hN : N < 10 ^ 50) (p1 : -400 ≤ p) (p2 : p ≤ 400) (e1 : N' = N * 10 ^ p.toNat) (e2 : M' = 10 ^ (-p).toNat) :
    Calls Tryz.prog 152 #[.agg #[xn, xm]] w fun e w' => ∃ v : Nat, e = .returned (.int .u64 v) ∧ NearV (N * 10 ^ p.toNat) (10 ^ (-p).toNat) v ∧ Below w.heap.size w w' := by
  refine (ref_nearest xn xm N' M' w h1 h2 ?_ ?_).mono ?_
  · intro k hk; rw [e1]; exact lim_dec hN (by omega) (by omega)
  · intro m k hm hk; rw [e2]; exact lim_mul hm (by omega) (by omega)
  · rintro e w' ⟨lo, a, b, c, rfl, d⟩
    refine ⟨_, rfl, ?_, d⟩
    rw [← e1, ← e2]
    exact near_ref (by rw [e2]; exact Nat.pow_pos (by omega)) a b c

set_option maxRecDepth 20000 in
set_option maxHeartbeats 1600000 in
theorem ref_number (s : ByteArray) (w : World) (hm : s.size ≤ 40) (h1 : s.data.toList ≠ [110, 97, 110]) (h2 : s.data.toList ≠ [105, 110, 102]) (h3 : s.data.toList ≠ [45, 105, 110, 102]) :
    Calls Tryz.prog 107 #[.string s] w fun e w' => RefNum s w e w' := by
  have HN := hide (numeral_any s w hm)
  have g1 := ne_list h1
  have g2 := ne_list h2
  have g3 := ne_list h3
  clear h1 h2 h3
  go_enter Tryz.func107, Tryz.ntmps107
  go_wp2_with fail
  refine (unhide HN).mono ?_
  rintro e w1 ⟨minus, v, p, ok, N, rfl, hNB, hR⟩
  have NB := hide hNB
  clear hNB HN
  cases ok
  · have R := hide hR
    clear hR
    go_wp2_with fail
    go_ret2
    exact ⟨Or.inl ⟨(unhide R).1.symm, rfl⟩, (unhide NB).2⟩
  · obtain ⟨A, B, T, x, l1, l2, l3, l4, l5, l6, l7⟩ := hR.2 rfl
    have hlen : A.length + B.length ≤ 40 := by
      have := congrArg List.length l1
      rw [len_s] at this
      unfold decBody at this
      by_cases hB : B = []
      · rw [if_pos hB] at this
        simp only [List.length_append] at this
        rw [hB, List.length_nil]
        omega
      · rw [if_neg hB] at this
        simp only [List.length_append, List.length_cons] at this
        omega
    have hN40 : N < 10 ^ 40 := by rw [l6]; exact val_small l2 l4 hlen
    have hN50 : N < 10 ^ 50 := Nat.lt_trans hN40 (by decide)
    obtain ⟨ao, cap, hv, _⟩ := (unhide NB).1
    have FIN : Hid (∀ u : Nat, NearV (N * 10 ^ p.toNat) (10 ^ (-p).toNat) u → ∀ e w', e = .returned (.tuple #[.int .u64 (sgn minus + u : Nat), .int .i64 0]) → Below w.heap.size w w' → RefNum s w e w') := by
      intro u hu e w' he hb
      rw [l6, l7] at hu
      exact ⟨Or.inr ⟨minus, A, B, T, x, u, l1, l2, l3, l4, l5, hu, he⟩, hb⟩
    clear l1 l2 l3 l4 l5 hR hlen
    have HL := hide (And.intro hN40 hN50)
    clear hN40 hN50 l6 l7
    have P1 : Hid (p < -400 → NearV (N * 10 ^ p.toNat) (10 ^ (-p).toNat) 0) := fun h => near_low (unhide HL).1 h
    have P2 : Hid (0 < N → 400 < p → NearV (N * 10 ^ p.toNat) (10 ^ (-p).toNat) 9218868437227405312) := fun h0 h => near_high h0 h
    by_cases hN0 : N = 0
    · have hl : (digs N).length = 0 := by rw [hN0, digs_zero]; rfl
      have Z : Hid (NearV (N * 10 ^ p.toNat) (10 ^ (-p).toNat) 0) := by
        rw [hN0, Nat.zero_mul]; exact near_zero _ (Nat.pow_pos (by omega))
      rw [hl] at hv
      rw [hv]
      cases minus
      · go_wp2_with fail
        go_ret2
        exact unhide FIN 0 (unhide Z) _ _ (by simp [sgn]) (unhide NB).2
      · go_wp2_with fail
        go_ret2
        exact unhide FIN 0 (unhide Z) _ _ (by simp [sgn]) (unhide NB).2
    · have hl := digs_none (by omega : 0 < N)
      have hl2 : (((digs N).length : Int) == 0) = false := by rw [beq_eq_false_iff_ne]; omega
      by_cases pl : p < -400
      · rw [hv]
        cases minus
        · go_wp2_with fail
          go_ret2
          exact unhide FIN 0 (unhide P1 pl) _ _ (by simp [sgn]) (unhide NB).2
        · go_wp2_with fail
          go_ret2
          exact unhide FIN 0 (unhide P1 pl) _ _ (by simp [sgn]) (unhide NB).2
      · by_cases ph : 400 < p
        · rw [hv]
          cases minus
          · go_wp2_with fail
            go_ret2
            exact unhide FIN _ (unhide P2 (by omega) ph) _ _ (by simp [sgn]) (unhide NB).2
          · go_wp2_with fail
            go_ret2
            exact unhide FIN _ (unhide P2 (by omega) ph) _ _ (by simp [sgn]) (unhide NB).2
        · have RN := hide (ref_near v N p w1 (unhide NB).1 (unhide HL).2 (by omega) (by omega))
          rw [hv] at RN
          rw [hv]
          have step : ∀ (u : Nat) (w3 : World), NearV (N * 10 ^ p.toNat) (10 ^ (-p).toNat) u → u ≤ 9218868437227405312 := fun u _ h => h.le
          go_wp2_with fail
          refine (unhide RN).mono ?_
          rintro e w2 ⟨vn, vm, N', M', rfl, r1, r2, hb2, e1, e2⟩
          have N2 := hide (ref_nearest2 vn vm N p N' M' w2 r1 r2 (unhide HL).2 (by omega) (by omega) e1 e2)
          have B2 : Hid (Below w.heap.size w w2) := (unhide NB).2.trans (hb2.mono (unhide NB).2.size)
          clear r1 r2 hb2 e1 e2 RN
          go_wp2_with fail
          refine (unhide N2).mono ?_
          rintro e w3 ⟨u, rfl, hu, hb3⟩
          have hle := hu.le
          have U := hide hu
          have B3 : Hid (Below w.heap.size w w3) := (unhide B2).trans (hb3.mono (unhide B2).size)
          clear hu hb3 step
          cases minus
          · go_wp2_with fail
            go_ret2
            exact unhide FIN u (unhide U) _ _ (by simp [sgn]) (unhide B3)
          · go_wp2_with fail
            go_ret2
            refine unhide FIN u (unhide U) _ _ ?_ (unhide B3)
            simp [sgn]; omega
end Go.Proofs.YtgekdmjneogdoaaGreatDoor

namespace Go.Proofs.YtgekdmjneogdoaaGreatDoor
open Go.RowKit

/-! a text is a decimal number in one way only -/
theorem run_eq {A A' R R' : List UInt8} (h : A ++ R = A' ++ R') (hA : Digs A) (hA' : Digs A') (hR : ∀ c r, R = c :: r → isDig c = false) (hR' : ∀ c r, R' = c :: r → isDig c = false) : A = A' ∧ R = R' := by
  have h1 := digLen_app A R hA hR
  have h2 := digLen_app A' R' hA' hR'
  rw [h, h2] at h1
  exact List.append_inj h h1.symm

theorem tail_unique {T : List UInt8} {x x' : Int} (h : TailOk T x) (h' : TailOk T x') : x = x' := by
  rcases h with ⟨e, rfl⟩ | ⟨R, es, ds, e, hE, rfl⟩
  · rcases h' with ⟨_, rfl⟩ | ⟨R', es', ds', e', _, _⟩
    · rfl
    · rw [e] at e'; cases e'
  · rcases h' with ⟨e', _⟩ | ⟨R', es', ds', e', hE', rfl⟩
    · rw [e] at e'; cases e'
    · rw [e] at e'
      obtain rfl : R = R' := by cases e'; rfl
      have key : ∀ (c : UInt8) (l l2 : List UInt8), (∀ d, d ∈ l2 → 48 ≤ d.toNat ∧ d.toNat ≤ 57) → c :: l = l2 → 48 ≤ c.toNat ∧ c.toNat ≤ 57 := fun c l l2 hl e => hl c (by rw [← e]; exact List.mem_cons_self)
      rcases hE.form with ⟨a, b⟩ | ⟨a, b⟩ | ⟨a, b⟩
      · rcases hE'.form with ⟨c, d⟩ | ⟨c, d⟩ | ⟨c, d⟩
        · rw [a] at c; cases c; rw [b, d]
        · rw [a] at c; exact absurd (List.head_eq_of_cons_eq c) (by decide)
        · rw [a] at c; have := key _ _ _ hE'.dig c; exact absurd this (by decide)
      · rcases hE'.form with ⟨c, d⟩ | ⟨c, d⟩ | ⟨c, d⟩
        · rw [a] at c; exact absurd (List.head_eq_of_cons_eq c) (by decide)
        · rw [a] at c; cases c; rw [b, d]
        · rw [a] at c; have := key _ _ _ hE'.dig c; exact absurd this (by decide)
      · rcases hE'.form with ⟨c, d⟩ | ⟨c, d⟩ | ⟨c, d⟩
        · rw [c] at a; have := key _ _ _ hE.dig a; exact absurd this (by decide)
        · rw [c] at a; have := key _ _ _ hE.dig a; exact absurd this (by decide)
        · rw [a] at c; rw [c, b, d]

theorem body_unique {A B T A' B' T' : List UInt8} {x x' : Int} (h : decBody A B T = decBody A' B' T') (hA : Digs A) (hB : Digs B) (hT : TailOk T x) (hA' : Digs A') (hB' : Digs B') (hT' : TailOk T' x') : A = A' ∧ B = B' ∧ x = x' := by
  have no : ∀ {B T : List UInt8} {x : Int}, TailOk T x → ∀ c r, (if B = [] then [] else 46 :: B) ++ T = c :: r → isDig c = false := by
    intro B T x hT c r e
    by_cases hB0 : B = []
    · rw [if_pos hB0, List.nil_append] at e
      rw [hT.head c r e]; decide
    · rw [if_neg hB0] at e
      cases e; decide
  have tno : ∀ {T : List UInt8} {x : Int}, TailOk T x → ∀ c r, T = c :: r → isDig c = false := by
    intro T x hT c r e
    rw [hT.head c r e]; decide
  unfold decBody at h
  rw [List.append_assoc, List.append_assoc] at h
  obtain ⟨h1, h2⟩ := run_eq h hA hA' (no hT) (no hT')
  refine ⟨h1, ?_⟩
  by_cases b : B = []
  · by_cases b' : B' = []
    · rw [if_pos b, if_pos b'] at h2
      have h3 : T = T' := h2
      subst h3
      exact ⟨by rw [b, b'], tail_unique hT hT'⟩
    · rw [if_pos b, if_neg b'] at h2
      have := hT.head 46 (B' ++ T') h2
      exact absurd this (by decide)
  · by_cases b' : B' = []
    · rw [if_neg b, if_pos b'] at h2
      have := hT'.head 46 (B ++ T) h2.symm
      exact absurd this (by decide)
    · rw [if_neg b, if_neg b'] at h2
      have h3 : B ++ T = B' ++ T' := by
        have := congrArg List.tail h2
        simpa using this
      obtain ⟨e1, e2⟩ := run_eq h3 hB hB' (tno hT) (tno hT')
      subst e2
      exact ⟨e1, tail_unique hT hT'⟩

theorem dec_unique {neg neg' : Bool} {A B T A' B' T' : List UInt8} {x x' : Int} (h : (if neg then [45] else []) ++ decBody A B T = (if neg' then [45] else []) ++ decBody A' B' T') (hA : Digs A) (h0 : A ≠ []) (hB : Digs B) (hT : TailOk T x) (hA' : Digs A') (h0' : A' ≠ []) (hB' : Digs B') (hT' : TailOk T' x') : neg = neg' ∧ A = A' ∧ B = B' ∧ x = x' := by
  have hd : ∀ {A B T : List UInt8}, Digs A → A ≠ [] → ∀ l, decBody A B T = 45 :: l → False := by
    intro A B T hA h0 l e
    cases A with
    | nil => exact h0 rfl
    | cons c A =>
      have := hA c List.mem_cons_self
      unfold decBody at e
      have e2 : c = 45 := by
        have := congrArg List.head? e
        simpa using this
      subst e2
      exact absurd this (by decide)
  cases neg <;> cases neg'
  · exact ⟨rfl, body_unique h hA hB hT hA' hB' hT'⟩
  · exact absurd h (fun e => hd hA h0 _ e)
  · exact absurd h.symm (fun e => hd hA' h0' _ e)
  · have h3 : decBody A B T = decBody A' B' T' := by
      have := congrArg List.tail h
      simpa using this
    exact ⟨rfl, body_unique h3 hA hB hT hA' hB' hT'⟩
end Go.Proofs.YtgekdmjneogdoaaGreatDoor

namespace Go.Proofs.YtgekdmjneogdoaaGreatDoor
open Go.RowKit

/-! Number: the program's and the document's, beside each other -/
set_option maxHeartbeats 800000 in
theorem ref_long (s : ByteArray) (w : World) (h : 40 < s.size) (hm : s.size ≤ 9223372036854775807) :
    Calls Tryz.prog 107 #[.string s] w fun e w' => e = .returned (.tuple #[.int .u64 0, .int .i64 1]) ∧ w' = w := by
  go_enter Tryz.func107, Tryz.ntmps107
  go_wp2_with fail
  go_ret2
  exact ⟨rfl, rfl⟩
theorem ref_nan (w : World) :
    Calls Tryz.prog 107 #[.string ⟨#[110, 97, 110]⟩] w fun e w' => e = .returned (.tuple #[.int .u64 9221120237041090560, .int .i64 0]) ∧ w' = w := by
  go_enter Tryz.func107, Tryz.ntmps107
  go_wp2_with fail
  go_ret2
  exact ⟨rfl, rfl⟩
theorem ref_inf (w : World) :
    Calls Tryz.prog 107 #[.string ⟨#[105, 110, 102]⟩] w fun e w' => e = .returned (.tuple #[.int .u64 9218868437227405312, .int .i64 0]) ∧ w' = w := by
  go_enter Tryz.func107, Tryz.ntmps107
  go_wp2_with fail
  go_ret2
  exact ⟨rfl, rfl⟩
theorem ref_minf (w : World) :
    Calls Tryz.prog 107 #[.string ⟨#[45, 105, 110, 102]⟩] w fun e w' => e = .returned (.tuple #[.int .u64 18442240474082181120, .int .i64 0]) ∧ w' = w := by
  go_enter Tryz.func107, Tryz.ntmps107
  go_wp2_with fail
  go_ret2
  exact ⟨rfl, rfl⟩

theorem stay {w w' : World} (h : w' = w) : Below w.heap.size w w' := by rw [h]; exact Below.refl _ _

theorem num_both (s : ByteArray) (hs : s.size ≤ 9223372036854775807) (w : World) (hT : Tabs w) (hW : SlowW w) :
    ∃ a b : Int, ∀ u, Below w.heap.size w u →
      Calls Tryz.prog 18 #[.string s] u (fun e w' => e = .returned (.tuple #[.int .u64 a, .int .i64 b]) ∧ Below u.heap.size u w') ∧
      Calls Tryz.prog 107 #[.string s] u (fun e w' => e = .returned (.tuple #[.int .u64 a, .int .i64 b]) ∧ Below u.heap.size u w') := by
  by_cases hl : 40 < s.size
  · exact ⟨0, 1, fun u _ => ⟨(num_long s u hl hs).mono fun e w' h => ⟨h.1, stay h.2⟩, (ref_long s u hl hs).mono fun e w' h => ⟨h.1, stay h.2⟩⟩⟩
  have h40 : s.size ≤ 40 := by omega
  by_cases h1 : s.data.toList = [110, 97, 110]
  · obtain rfl : s = ⟨#[110, 97, 110]⟩ := by rw [← bs_eq s, h1]; rfl
    exact ⟨_, _, fun u _ => ⟨(num_nan u).mono fun e w' h => ⟨h.1, stay h.2⟩, (ref_nan u).mono fun e w' h => ⟨h.1, stay h.2⟩⟩⟩
  by_cases h2 : s.data.toList = [105, 110, 102]
  · obtain rfl : s = ⟨#[105, 110, 102]⟩ := by rw [← bs_eq s, h2]; rfl
    exact ⟨_, _, fun u _ => ⟨(num_inf u).mono fun e w' h => ⟨h.1, stay h.2⟩, (ref_inf u).mono fun e w' h => ⟨h.1, stay h.2⟩⟩⟩
  by_cases h3 : s.data.toList = [45, 105, 110, 102]
  · obtain rfl : s = ⟨#[45, 105, 110, 102]⟩ := by rw [← bs_eq s, h3]; rfl
    exact ⟨_, _, fun u _ => ⟨(num_minf u).mono fun e w' h => ⟨h.1, stay h.2⟩, (ref_minf u).mono fun e w' h => ⟨h.1, stay h.2⟩⟩⟩
  cases hd : isDec s.data.toList
  · refine ⟨0, 2, fun u _ => ⟨(num_bad s u h40 h1 h2 h3 hd).mono fun e w' h => ⟨h.1, stay h.2⟩, (ref_number s u h40 h1 h2 h3).mono ?_⟩⟩
    rintro e w' ⟨h, hb⟩
    refine ⟨?_, hb⟩
    rcases h with ⟨_, h⟩ | ⟨neg, A, B, T, x, v, e1, e2, e3, e4, e5, _, _⟩
    · exact h
    · have := isDec_of neg A B T x e2 e3 e4 e5
      rw [← e1, hd] at this
      cases this
  · obtain ⟨neg, A, B, T, x, e1, e2, e3, e4, e5⟩ := isDec_parts s.data.toList hd
    have hD : DecT s.data.toList neg A B T x := ⟨e1, e2, e3, e4, e5, by rw [len_s]; exact h40⟩
    obtain ⟨v, hv, hc⟩ := number_calls hD w hT hW
    refine ⟨((sgn neg + v : Nat) : Int), 0, fun u hb => ⟨?_, (ref_number s u h40 h1 h2 h3).mono ?_⟩⟩
    · have := hc u hb
      rw [bs_eq] at this
      exact this
    · rintro e w' ⟨h, hb2⟩
      refine ⟨?_, hb2⟩
      rcases h with ⟨h, _⟩ | ⟨neg', A', B', T', x', v', f1, f2, f3, f4, f5, f6, f7⟩
      · rw [hd] at h; cases h
      · obtain ⟨g1, g2, g3, g4⟩ := dec_unique (e1.symm.trans f1) e2 e3 e4 e5 f2 f3 f4 f5
        subst g1 g2 g3 g4
        have := near_unique (Nat.pow_pos (by omega)) (Nat.pow_pos (by omega)) hv f6 rfl
        rw [f7, this]
end Go.Proofs.YtgekdmjneogdoaaGreatDoor
