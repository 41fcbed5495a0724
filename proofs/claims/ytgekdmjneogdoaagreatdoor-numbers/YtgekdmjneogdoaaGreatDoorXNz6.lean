import Derived.Test.YtgekdmjneogdoaaGreatDoorXDeD
import Derived.Test.YtgekdmjneogdoaaGreatDoorXNy1
import Derived.Test.YtgekdmjneogdoaaGreatDoorXPlain
namespace Go.Proofs.YtgekdmjneogdoaaGreatDoor
open Go.RowKit

/-! what the texts of a value say -/
theorem dg_val (n j : Nat) : (Lib.dg n j).toNat = 48 + n / 10 ^ j % 10 := by
  unfold Lib.dg
  rw [UInt8.toNat_ofNat_of_lt' (by simp [UInt8.size]; omega)]

theorem dg_dig (n j : Nat) : 48 ≤ (Lib.dg n j).toNat ∧ (Lib.dg n j).toNat ≤ 57 := by
  rw [dg_val]; omega

theorem div_ten (d a : Nat) : d / 10 ^ (a + 1) * 10 + d / 10 ^ a % 10 = d / 10 ^ a := by
  rw [Nat.pow_succ, ← Nat.div_div_eq_div_mul]
  omega

/-- the first j digits -/
theorem first_digs (d n : Nat) (hd : d < 10 ^ n) : ∀ j, j ≤ n → expVal 0 ((List.range j).map fun t => Lib.dg d (n - 1 - t)) = d / 10 ^ (n - j) := by
  intro j
  induction j with
  | zero => intro _; rw [Nat.sub_zero, Nat.div_eq_of_lt hd]; rfl
  | succ j ih =>
    intro hj
    rw [List.range_succ, List.map_append, expVal_app, ih (by omega)]
    show d / 10 ^ (n - j) * 10 + ((Lib.dg d (n - 1 - j)).toNat - 48) = _
    rw [dg_val, Nat.add_sub_cancel_left, show n - j = (n - (j + 1)) + 1 by omega, show n - 1 - j = n - (j + 1) by omega]
    exact div_ten d _

theorem trim_digs (d n : Nat) : ∀ j, j ≤ n → d / 10 ^ (n - j) = d / 10 ^ (n - trimN (fun t => Lib.dg d (n - 1 - t)) j) * 10 ^ (j - trimN (fun t => Lib.dg d (n - 1 - t)) j) := by
  intro j
  induction j with
  | zero => intro _; simp [trimN]
  | succ j ih =>
    intro hj
    unfold trimN
    by_cases h : Lib.dg d (n - 1 - j) = 48
    · rw [if_pos h]
      have h0 : d / 10 ^ (n - (j + 1)) % 10 = 0 := by
        have := dg_val d (n - 1 - j)
        rw [h, show n - 1 - j = n - (j + 1) by omega] at this
        have e48 : (48 : UInt8).toNat = 48 := rfl
        omega
      have hs := div_ten d (n - (j + 1))
      rw [h0, Nat.add_zero, show n - (j + 1) + 1 = n - j by omega, ih (by omega)] at hs
      have ht := trimN_le (fun t => Lib.dg d (n - 1 - t)) j
      rw [← hs, show j + 1 - trimN (fun t => Lib.dg d (n - 1 - t)) j = (j - trimN (fun t => Lib.dg d (n - 1 - t)) j) + 1 by omega, Nat.pow_succ, ← Nat.mul_assoc]
    · rw [if_neg h]; simp

theorem expVal_noughts (n : Nat) : ∀ j, expVal n (List.replicate j 48) = n * 10 ^ j := by
  intro j
  induction j generalizing n with
  | zero =>
    show n = n * 10 ^ 0
    rw [Nat.pow_zero, Nat.mul_one]
  | succ j ih =>
    show expVal (n * 10 + ((48 : UInt8).toNat - 48)) (List.replicate j 48) = _
    rw [ih, Nat.pow_succ, show (48 : UInt8).toNat - 48 = 0 from rfl, Nat.add_zero, Nat.mul_assoc, Nat.mul_comm 10]

/-- a power of ten, as the library writes it, and as the document does -/
def powOk (x : Int) : Bool :=
  let t := (expText x).tail
  decide (Lib.atoi t = some x) && decide (t.length ≤ 18) && decide ((Lib.itoa x).length ≤ 10) &&
  (t.head? == some (if x < 0 then 45 else 43)) && t.tail.all isDig && decide (t.tail.length ≤ 4) && decide (t.tail ≠ []) && decide (expVal 0 t.tail = x.natAbs) && decide (expText x = 101 :: t) &&
  (if x < 0 then (Lib.itoa x).head? == some 45 && (Lib.itoa x).tail.all isDig && decide ((Lib.itoa x).tail.length ≤ 4) && decide ((Lib.itoa x).tail ≠ []) && decide (expVal 0 (Lib.itoa x).tail = x.natAbs)
   else (Lib.itoa x).all isDig && decide ((Lib.itoa x).length ≤ 4) && decide (Lib.itoa x ≠ []) && decide (expVal 0 (Lib.itoa x) = x.natAbs))

set_option maxRecDepth 100000 in
theorem pows_ok : ((List.range 801).all fun k => powOk ((k : Int) - 400)) = true := by decide +kernel

theorem pow_ok (x : Int) (h1 : -400 ≤ x) (h2 : x ≤ 400) : powOk x = true := by
  have h := List.all_eq_true.1 pows_ok (x + 400).toNat (List.mem_range.2 (by omega))
  rwa [show (((x + 400).toNat : Nat) : Int) - 400 = x by omega] at h

theorem digs_all {l : List UInt8} (h : l.all isDig = true) : Digs l := by
  intro c hc
  have := List.all_eq_true.1 h c hc
  simp only [isDig, Bool.and_eq_true, decide_eq_true_eq] at this
  exact this

theorem head_tail {l : List UInt8} {c : UInt8} (h : (l.head? == some c) = true) : l = c :: l.tail := by
  cases l with
  | nil => simp at h
  | cons d r =>
    have : d = c := by simpa using h
    rw [this]; rfl

theorem exp_tails (x : Int) (h1 : -400 ≤ x) (h2 : x ≤ 400) : TailOk (expText x) x ∧ TailOk (101 :: Lib.itoa x) x ∧ (∃ t, expText x = 101 :: t ∧ Lib.atoi t = some x ∧ t.length ≤ 18) ∧ (Lib.itoa x).length ≤ 5 ∧ (expText x).length ≤ 7 := by
  have h := pow_ok x h1 h2
  unfold powOk at h
  simp only [Bool.and_eq_true, decide_eq_true_eq] at h
  obtain ⟨⟨⟨⟨⟨⟨⟨⟨⟨a1, a2⟩, a3⟩, a4⟩, a5⟩, a6⟩, a7⟩, a8⟩, a9⟩, a10⟩ := h
  have ht := head_tail a4
  refine ⟨?_, ?_, ⟨_, a9, a1, a2⟩, ?_, ?_⟩
  · right
    by_cases hx : x < 0
    · rw [if_pos hx] at ht
      exact ⟨_, -1, _, a9, ⟨Or.inr (Or.inl ⟨ht, rfl⟩), a7, a6, digs_all a5⟩, by rw [a8]; omega⟩
    · rw [if_neg hx] at ht
      exact ⟨_, 1, _, a9, ⟨Or.inl ⟨ht, rfl⟩, a7, a6, digs_all a5⟩, by rw [a8]; omega⟩
  · right
    by_cases hx : x < 0
    · rw [if_pos hx] at a10
      simp only [Bool.and_eq_true, decide_eq_true_eq] at a10
      obtain ⟨⟨⟨⟨b1, b2⟩, b3⟩, b4⟩, b5⟩ := a10
      exact ⟨_, -1, _, rfl, ⟨Or.inr (Or.inl ⟨head_tail b1, rfl⟩), b4, b3, digs_all b2⟩, by rw [b5]; omega⟩
    · rw [if_neg hx] at a10
      simp only [Bool.and_eq_true, decide_eq_true_eq] at a10
      obtain ⟨⟨⟨b2, b3⟩, b4⟩, b5⟩ := a10
      exact ⟨_, 1, _, rfl, ⟨Or.inr (Or.inr ⟨rfl, rfl⟩), b4, b3, digs_all b2⟩, by rw [b5]; omega⟩
  · by_cases hx : x < 0
    · rw [if_pos hx] at a10
      simp only [Bool.and_eq_true, decide_eq_true_eq] at a10
      obtain ⟨⟨⟨⟨b1, b2⟩, b3⟩, b4⟩, b5⟩ := a10
      rw [head_tail b1, List.length_cons]; omega
    · rw [if_neg hx] at a10
      simp only [Bool.and_eq_true, decide_eq_true_eq] at a10
      omega
  · rw [a9, List.length_cons, ht, List.length_cons]; omega

/-- a value's digits at k + 1 places: the first, the others -/
def dgA (v k : Nat) : List UInt8 := [Lib.dg (digV v k) (Lib.nDigits (digV v k) - 1)]
def dgB (v k : Nat) : List UInt8 :=
  if k = 0 then [] else (List.range (min (trimN (fun t => Lib.dg (digV v k) (Lib.nDigits (digV v k) - 1 - t)) (Lib.nDigits (digV v k))) (k + 1) - 1)).map (fun t => Lib.dg (digV v k) (Lib.nDigits (digV v k) - 1 - (t + 1))) ++ List.replicate (k + 1 - min (trimN (fun t => Lib.dg (digV v k) (Lib.nDigits (digV v k) - 1 - t)) (Lib.nDigits (digV v k))) (k + 1)) 48
def expV (v k : Nat) : Int := (Lib.nDigits (digV v k) : Int) + powV v k - 1
/-- the short text, if k + 1 digits are enough -/
def shortV (neg : Bool) (v k : Nat) : List UInt8 := (if neg then [45] else []) ++ decBody (dgA v k) (dgB v k) (101 :: Lib.itoa (expV v k))

structure DigF (v k : Nat) : Prop where
  digB : Digs (dgB v k)
  lenB : (dgB v k).length = k
  exp1 : -400 ≤ expV v k
  exp2 : expV v k ≤ 400
  fmt : ∀ neg, fmtV neg v k = (if neg then [45] else []) ++ decBody (dgA v k) (dgB v k) (expText (expV v k))
  near : ∀ z, NearV (expVal 0 (dgA v k ++ dgB v k) * 10 ^ (expV v k - (dgB v k).length).toNat) (10 ^ (-(expV v k - (dgB v k).length)).toNat) z ↔ NearV (digV v k * 10 ^ (powV v k).toNat) (10 ^ (-powV v k).toNat) z

theorem digF (v k : Nat) (hv0 : 1 ≤ v) (hv : v < 9218868437227405312) (hk : k ≤ 16) : DigF v k := by
  obtain ⟨_, h3, h4, h5, h6, _⟩ := digV_ok v k hv0 hv hk
  obtain ⟨d, hd⟩ : ∃ d, digV v k = d := ⟨_, rfl⟩
  obtain ⟨q, hq⟩ : ∃ q, powV v k = q := ⟨_, rfl⟩
  obtain ⟨n, hn⟩ : ∃ n, Lib.nDigits d = n := ⟨_, rfl⟩
  rw [hd] at h3 h4
  rw [hq] at h5 h6
  have hn1 : 1 ≤ n := by rw [← hn]; exact Lib.nDigits_pos d
  have hn2 : n ≤ k + 1 := by rw [← hn]; exact nDigits_le d (k + 1) (by omega) h4
  have hdn : d < 10 ^ n := by rw [← hn]; exact Lib.lt_pow_nDigits d
  obtain ⟨t, htr⟩ : ∃ t, trimN (fun t => Lib.dg d (n - 1 - t)) n = t := ⟨_, rfl⟩
  have ht1 : t ≤ n := by rw [← htr]; exact trimN_le _ _
  have ht2 : 1 ≤ t := by rw [← htr]; exact trimN_pos _ (lead_ne d n h3 hn) n hn1
  have eA : dgA v k = [Lib.dg d (n - 1)] := by unfold dgA; rw [hd, hn]
  have eB : dgB v k = if k = 0 then [] else (List.range (t - 1)).map (fun j => Lib.dg d (n - 1 - (j + 1))) ++ List.replicate (k + 1 - t) 48 := by
    unfold dgB; rw [hd, hn, htr, Nat.min_eq_left (by omega)]
  have eE : expV v k = (n : Int) + q - 1 := by unfold expV; rw [hd, hn, hq]
  have hlen : (dgB v k).length = k := by
    rw [eB]; split
    · simp; omega
    · simp; omega
  have hAB : dgA v k ++ dgB v k = (List.range t).map (fun j => Lib.dg d (n - 1 - j)) ++ List.replicate (k + 1 - t) 48 := by
    obtain ⟨t', rfl⟩ : ∃ t', t = t' + 1 := ⟨t - 1, by omega⟩
    rw [eA, eB, List.range_succ_eq_map, List.map_cons, List.map_map]
    by_cases hk0 : k = 0
    · rw [if_pos hk0]
      have : t' = 0 := by omega
      subst this
      simp [hk0]
    · rw [if_neg hk0, Nat.add_sub_cancel]
      rfl
  have hN : expVal 0 (dgA v k ++ dgB v k) = d / 10 ^ (n - t) * 10 ^ (k + 1 - t) := by
    rw [hAB, expVal_app, first_digs d n hdn t ht1, expVal_noughts]
  have hD : d = d / 10 ^ (n - t) * 10 ^ (n - t) := by
    have := trim_digs d n n (Nat.le_refl _)
    rw [htr, Nat.sub_self, Nat.pow_zero, Nat.div_one] at this
    exact this
  refine ⟨?_, hlen, by rw [eE]; omega, by rw [eE]; omega, ?_, ?_⟩
  · intro c hc
    rw [eB] at hc
    split at hc
    · cases hc
    · rcases List.mem_append.1 hc with h | h
      · obtain ⟨j, _, rfl⟩ := List.mem_map.1 h
        exact dg_dig _ _
      · rw [List.mem_replicate] at h
        rw [h.2]; decide
  · intro neg
    unfold fmtV efgText decBody
    rw [hd, hn, hq, htr, eA, eB, eE, Nat.min_eq_left (by omega)]
    by_cases hk0 : k = 0
    · rw [if_pos hk0, if_pos hk0]
      simp
    · rw [if_neg hk0, if_neg hk0]
      have hne : (List.range (t - 1)).map (fun j => Lib.dg d (n - 1 - (j + 1))) ++ List.replicate (k + 1 - t) 48 ≠ [] := by
        intro h0
        have := congrArg List.length h0
        simp at this
        omega
      rw [if_neg hne]
      unfold fracOf
      simp
  · intro z
    rw [hd, hq, hN, hlen, eE]
    have hA : d / 10 ^ (n - t) * 10 ^ (k + 1 - t) * 10 ^ ((n : Int) + q - 1 - (k : Int)).toNat * 10 ^ (-q).toNat = d * 10 ^ q.toNat * 10 ^ (-((n : Int) + q - 1 - (k : Int))).toNat := by
      conv => rhs; rw [hD]
      rw [Nat.mul_assoc, Nat.mul_assoc, Nat.mul_assoc, Nat.mul_assoc, ← Nat.pow_add, ← Nat.pow_add, ← Nat.pow_add, ← Nat.pow_add]
      congr 2
      omega
    exact ⟨near_congr (Nat.pow_pos (by omega)) (Nat.pow_pos (by omega)) hA, near_congr (Nat.pow_pos (by omega)) (Nat.pow_pos (by omega)) hA.symm⟩

theorem DigF.fmtT {v k : Nat} (h : DigF v k) (hk : k ≤ 16) (neg : Bool) : DecT (fmtV neg v k) neg (dgA v k) (dgB v k) (expText (expV v k)) (expV v k) := by
  obtain ⟨e1, _, _, _, e5⟩ := exp_tails _ h.exp1 h.exp2
  refine ⟨h.fmt neg, fun c hc => ?_, by simp [dgA], h.digB, e1, ?_⟩
  · unfold dgA at hc
    rw [List.mem_singleton] at hc
    rw [hc]; exact dg_dig _ _
  · rw [h.fmt neg]
    have hl := h.lenB
    have : (if dgB v k = [] then [] else 46 :: dgB v k).length ≤ k + 1 := by split <;> simp <;> omega
    cases neg
    · simp [decBody, dgA]; omega
    · simp [decBody, dgA]; omega

end Go.Proofs.YtgekdmjneogdoaaGreatDoor

namespace Go.Proofs.YtgekdmjneogdoaaGreatDoor
open Go.RowKit

/-! Short at any finite value but nought -/
theorem index_e : ∀ (P t : List UInt8), (∀ c, c ∈ P → c ≠ 101) → Lib.index (P ++ 101 :: t) [101] = (P.length : Int) := by
  intro P
  induction P with
  | nil => intro t _; simp [Lib.index, List.isPrefixOf]
  | cons c P ih =>
    intro t h
    have h1 := ih t (fun d hd => h d (List.mem_cons_of_mem _ hd))
    have hc := h c List.mem_cons_self
    rw [List.cons_append]
    unfold Lib.index
    have e1 : List.isPrefixOf [101] (c :: (P ++ 101 :: t)) = false := by
      simp only [List.isPrefixOf, Bool.and_true]
      rw [beq_eq_false_iff_ne]; exact fun e => hc e.symm
    rw [e1, h1]
    have e2 : ((P.length : Int) == -1) = false := by rw [beq_eq_false_iff_ne]; omega
    rw [e2]
    simp

theorem cut_e (P t : List UInt8) (h : ∀ c, c ∈ P → c ≠ 101) : Lib.cut (P ++ 101 :: t) [101] = (P, t, true) := by
  unfold Lib.cut
  rw [index_e P t h, if_pos (by omega), Int.toNat_natCast]
  simp

/-- the text, its power of ten made plain -/
def plainR (l : List UInt8) : List UInt8 := (Lib.cut l [101]).1 ++ [101] ++ Lib.itoa ((Lib.atoi (Lib.cut l [101]).2.1).getD 0)

/-- do k + 1 digits give the value back? -/
def Gv (v k : Nat) : Prop := NearV (digV v k * 10 ^ (powV v k).toNat) (10 ^ (-powV v k).toNat) v

theorem front_e (neg : Bool) (A B : List UInt8) (hA : Digs A) (hB : Digs B) : ∀ c, c ∈ (if neg then [45] else []) ++ (A ++ (if B = [] then [] else 46 :: B)) → c ≠ 101 := by
  intro c hc
  rcases List.mem_append.1 hc with h | h
  · cases neg
    · cases h
    · simp only [if_true, List.mem_singleton] at h; rw [h]; decide
  · rcases List.mem_append.1 h with h | h
    · exact (dig_not c (hA c h)).2.2.2
    · by_cases hb : B = []
      · rw [if_pos hb] at h; cases h
      · rw [if_neg hb] at h
        rcases List.mem_cons.1 h with h | h
        · rw [h]; decide
        · exact (dig_not c (hB c h)).2.2.2

theorem DigF.cut {v k : Nat} (h : DigF v k) (hk : k ≤ 16) (neg : Bool) : ∃ t, Lib.cut (fmtV neg v k) [101] = ((if neg then [45] else []) ++ (dgA v k ++ (if dgB v k = [] then [] else 46 :: dgB v k)), t, true) ∧ Lib.atoi t = some (expV v k) ∧ t.length ≤ 18 ∧ plainR (fmtV neg v k) = shortV neg v k := by
  obtain ⟨_, _, ⟨t, e3, e4, e5⟩, _, _⟩ := exp_tails _ h.exp1 h.exp2
  have hc : Lib.cut (fmtV neg v k) [101] = ((if neg then [45] else []) ++ (dgA v k ++ (if dgB v k = [] then [] else 46 :: dgB v k)), t, true) := by
    rw [h.fmt neg, e3]
    unfold decBody
    rw [← List.append_assoc]
    exact cut_e _ t (front_e neg _ _ (h.fmtT hk neg).dA h.digB)
  refine ⟨t, hc, e4, e5, ?_⟩
  unfold plainR
  rw [hc]
  simp only [e4, Option.getD_some]
  unfold shortV decBody
  simp

theorem neg_bits2 (v : Nat) (h : v < 9223372036854775808) : Op.negFloat .f64 (9223372036854775808 + v) = v := by
  rw [← neg_bits v h]
  show (v ^^^ 2 ^ (11 + 52)) ^^^ 2 ^ (11 + 52) = v
  rw [Nat.xor_assoc, Nat.xor_self, Nat.xor_zero]

theorem num_sgn (neg : Bool) (v : Nat) (h : v ≤ 9218868437227405312) : isNum (sgn neg + v) := by
  cases neg <;> simp [sgn, isNum] <;> omega

theorem ordI_sgn (neg : Bool) (v : Nat) (h : v ≤ 9218868437227405312) : ordI (sgn neg + v) = if neg then -(v : Int) else (v : Int) := by
  unfold ordI
  cases neg
  · simp only [sgn, Bool.false_eq_true, if_false]; rw [if_neg (by omega)]; omega
  · simp only [sgn, if_true]; rw [if_pos (by omega)]; omega

theorem eq_sgn (neg : Bool) (u v : Nat) (hu : u ≤ 9218868437227405312) (hv : v ≤ 9218868437227405312) : (FloatKind.f64.format.order (sgn neg + u) (sgn neg + v) == some .eq) = decide (u = v) := by
  rw [order_eq _ _ (num_sgn neg u hu) (num_sgn neg v hv), ordI_sgn neg u hu, ordI_sgn neg v hv]
  by_cases h : u = v
  · subst h
    rw [cmp_eq rfl]; simp
  · rw [decide_eq_false h]
    rcases Int.lt_trichotomy (if neg then -(u : Int) else (u : Int)) (if neg then -(v : Int) else (v : Int)) with q | q | q
    · rw [cmp_lt q]; rfl
    · exfalso
      cases neg
      · simp only [Bool.false_eq_true, if_false] at q; omega
      · simp only [if_true] at q; omega
    · rw [cmp_gt q]; rfl

theorem fin_tests (neg : Bool) (v : Nat) (hv0 : 1 ≤ v) (hv : v < 9218868437227405312) :
    (FloatKind.f64.format.order (sgn neg + v) (sgn neg + v) != some .eq) = false ∧ (FloatKind.f64.format.order (sgn neg + v) 9218868437227405311 == some .gt) = false ∧ (FloatKind.f64.format.order (sgn neg + v) 0 == some .eq) = false := by
  refine ⟨?_, ?_, ?_⟩
  · rw [order_eq _ _ (num_sgn neg v (by omega)) (num_sgn neg v (by omega)), cmp_eq rfl]; rfl
  · rw [order_eq _ _ (num_sgn neg v (by omega)) (by simp [isNum]), ordI_sgn neg v (by omega)]
    have e : ordI 9218868437227405311 = 9218868437227405311 := by decide
    rw [e]
    rcases Int.lt_trichotomy (if neg then -(v : Int) else (v : Int)) 9218868437227405311 with q | q | q
    · rw [cmp_lt q]; rfl
    · rw [cmp_eq q]; rfl
    · exfalso
      cases neg
      · simp only [Bool.false_eq_true, if_false] at q; omega
      · simp only [if_true] at q; omega
  · rw [order_eq _ _ (num_sgn neg v (by omega)) (by simp [isNum]), ordI_sgn neg v (by omega)]
    have e : ordI 0 = 0 := by decide
    rw [e]
    rcases Int.lt_trichotomy (if neg then -(v : Int) else (v : Int)) 0 with q | q | q
    · rw [cmp_lt q]; rfl
    · exfalso
      cases neg
      · simp only [Bool.false_eq_true, if_false] at q; omega
      · simp only [if_true] at q; omega
    · rw [cmp_gt q]; rfl

theorem neg_sgn (neg : Bool) (v : Nat) (h : v < 9223372036854775808) : Op.negFloat .f64 (sgn neg + v) = sgn (!neg) + v := by
  cases neg
  · simp only [sgn, Bool.false_eq_true, if_false, Bool.not_false, if_true, Nat.zero_add]; exact neg_bits v h
  · simp only [sgn, Bool.not_true, Bool.false_eq_true, if_false, if_true, Nat.zero_add]; exact neg_bits2 v h

theorem dig_len {v k : Nat} (h : DigF v k) (hk : k ≤ 16) : (dgA v k ++ dgB v k).length ≤ 19 := by
  rw [List.length_append, h.lenB]
  simp [dgA]; omega

theorem short_all (neg : Bool) (v : Nat) (hv0 : 1 ≤ v) (hv : v < 9218868437227405312) (w : World) (ht : Tabs w) :
    Calls Tryz.prog 17 #[.int .u64 (sgn neg + v : Nat)] w fun e w' => ∃ K, e = .returned (.string ⟨(shortV neg v K).toArray⟩) ∧ (K ≤ 16 ∧ (∀ k, k < K → ¬ Gv v k) ∧ Gv v K) ∧ Below w.heap.size w w' := by
  obtain ⟨q1, q2, q4⟩ := fin_tests neg v hv0 hv
  obtain ⟨_, q3, _⟩ := fin_tests (!neg) v hv0 hv
  have hD : ∀ k, k ≤ 16 → DigF v k := fun k hk => digF v k hv0 hv hk
  -- the value of each text
  have hex : ∀ k : Nat, ∃ z : Nat, k ≤ 16 → NearV (digV v k * 10 ^ (powV v k).toNat) (10 ^ (-powV v k).toNat) z := by
    intro k
    by_cases hk : k ≤ 16
    · obtain ⟨z, ov, _, h2⟩ := number_plain ((hD k hk).fmtT hk neg) (dig_len (hD k hk) hk) w ht
      exact ⟨z, fun _ => ((hD k hk).near z).1 h2⟩
    · exact ⟨0, fun h => absurd h hk⟩
  obtain ⟨rv, hrv⟩ := Classical.axiomOfChoice hex
  have hgv : ∀ k, k ≤ 16 → ((FloatKind.f64.format.order (sgn neg + rv k) (sgn neg + v) == some .eq) = true ↔ Gv v k) := by
    intro k hk
    rw [eq_sgn neg _ _ (hrv k hk).le (by omega), decide_eq_true_eq]
    constructor
    · intro e
      have := hrv k hk
      rw [e] at this
      exact this
    · intro g
      exact near_unique (Nat.pow_pos (by omega)) (Nat.pow_pos (by omega)) (hrv k hk) g rfl
  refine (short_fin (sgn neg + v) (sgn (!neg) + v) (fun l => ∃ K, l = fmtV neg v K ∧ K ≤ 16 ∧ (∀ k, k < K → ¬ Gv v k) ∧ Gv v K) plainR w (neg_sgn neg v (by omega)) q1 q2 q3 q4 ?_ ?_).mono ?_
  · refine (few_any (sgn neg + v) (fmtV neg v) (fun k => sgn neg + rv k) w (fun k hk w' hb => fmt_fin neg v k hv0 hv hk w' (ht.below hb)) (fun k hk w' hb => ?_)).mono ?_
    · have hk' : k ≤ 16 := by omega
      obtain ⟨z, ov, h1, h2⟩ := number_plain ((hD k hk').fmtT hk' neg) (dig_len (hD k hk') hk') w' (ht.below hb)
      have ez : z = rv k := near_unique (Nat.pow_pos (by omega)) (Nat.pow_pos (by omega)) (((hD k hk').near z).1 h2) (hrv k hk') rfl
      rw [ez] at h1
      exact nearest_any (bs (fmtV neg v k)) _ ov w' (ht.below hb) (by rw [bs_size]; exact ((hD k hk').fmtT hk' neg).len) h1
    · rintro e w' ⟨K, rfl, hK, h0, h1, hb⟩
      refine ⟨fmtV neg v K, rfl, ⟨K, rfl, hK, ?_, ?_⟩, hb⟩
      · intro k hk g
        have := h0 k hk
        rw [(hgv k (by omega)).2 g] at this
        cases this
      · by_cases hc : K < 16
        · exact (hgv K hK).1 (h1 hc)
        · exact (digV_ok v K hv0 hv hK).2.2.2.2.2 (by omega)
  · rintro l ⟨K, rfl, hK, _, _⟩ w' hb
    have hDK := hD K hK
    obtain ⟨t, c1, c2, c3, c4⟩ := hDK.cut hK neg
    have hl := (hDK.fmtT hK neg).len
    have e4 : (Lib.itoa (expV v K)).length ≤ 5 := (exp_tails _ hDK.exp1 hDK.exp2).2.2.2.1
    have hdl : ((if neg then [45] else []) ++ (dgA v K ++ (if dgB v K = [] then [] else 46 :: dgB v K))).length ≤ 40 := by
      have := hDK.lenB
      have : (if dgB v K = [] then [] else 46 :: dgB v K).length ≤ K + 1 := by split <;> simp <;> omega
      cases neg
      · simp [dgA]; omega
      · simp [dgA]; omega
    have hp := plain_any (fmtV neg v K) _ t true (expV v K) w' (ht.below hb) hl c1 c3 c2 hDK.exp1 hDK.exp2 hdl (by omega)
    rw [c4]
    refine hp.mono ?_
    rintro e w'' ⟨rfl, hb2⟩
    refine ⟨?_, hb2⟩
    unfold shortV decBody
    simp
  · rintro e w' ⟨l, rfl, ⟨K, rfl, hK⟩, hb⟩
    obtain ⟨t, _, _, _, c4⟩ := (hD K hK.1).cut hK.1 neg
    exact ⟨K, by rw [c4], hK, hb⟩

end Go.Proofs.YtgekdmjneogdoaaGreatDoor
