import Derived.Test.YtgekdmjneogdoaaGreatDoorXAtof
import Derived.Test.YtgekdmjneogdoaaGreatDoorXDeB
import Derived.Test.YtgekdmjneogdoaaGreatDoorXDeJ
import Derived.Test.YtgekdmjneogdoaaGreatDoorXNear
import Derived.Test.YtgekdmjneogdoaaGreatDoorXNy1
namespace Go.Proofs.YtgekdmjneogdoaaGreatDoor
open Go.RowKit

theorem huge_ok2 : 18014398509481983 * 2 ^ 970 ≤ 10 ^ 310 := by decide +kernel

theorem near_huge2 (n d k : Nat) (hk : 310 ≤ k) (h : d * 10 ^ k ≤ n) : NearV n d 9218868437227405312 := by
  obtain ⟨c, hc⟩ : ∃ c, c = 1075 := ⟨_, rfl⟩
  obtain ⟨g, hg⟩ : ∃ g, g = 970 := ⟨_, rfl⟩
  refine near_inf d (g + c) n 2045 (n * tw) rfl (by omega) rfl ?_
  rw [tw_pow c hc, Nat.pow_add, ← Nat.mul_assoc]
  refine Nat.mul_le_mul_right _ ?_
  refine Nat.le_trans ?_ h
  rw [Nat.mul_right_comm, Nat.mul_comm]
  refine Nat.mul_le_mul_left d (Nat.le_trans ?_ (Nat.pow_le_pow_right (by omega) hk))
  rw [hg]; exact huge_ok2

/-- floatBits of any decimal of at most 40 digits: the nearest value -/
theorem fbits_any (w : World) (b N nd0 : Nat) (y : Int) (neg : Bool) (h : DecW w b N nd0 (nd0 + y) neg) (h40 : nd0 ≤ 40) (hT : SlowT w b) :
    Calls Tryz.prog 281 #[.pointer (some ⟨b, 0, none⟩), .pointer (some ⟨8, 0, none⟩)] w fun e w' => (∃ v : Nat, NearV (N * 10 ^ y.toNat) (10 ^ (-y).toNat) v ∧ e = .returned (.tuple #[.int .u64 (sgn neg + v : Nat), .bool (decide (v = 9218868437227405312))])) ∧ Kept (But b) w w' := by
  obtain ⟨a, hm, _⟩ := h.mem
  have n1 := h.nd1
  have hlo := h.lo
  have hhi := h.hi
  by_cases h1 : 310 < (nd0 : Int) + y
  · refine (fbits_hi w b nd0 _ neg a hm n1 hT h1).mono ?_
    rintro e w' ⟨he, n, hw⟩
    rw [hw]
    refine ⟨⟨9218868437227405312, ?_, ?_⟩, kdrewN _ _ _⟩
    · refine near_huge2 _ _ ((nd0 : Int) - 1 + y).toNat (by omega) ?_
      refine Nat.le_trans ?_ (Nat.mul_le_mul_right _ hlo)
      rw [← Nat.pow_add, ← Nat.pow_add]
      exact Nat.pow_le_pow_right (by omega) (by omega)
    · rw [he]; rfl
  · by_cases h2 : (nd0 : Int) + y < -330
    · refine (fbits_lo w b nd0 _ neg a hm n1 hT h2).mono ?_
      rintro e w' ⟨he, n, hw⟩
      rw [hw]
      refine ⟨⟨0, ?_, ?_⟩, kdrewN _ _ _⟩
      · refine near_tiny _ _ 346 (by omega) ?_
        rw [show y.toNat = 0 by omega, Nat.pow_zero, Nat.mul_one]
        obtain ⟨k, hk⟩ : ∃ k, k = 346 := ⟨_, rfl⟩
        rw [← hk]
        refine Nat.lt_of_lt_of_le (Nat.mul_lt_mul_of_pos_right hhi (Nat.pow_pos (by omega))) ?_
        rw [← Nat.pow_add, ← Nat.pow_add]
        exact Nat.pow_le_pow_right (by omega) (by omega)
      · rw [he]; rfl
    · obtain ⟨M, hM⟩ : ∃ M, M = 2000 := ⟨_, rfl⟩
      exact fbits_mid w b M N nd0 y neg h ⟨hlo, hhi, n1, h40, hM, by omega, by omega⟩ hT
end Go.Proofs.YtgekdmjneogdoaaGreatDoor

namespace Go.Proofs.YtgekdmjneogdoaaGreatDoor
open Go.RowKit

/-! the tables, whatever the decimal's block -/
structure SlowW (w : World) : Prop where
  cheat : Cheat w
  pow : ∃ B O, w.cell? ⟨13, 0, none⟩ = some (.slice (some ⟨B, O, none⟩) 9 9) ∧ ∀ j, j < 9 → w.cell? ⟨B, O + j, none⟩ = some (.int .i64 (ptN j : Int))
  mant : w.cell? ⟨8, 0, none⟩ = some (.int .u64 52)
  expb : w.cell? ⟨8, 1, none⟩ = some (.int .u64 11)
  bias : w.cell? ⟨8, 2, none⟩ = some (.int .i64 (-1023))

theorem SlowW.below {w u : World} (h : SlowW w) (hb : Below w.heap.size w u) : SlowW u := by
  obtain ⟨B, O, p1, p2⟩ := h.pow
  obtain ⟨B2, O2, q1, q2⟩ := h.cheat.tab
  exact ⟨⟨B2, O2, later hb q1, fun k k1 k2 => ⟨later hb (q2 k k1 k2).1, later hb (q2 k k1 k2).2⟩⟩, ⟨B, O, later hb p1, fun j hj => later hb (p2 j hj)⟩, later hb h.mant, later hb h.expb, later hb h.bias⟩

theorem SlowW.slow {w u : World} (h : SlowW w) (hb : Below w.heap.size w u) (b : Nat) (hB : w.heap.size ≤ b) : SlowT u b := by
  have h' := h.below hb
  have ne : ∀ {B O : Nat} {v : Value}, w.cell? ⟨B, O, none⟩ = some v → B ≠ b := fun hc => by
    have := lt_of_cell hc
    omega
  obtain ⟨B, O, p1, p2⟩ := h.pow
  obtain ⟨B2, O2, q1, q2⟩ := h.cheat.tab
  refine ⟨h'.cheat, fun B3 O3 e => ?_, ne q1, ⟨B, O, ne (p2 0 (by omega)), later hb p1, fun j hj => later hb (p2 j hj)⟩, ne p1, ne h.mant, h'.mant, h'.expb, h'.bias⟩
  rw [later hb q1] at e
  injection e with e
  injection e with e
  injection e with e
  injection e with e
  subst e
  exact ne (q2 1 (by omega) (by omega)).1

theorem zero_dec : Tryz.zeroCells294 = Array.replicate 800 (.int .u8 0) ++ #[.int .i64 0, .int .i64 0, .bool false, .bool false] := by kernel_rfl

theorem dm_new (w : World) : DM (w.alloc (.cells Tryz.zeroCells294 294)) w.heap.size (fun _ => 0) 0 0 false false := by
  have h : ∀ i, (w.alloc (.cells Tryz.zeroCells294 294)).cell? ⟨w.heap.size, i, none⟩ = Tryz.zeroCells294[i]? := fun i => World.cell?_alloc_at _ _ _ _ rfl
  have hz := zero_dec
  refine ⟨fun i hi => ?_, ?_, ?_, ?_, ?_, fun i => ?_⟩
  · rw [h i, hz, Array.getElem?_append_left (by simpa using hi)]
    simp [hi]
  · rw [h, hz, Array.getElem?_append_right (by simp)]
    simp
  · rw [h, hz, Array.getElem?_append_right (by simp)]
    simp
  · rw [h, hz, Array.getElem?_append_right (by simp)]
    simp
  · rw [h, hz, Array.getElem?_append_right (by simp)]
    simp
  · rw [RowKit.frozen?_alloc_cells]
    unfold World.frozen?
    simp

set_option maxRecDepth 100000 in
set_option maxHeartbeats 1000000 in
theorem atof_slow (s : ByteArray) (m sg : Nat) (p : Int) (neg tr : Bool) (w : World) (hS : SpecialNo s) (hRd : Reads s m p neg tr) (hopt : w.cell? ⟨5, 0, none⟩ = some (.bool true))
    (hsg : IntKind.u64.wrap ((neg.toNat : Int) * 9223372036854775808) = (sg : Int)) (hm0 : ((m : Int) == 0) = false) (hp1 : p ≤ 310) (hp2 : -345 ≤ p) (htr : tr = true) (b : Nat) (ev : Value) (hP : Calls Tryz.prog 285 #[.int .u64 m, .int .i64 p, .int .u64 sg] w fun z w' => z = .returned (.tuple #[.float .f64 b, ev]) ∧ Below w.heap.size w w') (b2 : Nat) (ev2 : Value) (m1 : Int) (hm1 : IntKind.u64.wrap ((m : Int) + 1) = m1) (hP2 : ∀ w', Below w.heap.size w w' → Calls Tryz.prog 285 #[.int .u64 m1, .int .i64 p, .int .u64 sg] w' fun z w'' => z = .returned (.tuple #[.float .f64 b2, ev2]) ∧ Below w'.heap.size w' w'') (heq : (FloatKind.f64.format.order b b2 == some .eq) = false)
    (hW : SlowW w) (N nd0 : Nat) (y : Int) (h40 : nd0 ≤ 40) (hset : ∀ (u : World) (b0 : Nat), DM u b0 (fun _ => 0) 0 0 false false → Calls Tryz.prog 280 #[.pointer (some ⟨b0, 0, none⟩), .string s] u fun e w' => e = .returned (.bool true) ∧ DecW w' b0 N nd0 (nd0 + y) neg ∧ Kept (But b0) u w') :
    Calls Tryz.prog 233 #[.string s] w fun z w' => (∃ v : Nat, NearV (N * 10 ^ y.toNat) (10 ^ (-y).toNat) v ∧ z = .returned (.tuple #[.float .f64 (sgn neg + v), .int .i64 s.size, errV (decide (v = 9218868437227405312)) 1])) ∧ Below w.heap.size w w' := by
  have hfb := frombits_run
  subst htr
  have HP := hide hP
  clear hP
  have HP2 := hide hP2
  clear hP2
  go_enter Tryz.func233, Tryz.ntmps233
  go_wp2_with fail
  refine (hS _).mono ?_
  rintro e w1 ⟨rfl, hw⟩; rw [hw]; clear hw w1
  go_wp2_with fail
  refine (hRd _).mono ?_
  rintro e w1 ⟨rfl, hw⟩; rw [hw]; clear hw w1
  go_wp2_with fail
  refine (bool2u_any neg _).mono ?_
  rintro e w1 ⟨rfl, hw⟩; rw [hw]; clear hw w1
  go_wp2_with fail
  refine (unhide HP).mono ?_
  rintro e w1 ⟨rfl, hb⟩
  go_wp2_with fail
  refine (unhide HP2 _ hb).mono ?_
  rintro e w2 ⟨rfl, hb2⟩
  go_wp2_with fail
  have hbb := hb.trans (hb2.mono hb.size)
  have HBA : Hid (Below w.heap.size w (w2.alloc (.cells Tryz.zeroCells294 294))) := hbb.alloc hbb.size _
  have HSz := hide hbb.size
  refine (hset _ _ (dm_new w2)).mono ?_
  rintro e w3 ⟨rfl, hd, hk3⟩
  have HT := hide ((hW.slow (unhide HBA) w2.heap.size (unhide HSz)).kept hk3)
  have HFb := hide (fbits_any w3 w2.heap.size N nd0 y neg hd h40 (unhide HT))
  have HB3 : Hid (Below w.heap.size w w3) := (unhide HBA).trans ⟨hk3.os, hk3.tape, hk3.output, hk3.size, fun k hk => hk3.block k (fun e => by have := unhide HSz; omega)⟩
  clear hd hk3 HT HBA hbb hb hb2
  go_wp2_with fail
  refine (unhide HFb).mono ?_
  rintro e w4 ⟨⟨v, hv, rfl⟩, hk4⟩
  have HV := hide hv
  have HB4 : Hid (Below w.heap.size w w4) := (unhide HB3).trans ⟨hk4.os, hk4.tape, hk4.output, hk4.size, fun k hk => hk4.block k (fun e => by have := unhide HSz; omega)⟩
  obtain ⟨vs, hvs⟩ : ∃ vs, sgn neg + v = vs := ⟨_, rfl⟩
  rw [hvs]
  have hvb : vs < 18446744073709551616 := by
    have h1 := hv.le
    rw [← hvs]
    cases neg
    · show 0 + v < _
      omega
    · show 9223372036854775808 + v < _
      omega
  have HVS := hide hvs
  clear hv hk4 hvs
  by_cases hinf : v = 9218868437227405312
  · rw [decide_eq_true hinf]
    go_wp2_with fail
    go_ret3
    have hvs2 : sgn neg + v = vs := unhide HVS
    subst hvs2
    exact ⟨⟨v, unhide HV, by rw [decide_eq_true hinf]; rfl⟩, unhide HB4⟩
  · rw [decide_eq_false hinf]
    go_wp2_with fail
    go_ret3
    have hvs2 : sgn neg + v = vs := unhide HVS
    subst hvs2
    exact ⟨⟨v, unhide HV, by rw [decide_eq_false hinf]; rfl⟩, unhide HB4⟩
end Go.Proofs.YtgekdmjneogdoaaGreatDoor

namespace Go.Proofs.YtgekdmjneogdoaaGreatDoor
open Go.RowKit

/-! decimal.set of a decimal text -/
theorem DecT.sets {l : List UInt8} {neg : Bool} {A B T : List UInt8} {x : Int} (h : DecT l neg A B T x) (hN : expVal 0 (A ++ B) ≠ 0) :
    ∃ nd0 : Nat, nd0 ≤ 40 ∧ ∀ (u : World) (b0 : Nat), DM u b0 (fun _ => 0) 0 0 false false → Calls Tryz.prog 280 #[.pointer (some ⟨b0, 0, none⟩), .string (bs l)] u fun e w' => e = .returned (.bool true) ∧ DecW w' b0 (expVal 0 (A ++ B)) nd0 (nd0 + (x - B.length)) neg ∧ Kept (But b0) u w' := by
  obtain ⟨b1, b2⟩ := h.bytes
  obtain ⟨st, c, r, s1, s2, s3, s4⟩ := rf_body A B T x h.dA h.nA h.dB h.tail
  have s5 := run2_body A B T x h.dA h.dB h.tail st s1
  have hsz := bs_size l
  have hlen := h.len
  have hR2 : T = [] ∨ ∃ r, T = 101 :: r := by
    rcases h.tail with ⟨h, _⟩ | ⟨R, _, _, h, _, _⟩
    · exact Or.inl h
    · exact Or.inr ⟨R, h⟩
  have hx0 : T = [] → x = 0 := by
    intro h0
    rcases h.tail with ⟨_, h⟩ | ⟨R, _, _, h, _, _⟩
    · exact h
    · rw [h0] at h; cases h
  have hE : ∀ r, T = 101 :: r → ∃ es ds, ExpOk r es ds ∧ x = es * (expVal 0 ds : Int) := by
    intro r hr
    rcases h.tail with ⟨h, _⟩ | ⟨R, es, ds, h, h2, h3⟩
    · rw [hr] at h; cases h
    · rw [hr] at h
      injection h with _ h
      subst h
      exact ⟨es, ds, h2, h3⟩
  -- the number of digits
  have hv := s2.val
  have hrem := s2.rem
  have hnm : st.nm ≠ 0 := by
    intro z
    have h1 := s2.m
    rw [z] at h1
    have hm : st.m = 0 := by simpa using h1
    have hc : c = 0 := by
      rcases Nat.eq_zero_or_pos c with q | q
      · exact q
      · have := s2.cap (by omega); omega
    rw [hm, hc] at hv
    rw [hc] at hrem
    simp at hrem
    apply hN
    rw [hv, hrem]
  have hlead := s2.lead hnm
  have hm10 := s2.m
  have hnd := s2.nd
  have hlo : 10 ^ (st.nd - 1) ≤ expVal 0 (A ++ B) := by
    rw [hv, show st.nd - 1 = (st.nm - 1) + c by omega, Nat.pow_add]
    exact Nat.le_trans (Nat.mul_le_mul_right _ hlead) (Nat.le_add_right _ _)
  have hhi : expVal 0 (A ++ B) < 10 ^ st.nd := by
    rw [hv, hnd, Nat.pow_add]
    have : (st.m + 1) * 10 ^ c ≤ 10 ^ st.nm * 10 ^ c := Nat.mul_le_mul_right _ hm10
    rw [Nat.add_mul, Nat.one_mul] at this
    omega
  have hab : (A ++ B).length ≤ 40 := by
    have := h.eq
    rw [this] at hlen
    unfold decBody at hlen
    simp only [List.length_append] at hlen ⊢
    by_cases hb : B = []
    · rw [hb] at hlen ⊢
      simp at hlen ⊢
      omega
    · rw [if_neg hb] at hlen
      simp only [List.length_cons] at hlen
      omega
  have hn40 : st.nd ≤ 40 := by
    have h1 := expVal_lt (A ++ B) 0 (fun c hc => by
      rcases List.mem_append.1 hc with q | q
      · exact (h.dA c q).2
      · exact (h.dB c q).2)
    have h2 : 10 ^ (st.nd - 1) < 10 ^ (A ++ B).length := Nat.lt_of_le_of_lt hlo (by omega)
    have := (Nat.pow_lt_pow_iff_right (by omega : 1 < 10)).1 h2
    omega
  have hF : (if st.sd then st.dp else (st.nd : Int)) + x = (st.nd : Int) + (x - B.length) := by
    cases hsd : st.sd
    · rw [s4 hsd]
      simp
    · rw [s2.dp hsd]
      simp
      omega
  have done : ∀ (w' : World) (b0 : Nat), (∃ a, DM w' b0 a st.nd ((st.nd : Int) + (x - B.length)) neg false ∧ DigsOf a (expVal 0 (A ++ B)) st.nd) → DecW w' b0 (expVal 0 (A ++ B)) st.nd (st.nd + (x - B.length)) neg := fun w' b0 hd => ⟨hd, hlo, hhi, by omega, by omega⟩
  refine ⟨st.nd, hn40, fun u b0 hM => ?_⟩
  cases hA : A with
  | nil => exact absurd hA h.nA
  | cons a A' =>
    have ha := h.dA a (by rw [hA]; exact List.mem_cons_self)
    rw [← hA]
    cases neg
    · have hl : l = a :: (A' ++ ((if B = [] then [] else 46 :: B) ++ T)) := by rw [h.eq, hA]; simp [decBody]
      have h0 : 0 < (bs l).size := by rw [hsz, hl]; simp
      have g0 : (bs l)[0] = a := (bs_get l 0 h0 (by rw [hl]; simp)).trans (by simp [hl])
      refine (set_pos (bs l) u b0 (fun _ => 0) false false (st, expVal 0 (A ++ B), T) x _ h0 (by omega) (by rw [g0]; omega) (by rw [g0]; omega) b2 ?_ hR2 s3 hx0 hE hF hM).mono ?_
      · rw [bs_list, List.drop_zero, h.eq]
        exact s5
      · rintro e w' ⟨he, hd, hk⟩
        exact ⟨he, done w' b0 hd, hk⟩
    · have hl : l = 45 :: a :: (A' ++ ((if B = [] then [] else 46 :: B) ++ T)) := by rw [h.eq, hA]; simp [decBody]
      have h0 : 1 < (bs l).size := by rw [hsz, hl]; simp
      have g0 : (bs l)[0] = 45 := (bs_get l 0 (by omega) (by rw [hl]; simp)).trans (by simp [hl])
      refine (set_neg (bs l) u b0 (fun _ => 0) false false (st, expVal 0 (A ++ B), T) x _ h0 (by omega) (by rw [g0]; rfl) b2 ?_ hR2 s3 hx0 hE hF hM).mono ?_
      · rw [bs_list, h.eq]
        exact s5
      · rintro e w' ⟨he, hd, hk⟩
        exact ⟨he, done w' b0 hd, hk⟩
end Go.Proofs.YtgekdmjneogdoaaGreatDoor

namespace Go.Proofs.YtgekdmjneogdoaaGreatDoor
open Go.RowKit

/-! Number at any decimal text -/
theorem order_same (neg : Bool) (v v' : Nat) (h : v ≤ 9218868437227405312) (h' : v' ≤ 9218868437227405312) (e : (FloatKind.f64.format.order (sgn neg + v) (sgn neg + v') == some .eq) = true) : v = v' := by
  have hs : sgn neg = 0 ∨ sgn neg = 9223372036854775808 := by cases neg <;> simp [sgn]
  have n1 : isNum (sgn neg + v) := by
    rcases hs with q | q <;> rw [q] <;> exact ⟨by omega, by omega⟩
  have n2 : isNum (sgn neg + v') := by
    rcases hs with q | q <;> rw [q] <;> exact ⟨by omega, by omega⟩
  rw [order_eq _ _ n1 n2, beq_iff_eq] at e
  have e2 := Option.some.inj e
  have e3 : ordI (sgn neg + v) = ordI (sgn neg + v') := Int.compare_eq_eq.1 e2
  unfold ordI at e3
  rcases hs with q | q
  · rw [q, if_neg (by omega), if_neg (by omega)] at e3; omega
  · rw [q, if_pos (by omega), if_pos (by omega)] at e3; omega

theorem number_any {l : List UInt8} {neg : Bool} {A B T : List UInt8} {x : Int} (h : DecT l neg A B T x) (w : World) (ht : Tabs w) (hW : SlowW w) :
    ∃ (v : Nat) (ov : Bool), Atof (bs l) (sgn neg + v) ov w ∧ NearV (expVal 0 (A ++ B) * 10 ^ (x - B.length).toNat) (10 ^ (-(x - B.length)).toNat) v := by
  obtain ⟨hS, m, p, tr, c, r, hRd, hN⟩ := h.reads
  have hsets := h.sets
  generalize expVal 0 (A ++ B) = N at *
  generalize x - (B.length : Int) = y at *
  cases tr with
  | false =>
    obtain ⟨v, ov, h1, h2⟩ := atof_plain (bs l) m p neg w hS hRd ht hN.lt
    exact ⟨v, ov, h1, hN.near h2⟩
  | true =>
    have hr : r ≠ 0 := by have := hN.tr; simpa using this
    have hc : c ≠ 0 := by
      intro z
      have := hN.rem
      rw [z] at this
      simp at this
      exact hr this
    have hbig := hN.big hc
    have hlt := hN.lt
    have hp := hN.pow (by omega)
    have hval := hN.val
    have hrem := hN.rem
    have hN0 : N ≠ 0 := by omega
    have hY : 0 < 10 ^ (-y).toNat := Nat.pow_pos (by omega)
    have hPc : 0 < 10 ^ c := Nat.pow_pos (by omega)
    have hm0 : ((m : Int) == 0) = false := by rw [beq_eq_false_iff_ne]; omega
    have hNlo : m * 10 ^ c ≤ N := by omega
    have hNhi : N < (m + 1) * 10 ^ c := by rw [Nat.add_mul, Nat.one_mul]; omega
    by_cases hp1 : 310 < p
    · refine ⟨9218868437227405312, true, ?_, ?_⟩
      · refine (atof_over (bs l) m (sgn neg) p neg true w hS hRd ht.opt (sgn_wrap neg) _ hm0 hp1 (or_inf_sgn neg)).mono ?_
        rintro e w' ⟨rfl, rfl⟩
        exact ⟨rfl, Below.refl _ _⟩
      · refine near_huge _ _ p.toNat (by omega) ?_
        rw [← Nat.pow_add, show (-y).toNat + p.toNat = c + y.toNat by omega, Nat.pow_add]
        refine Nat.mul_le_mul_right _ (Nat.le_trans ?_ hNlo)
        exact Nat.le_mul_of_pos_left _ (by omega)
    · by_cases hp2 : p < -345
      · refine ⟨0, false, ?_, ?_⟩
        · refine (atof_under (bs l) m (sgn neg) p neg true w hS hRd ht.opt (sgn_wrap neg) hm0 hp2 (or0 _ (sgn_lt neg))).mono ?_
          rintro e w' ⟨rfl, rfl⟩
          exact ⟨rfl, Below.refl _ _⟩
        · refine near_tiny _ _ (-p).toNat (by omega) ?_
          rw [show y.toNat = 0 by omega, Nat.pow_zero, Nat.mul_one, show (-y).toNat = c + (-p).toNat by omega, Nat.pow_add, ← Nat.mul_assoc]
          refine Nat.mul_lt_mul_of_pos_right (Nat.lt_of_lt_of_le hNhi ?_) (Nat.pow_pos (by omega))
          exact Nat.mul_le_mul_right _ (by omega)
      · obtain ⟨v1, o1, a1, a2, a3⟩ := parse_all m p neg w ht (by omega) (by omega) (by omega) (by omega)
        obtain ⟨v2, o2, b1, b2, b3⟩ := parse_all (m + 1) p neg w ht (by omega) (by omega) (by omega) (by omega)
        have hm1 : IntKind.u64.wrap ((m : Int) + 1) = ((m + 1 : Nat) : Int) := by
          show ((m : Int) + 1) % 18446744073709551616 = _
          omega
        cases heq : (FloatKind.f64.format.order (sgn neg + v1) (sgn neg + v2) == some .eq) with
        | true =>
          have hv := order_same neg v1 v2 a3 b3 heq
          subst hv
          refine ⟨v1, o1, atof_trunc (bs l) m (sgn neg) p neg true w hS hRd ht.opt (sgn_wrap neg) hm0 (by omega) (by omega) rfl _ _ (a1 w (Below.refl _ _)) _ _ _ hm1 b1 heq, ?_⟩
          have e : ∀ j : Nat, j * 10 ^ p.toNat * 10 ^ (-y).toNat = j * 10 ^ c * (10 ^ y.toNat * 10 ^ (-p).toNat) := fun j => by
            rw [Nat.mul_assoc, Nat.mul_assoc, ← Nat.pow_add, ← Nat.pow_add, ← Nat.pow_add]
            congr 2
            omega
          refine near_between hY (Nat.pow_pos (by omega)) (Nat.pow_pos (by omega)) a2 b2 ?_ ?_
          · rw [e, Nat.mul_assoc N]
            exact Nat.mul_le_mul_right _ hNlo
          · rw [e, Nat.mul_assoc N]
            exact Nat.mul_le_mul_right _ (Nat.le_of_lt hNhi)
        | false =>
          obtain ⟨nd0, hn40, hset⟩ := hsets hN0
          have hA := atof_slow (bs l) m (sgn neg) p neg true w hS hRd ht.opt (sgn_wrap neg) hm0 (by omega) (by omega) rfl _ _ (a1 w (Below.refl _ _)) _ _ _ hm1 b1 heq hW N nd0 y hn40 hset
          obtain ⟨_, _, _, ⟨⟨v, hv, _⟩, _⟩, _⟩ := hA []
          refine ⟨v, decide (v = 9218868437227405312), hA.mono ?_, hv⟩
          rintro e w' ⟨⟨v', hv', he⟩, hb⟩
          have := near_unique hY hY hv hv' rfl
          subst this
          exact ⟨he, hb⟩
end Go.Proofs.YtgekdmjneogdoaaGreatDoor

namespace Go.Proofs.YtgekdmjneogdoaaGreatDoor
open Go.RowKit

/-- Number at any decimal text: one value, wherever it is asked -/
theorem number_calls {l : List UInt8} {neg : Bool} {A B T : List UInt8} {x : Int} (h : DecT l neg A B T x) (w : World) (ht : Tabs w) (hW : SlowW w) :
    ∃ v : Nat, NearV (expVal 0 (A ++ B) * 10 ^ (x - B.length).toNat) (10 ^ (-(x - B.length)).toNat) v ∧
      ∀ u, Below w.heap.size w u → Calls Tryz.prog 18 #[.string (bs l)] u fun e w' => e = .returned (.tuple #[.int .u64 (sgn neg + v : Nat), .int .i64 0]) ∧ Below u.heap.size u w' := by
  obtain ⟨v, ov, h1, h2⟩ := number_any h w ht hW
  refine ⟨v, h2, fun u hb => ?_⟩
  obtain ⟨v', ov', h3, h4⟩ := number_any h u (ht.below hb) (hW.below hb)
  have hY : 0 < 10 ^ (-(x - (B.length : Int))).toNat := Nat.pow_pos (by omega)
  have := near_unique hY hY h2 h4 rfl
  subst this
  obtain ⟨w1, w2, w3⟩ := h.words
  have hl := bs_list l
  exact num_dec (bs l) _ ov' u (ht.below hb) (by rw [bs_size]; exact h.len) (by rw [hl]; exact w1) (by rw [hl]; exact w2) (by rw [hl]; exact w3) (by rw [hl]; exact h.isDec) h3
end Go.Proofs.YtgekdmjneogdoaaGreatDoor
