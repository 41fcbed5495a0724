import Derived.Test.YtgekdmjneogdoaaGreatDoorYOc2
import Derived.Test.YtgekdmjneogdoaaGreatDoorYPk
namespace Go.Proofs.YtgekdmjneogdoaaGreatDoor
open Go.RowKit

/-! text of gaugekeep: a number's digits -/
def textN (n : Nat) : List UInt8 := if n ≤ 9 then [dg1 n] else if n ≤ 99 then [dg1 (n / 10), dg1 (n % 10)] else [dg1 (n / 100), dg1 (n / 10 % 10), dg1 (n % 10)]

theorem textN_one {n : Nat} (h : n ≤ 9) : textN n = [dg1 n] := by unfold textN; rw [if_pos h]
theorem textN_step {m : Nat} (h : 9 < m) (h2 : m ≤ 999) : textN m = textN (m / 10) ++ [dg1 (m % 10)] := by
  by_cases h3 : m ≤ 99
  · rw [textN_one (by omega : m / 10 ≤ 9)]
    unfold textN
    rw [if_neg (by omega), if_pos h3]
    rfl
  · have e : m / 10 / 10 = m / 100 := by omega
    unfold textN
    rw [if_neg (by omega), if_neg h3, if_neg (by omega), if_pos (by omega), e]
    rfl
theorem textN_len (n : Nat) : (textN n).length ≤ 3 := by
  unfold textN
  by_cases h : n ≤ 9
  · rw [if_pos h]; simp
  · rw [if_neg h]
    by_cases h2 : n ≤ 99
    · rw [if_pos h2]; simp
    · rw [if_neg h2]; simp


theorem dg1_nat {k : Nat} (h : k < 10) : (dg1 k).toNat = 48 + k := by
  unfold dg1
  rw [UInt8.toNat_ofNat']
  omega

theorem textN_val1 {n : Nat} (h : n ≤ 9) : expVal 0 (textN n) = n := by
  rw [textN_one h]
  exact expVal_step [] (by rw [dg1_nat (by omega)]; omega)
theorem textN_valS {m : Nat} (h : 9 < m) (h2 : m ≤ 999) (hv : expVal 0 (textN (m / 10)) = m / 10) : expVal 0 (textN m) = m := by
  rw [textN_step h h2, expVal_app, hv]
  exact expVal_step [] (by rw [dg1_nat (by omega)]; omega)
theorem textN_val2 {n : Nat} (h : n ≤ 99) : expVal 0 (textN n) = n := by
  by_cases h1 : n ≤ 9
  · exact textN_val1 h1
  · exact textN_valS (by omega) (by omega) (textN_val1 (by omega))
theorem textN_val {n : Nat} (h : n ≤ 999) : expVal 0 (textN n) = n := by
  by_cases h1 : n ≤ 9
  · exact textN_val1 h1
  · exact textN_valS (by omega) (by omega) (textN_val2 (by omega))

theorem textN_digs {n : Nat} (h : n ≤ 999) : Digs (textN n) := by
  intro c hc
  unfold textN at hc
  by_cases h1 : n ≤ 9
  · rw [if_pos h1] at hc
    simp only [List.mem_cons, List.not_mem_nil, or_false] at hc
    subst hc
    exact dg1_dig _ (by omega)
  · rw [if_neg h1] at hc
    by_cases h2 : n ≤ 99
    · rw [if_pos h2] at hc
      simp only [List.mem_cons, List.not_mem_nil, or_false] at hc
      rcases hc with rfl | rfl
      · exact dg1_dig _ (by omega)
      · exact dg1_dig _ (by omega)
    · rw [if_neg h2] at hc
      simp only [List.mem_cons, List.not_mem_nil, or_false] at hc
      rcases hc with rfl | rfl | rfl
      · exact dg1_dig _ (by omega)
      · exact dg1_dig _ (by omega)
      · exact dg1_dig _ (by omega)

theorem textN_some (n : Nat) : textN n ≠ [] := by
  unfold textN
  by_cases h1 : n ≤ 9
  · rw [if_pos h1]; simp
  · rw [if_neg h1]
    by_cases h2 : n ≤ 99
    · rw [if_pos h2]; simp
    · rw [if_neg h2]; simp

set_option maxRecDepth 20000 in
set_option maxHeartbeats 800000 in
theorem text_pos (n : Nat) (w : World) (hn : n ≤ 999) :
    Calls Tryz.prog 23 #[.int .i64 n] w fun e w' => e = .returned (.string (bs (textN n))) ∧ ∃ q, w' = w.drewN q := by
  go_enter Tryz.func23, Tryz.ntmps23
  go_wp2_with fail
  go_loopw [0, 3] (fun iv sv wr => ∃ (m q : Nat) (s : List UInt8), m ≤ n ∧ s.length ≤ 3 ∧ Hid (textN m ++ s = textN n) ∧ iv = .int .i64 (m : Int) ∧ sv = .string (bs s) ∧ wr = w.drewN q) (fun iv _ _ => (intOf iv).toNat)
  case atStart => exact ⟨n, 0, [], by omega, by simp, by rw [List.append_nil]; exact hide rfl, rfl, rfl, rfl⟩
  case round =>
    obtain ⟨m, q, s, hm, hs, HT, rfl, rfl, hw⟩ := hrel
    rw [hw]
    clear hw
    have hbs := bs_size s
    by_cases h9 : 9 < m
    · have HS := hide (textN_step h9 (by omega))
      have h10 : m % 10 < 10 := Nat.mod_lt _ (by omega)
      have HL := hide (textN_len n)
      go_wp2_with fail
      have e1 : (ByteArray.mk #[48, 49, 50, 51, 52, 53, 54, 55, 56, 57]).extract (m % 10) (m % 10 + 1) ++ bs s = bs (dg1 (m % 10) :: s) := by
        rw [show (ByteArray.mk #[48, 49, 50, 51, 52, 53, 54, 55, 56, 57]).extract (m % 10) (m % 10 + 1) = bs [dg1 (m % 10)] from ext_dg ⟨m % 10, h10⟩, bs_plus]
        rfl
      have e2 : textN (m / 10) ++ dg1 (m % 10) :: s = textN n := by
        rw [← unhide HT, unhide HS, List.append_assoc]
        rfl
      have e3 : (dg1 (m % 10) :: s).length ≤ 3 := by
        have h1 := unhide HL
        rw [← e2, List.length_append] at h1
        omega
      refine ⟨⟨m / 10, q, dg1 (m % 10) :: s, by omega, e3, hide e2, by go_num, congrArg Value.string e1, rfl⟩, ?_⟩
      simp [intOf]
      omega
    · go_wp2_with fail
      go_ret
      refine ⟨congrArg (fun z => Ending.returned (Value.string z)) ?_, _, rfl⟩
      rw [show (ByteArray.mk #[48, 49, 50, 51, 52, 53, 54, 55, 56, 57]).extract m (m + 1) = bs [dg1 m] from ext_dg ⟨m, by omega⟩, bs_plus, ← unhide HT, textN_one (by omega)]

/-- a number's text, with a sign where it is below nought -/
def textI (n : Int) : List UInt8 := if n < 0 then 45 :: textN (-n).toNat else textN n.toNat

theorem textI_len (n : Int) : (textI n).length ≤ 4 := by
  unfold textI
  have h1 := textN_len (-n).toNat
  have h2 := textN_len n.toNat
  by_cases h : n < 0
  · rw [if_pos h, List.length_cons]; omega
  · rw [if_neg h]; omega

theorem textI_tail {n : Int} (h1 : -999 ≤ n) (h2 : n ≤ 999) : TailOk ([101] ++ textI n) n := by
  unfold textI
  by_cases h : n < 0
  · rw [if_pos h]
    obtain ⟨m, rfl⟩ : ∃ m : Nat, n = -(m : Int) := ⟨(-n).toNat, by omega⟩
    rw [Int.neg_neg, Int.toNat_natCast]
    have hm : m ≤ 999 := by omega
    have hl := textN_len m
    exact Or.inr ⟨45 :: textN m, -1, textN m, rfl, ⟨Or.inr (Or.inl ⟨rfl, rfl⟩), textN_some m, by omega, textN_digs hm⟩, by rw [textN_val hm]; omega⟩
  · rw [if_neg h]
    obtain ⟨m, rfl⟩ : ∃ m : Nat, n = (m : Int) := ⟨n.toNat, by omega⟩
    rw [Int.toNat_natCast]
    have hm : m ≤ 999 := by omega
    have hl := textN_len m
    exact Or.inr ⟨textN m, 1, textN m, rfl, ⟨Or.inr (Or.inr ⟨rfl, rfl⟩), textN_some m, by omega, textN_digs hm⟩, by rw [textN_val hm]; omega⟩

set_option maxRecDepth 20000 in
set_option maxHeartbeats 800000 in
theorem text_any (n : Int) (w : World) (hn1 : -999 ≤ n) (hn2 : n ≤ 999) :
    Calls Tryz.prog 23 #[.int .i64 n] w fun e w' => e = .returned (.string (bs (textI n))) ∧ ∃ q, w' = w.drewN q := by
  by_cases h : n < 0
  · obtain ⟨m, hm⟩ : ∃ m : Nat, n = -(m : Int) := ⟨(-n).toNat, by omega⟩
    subst hm
    have e1 : textI (-(m : Int)) = 45 :: textN m := by unfold textI; rw [if_pos h, Int.neg_neg, Int.toNat_natCast]
    have h1 : 0 < m := by omega
    have h2 : m ≤ 999 := by omega
    have HT := fun u => hide (text_pos m u h2)
    have hs : (bs (textN m)).size = (textN m).length := bs_size _
    have hl := textN_len m
    rw [e1]
    clear h hn1 hn2 e1
    generalize textN m = T at *
    go_enter Tryz.func23, Tryz.ntmps23
    go_wp2_with fail
    refine (unhide (HT _)).mono ?_
    rintro e w1 ⟨rfl, q, hw⟩
    rw [hw]
    clear hw
    go_wp2_with fail
    go_ret
    exact ⟨congrArg (fun z => Ending.returned (Value.string z)) (bs_plus [45] T), _, rfl⟩
  · obtain ⟨m, rfl⟩ : ∃ m : Nat, n = (m : Int) := ⟨n.toNat, by omega⟩
    have e1 : textI (m : Int) = textN m := by unfold textI; rw [if_neg h, Int.toNat_natCast]
    rw [e1]
    exact text_pos m w (by omega)
end Go.Proofs.YtgekdmjneogdoaaGreatDoor

namespace Go.Proofs.YtgekdmjneogdoaaGreatDoor
open Go.RowKit

/-! Spelled, walked -/
set_option maxRecDepth 20000 in
set_option maxHeartbeats 1600000 in
theorem spelled_walk (av bv : Value) (n : Int) (X Y : List UInt8) (r u : Nat) (w : World)
    (hA : Calls Tryz.prog 16 #[] w fun e w' => e = .returned (.bool true) ∧ Below w.heap.size w w')
    (hX : ∀ u, Below w.heap.size w u → Calls Tryz.prog 20 #[av, .int .i64 12] u fun e w' => e = .returned (.string (bs X)) ∧ ∃ q, w' = u.drewN q)
    (hY : ∀ u, Below w.heap.size w u → Calls Tryz.prog 20 #[bv, .int .i64 12] u fun e w' => e = .returned (.string (bs Y)) ∧ ∃ q, w' = u.drewN q)
    (hP : ∀ u, Calls Tryz.prog 22 #[.int .i64 n, .int .i64 600] u fun e w' => e = .returned (.int .i64 r) ∧ w' = u)
    (hr : r < 600) (lX : X.length ≤ 12) (lY : Y.length ≤ 12)
    (n1 : NumAt (X ++ [46] ++ Y ++ [101] ++ textI ((r : Int) - 300)) u w) (n2 : NumAt (X ++ Y ++ [101] ++ textI ((r : Int) - 300 - Y.length)) u w)
    (n3 : NumAt (X ++ [46] ++ Y ++ [48, 48, 101] ++ textI ((r : Int) - 300)) u w) (n4 : NumAt ([48, 46] ++ X ++ Y ++ [101] ++ textI ((r : Int) - 300 + X.length)) u w) :
    Calls Tryz.prog 7 #[av, bv, .int .i64 n] w fun e w' => e = .returned (.bool true) ∧ Below w.heap.size w w' := by
  have T1 := fun u => hide (text_any ((r : Int) - 300) u (by omega) (by omega))
  have T2 := fun u => hide (text_any ((r : Int) - 300 - Y.length) u (by omega) (by omega))
  have T3 := fun u => hide (text_any ((r : Int) - 300 + X.length) u (by omega) (by omega))
  have l1 := textI_len ((r : Int) - 300)
  have l2 := textI_len ((r : Int) - 300 - Y.length)
  have l3 := textI_len ((r : Int) - 300 + X.length)
  generalize textI ((r : Int) - 300) = A1 at *
  generalize textI ((r : Int) - 300 - Y.length) = A2 at *
  generalize textI ((r : Int) - 300 + X.length) = A3 at *
  have s1 := bs_size A1
  have s2 := bs_size A2
  have s3 := bs_size A3
  have s4 := bs_size X
  have s5 := bs_size Y
  have HA := hide hA
  have HX := hide hX
  have HY := hide hY
  have HP := hide hP
  have N1 := hide n1
  have N2 := hide n2
  have N3 := hide n3
  have N4 := hide n4
  clear hA hX hY hP n1 n2 n3 n4
  go_enter Tryz.func7, Tryz.ntmps7
  go_wp2_with fail
  refine (unhide HA).mono ?_
  rintro e w1 ⟨rfl, hb1⟩
  have HB1 := hide hb1
  clear hb1 HA
  go_wp2_with fail
  refine (unhide HX w1 (unhide HB1)).mono ?_
  rintro e w2 ⟨rfl, q2, hw⟩
  rw [hw]
  clear hw HX
  go_wp2_with fail
  refine (unhide HY _ (below_drewN (unhide HB1) _)).mono ?_
  rintro e w3 ⟨rfl, q3, hw⟩
  rw [hw]
  clear hw HY
  go_wp2_with fail
  refine (unhide HP _).mono ?_
  rintro e w3 ⟨rfl, hw⟩
  rw [hw]
  clear hw HP
  go_wp2_with fail
  refine (unhide (T1 _)).mono ?_
  rintro e w4 ⟨rfl, q4, hw⟩
  rw [hw]
  clear hw
  go_wp2_with fail
  rw [show bs X ++ (ByteArray.mk #[46]) = bs (X ++ [46]) from bs_plus X [46], bs_plus (X ++ [46]) Y, show bs (X ++ [46] ++ Y) ++ (ByteArray.mk #[101]) = bs (X ++ [46] ++ Y ++ [101]) from bs_plus (X ++ [46] ++ Y) [101], bs_plus (X ++ [46] ++ Y ++ [101]) A1]
  refine (unhide N1 _ (below_drewN (unhide HB1) _)).mono ?_
  rintro e w5 ⟨rfl, hb⟩
  have HB5 : Hid (Below w.heap.size w w5) := (below_drewN (unhide HB1) _).trans (hb.mono (below_drewN (unhide HB1) _).size)
  clear hb HB1 N1
  go_wp2_with fail
  refine (unhide (T2 _)).mono ?_
  rintro e w6 ⟨rfl, q6, hw⟩
  rw [hw]
  clear hw T2
  go_wp2_with fail
  rw [bs_plus X Y, show bs (X ++ Y) ++ (ByteArray.mk #[101]) = bs (X ++ Y ++ [101]) from bs_plus (X ++ Y) [101], bs_plus (X ++ Y ++ [101]) A2]
  refine (unhide N2 _ (below_drewN (unhide HB5) _)).mono ?_
  rintro e w7 ⟨rfl, hb⟩
  have HB7 : Hid (Below w.heap.size w w7) := (below_drewN (unhide HB5) _).trans (hb.mono (below_drewN (unhide HB5) _).size)
  clear hb HB5 N2
  go_wp2_with fail
  refine (unhide (T1 _)).mono ?_
  rintro e w8 ⟨rfl, q8, hw⟩
  rw [hw]
  clear hw T1
  go_wp2_with fail
  try rw [show bs X ++ (ByteArray.mk #[46]) = bs (X ++ [46]) from bs_plus X [46]]
  try rw [bs_plus (X ++ [46]) Y]
  rw [show bs (X ++ [46] ++ Y) ++ (ByteArray.mk #[48, 48, 101]) = bs (X ++ [46] ++ Y ++ [48, 48, 101]) from bs_plus (X ++ [46] ++ Y) [48, 48, 101], bs_plus (X ++ [46] ++ Y ++ [48, 48, 101]) A1]
  refine (unhide N3 _ (below_drewN (unhide HB7) _)).mono ?_
  rintro e w9 ⟨rfl, hb⟩
  have HB9 : Hid (Below w.heap.size w w9) := (below_drewN (unhide HB7) _).trans (hb.mono (below_drewN (unhide HB7) _).size)
  clear hb HB7 N3
  go_wp2_with fail
  refine (unhide (T3 _)).mono ?_
  rintro e w10 ⟨rfl, q10, hw⟩
  rw [hw]
  clear hw T3
  go_wp2_with fail
  rw [show (ByteArray.mk #[48, 46]) ++ bs X = bs ([48, 46] ++ X) from bs_plus [48, 46] X, bs_plus ([48, 46] ++ X) Y, show bs ([48, 46] ++ X ++ Y) ++ (ByteArray.mk #[101]) = bs ([48, 46] ++ X ++ Y ++ [101]) from bs_plus ([48, 46] ++ X ++ Y) [101], bs_plus ([48, 46] ++ X ++ Y ++ [101]) A3]
  refine (unhide N4 _ (below_drewN (unhide HB9) _)).mono ?_
  rintro e w11 ⟨rfl, hb⟩
  have HB11 : Hid (Below w.heap.size w w11) := (below_drewN (unhide HB9) _).trans (hb.mono (below_drewN (unhide HB9) _).size)
  clear hb HB9 N4
  go_wp2_with fail
  all_goals first | (go_ret; exact ⟨rfl, unhide HB11⟩) | (exfalso; omega)
end Go.Proofs.YtgekdmjneogdoaaGreatDoor

namespace Go.Proofs.YtgekdmjneogdoaaGreatDoor
open Go.RowKit

/-! Spelled -/
theorem near_noughts {N : Nat} {y : Int} {v1 v2 : Nat} (h1 : NearV (N * 10 ^ y.toNat) (10 ^ (-y).toNat) v1) (h2 : NearV (N * 10 ^ 2 * 10 ^ (y - 2).toNat) (10 ^ (-(y - 2)).toNat) v2) : v1 = v2 := by
  refine near_unique (Nat.pow_pos (by omega)) (Nat.pow_pos (by omega)) h1 h2 ?_
  rw [Nat.mul_assoc, Nat.mul_assoc, Nat.mul_assoc, ← Nat.pow_add, ← Nat.pow_add, ← Nat.pow_add]
  congr 2
  omega

theorem num_point {neg : Bool} {l A B T : List UInt8} {x y : Int} {N : Nat} (h : DecT l neg A B T x) (hN : expVal 0 (A ++ B) = N) (hy : x - (B.length : Int) = y) (w : World) (ht : Tabs w) (hW : SlowW w) : ∃ v, NearV (N * 10 ^ y.toNat) (10 ^ (-y).toNat) v ∧ NumAt l (sgn neg + v) w := by
  obtain ⟨v, h1, h2⟩ := number_calls h w ht hW
  rw [hN, hy] at h1
  exact ⟨v, h1, h2⟩

theorem expVal_two (N : Nat) : expVal N [48, 48] = N * 10 ^ 2 :=
  (expVal_step [48] (k := N * 10) rfl).trans ((expVal_step [] (k := N * 10 * 10) rfl).trans (Nat.mul_assoc N 10 10))

theorem app_digs {A B : List UInt8} (h1 : Digs A) (h2 : Digs B) : Digs (A ++ B) := by
  intro c hc
  rcases List.mem_append.1 hc with h | h
  · exact h1 c h
  · exact h2 c h

theorem spelled_ok (av bv : Value) (la lb : List Int) (n : Int) (w : World) (h1 : -9223372036854775808 ≤ n) (h2 : n ≤ 9223372036854775807)
    (ha : RdI (Under w) w av la) (hb : RdI (Under w) w bv lb) (za : ∀ c ∈ la, -9223372036854775808 ≤ c ∧ c ≤ 9223372036854775807) (zb : ∀ c ∈ lb, -9223372036854775808 ≤ c ∧ c ≤ 9223372036854775807) (ka : la.length ≤ 9223372036854775807) (kb : lb.length ≤ 9223372036854775807)
    (hT : Tabs w) (hC : CTabs w) (hG : GK (Under w)) (hS : SortsTo [halfN, halfN] [halfN]) (hW : SlowW w) :
    Calls Tryz.prog 7 #[av, bv, .int .i64 n] w fun e w' => e = .returned (.bool true) ∧ Below w.heap.size w w' := by
  obtain ⟨X, eX⟩ : ∃ X, digT la 12 = X := ⟨_, rfl⟩
  obtain ⟨Y, eY⟩ : ∃ Y, digT lb 12 = Y := ⟨_, rfl⟩
  have dX : Digs X := by rw [← eX]; exact digT_digs la 12
  have dY : Digs Y := by rw [← eY]; exact digT_digs lb 12
  have lX : 1 ≤ X.length ∧ X.length ≤ 12 := by rw [← eX]; exact digT_len la 12 (by omega)
  have lY : 1 ≤ Y.length ∧ Y.length ≤ 12 := by rw [← eY]; exact digT_len lb 12 (by omega)
  have nX : X ≠ [] := by intro e; rw [e] at lX; simp at lX
  have nY : Y ≠ [] := by intro e; rw [e] at lY; simp at lY
  have hr := pickN_lt n 600 (by omega)
  obtain ⟨r, er⟩ : ∃ r, pickN n 600 = r := ⟨_, rfl⟩
  rw [er] at hr
  have t1 := textI_len ((r : Int) - 300)
  have t2 := textI_len ((r : Int) - 300 - Y.length)
  have t3 := textI_len ((r : Int) - 300 + X.length)
  have d00 : Digs [48, 48] := by
    intro c hc
    simp only [List.mem_cons, List.not_mem_nil, or_false] at hc
    rcases hc with rfl | rfl <;> decide
  have d0 : Digs [48] := by
    intro c hc
    simp only [List.mem_cons, List.not_mem_nil, or_false] at hc
    subst hc
    decide
  have D1 : DecT (X ++ [46] ++ Y ++ [101] ++ textI ((r : Int) - 300)) false X Y ([101] ++ textI ((r : Int) - 300)) ((r : Int) - 300) := by
    refine ⟨?_, dX, nX, dY, textI_tail (by omega) (by omega), ?_⟩
    · unfold decBody; rw [if_neg nY]; simp
    · simp only [List.length_append, List.length_cons, List.length_nil]; omega
  have D2 : DecT (X ++ Y ++ [101] ++ textI ((r : Int) - 300 - Y.length)) false (X ++ Y) [] ([101] ++ textI ((r : Int) - 300 - Y.length)) ((r : Int) - 300 - Y.length) := by
    refine ⟨?_, app_digs dX dY, by simp [nX], fun c hc => (by cases hc), textI_tail (by omega) (by omega), ?_⟩
    · unfold decBody; rw [if_pos rfl]; simp
    · simp only [List.length_append, List.length_cons, List.length_nil]; omega
  have D3 : DecT (X ++ [46] ++ Y ++ [48, 48, 101] ++ textI ((r : Int) - 300)) false X (Y ++ [48, 48]) ([101] ++ textI ((r : Int) - 300)) ((r : Int) - 300) := by
    refine ⟨?_, dX, nX, app_digs dY d00, textI_tail (by omega) (by omega), ?_⟩
    · unfold decBody; rw [if_neg (show ¬ (Y ++ [48, 48] = []) by simp)]; simp
    · simp only [List.length_append, List.length_cons, List.length_nil]; omega
  have D4 : DecT ([48, 46] ++ X ++ Y ++ [101] ++ textI ((r : Int) - 300 + X.length)) false [48] (X ++ Y) ([101] ++ textI ((r : Int) - 300 + X.length)) ((r : Int) - 300 + X.length) := by
    refine ⟨?_, d0, by simp, app_digs dX dY, textI_tail (by omega) (by omega), ?_⟩
    · unfold decBody; rw [if_neg (show ¬ (X ++ Y = []) by simp [nX])]; simp
    · simp only [List.length_append, List.length_cons, List.length_nil]; omega
  obtain ⟨N, hN⟩ : ∃ N, expVal 0 (X ++ Y) = N := ⟨_, rfl⟩
  obtain ⟨v1, q1, c1⟩ := num_point D1 hN rfl w hT hW
  obtain ⟨v2, q2, c2⟩ := num_point (y := (r : Int) - 300 - Y.length) (N := N) D2 (by rw [List.append_nil]; exact hN) (by simp) w hT hW
  obtain ⟨v3, q3, c3⟩ := num_point (y := (r : Int) - 300 - Y.length - 2) (N := N * 10 ^ 2) D3 (by rw [← List.append_assoc, expVal_app, hN]; exact expVal_two N) (by simp only [List.length_append, List.length_cons, List.length_nil]; omega) w hT hW
  obtain ⟨v4, q4, c4⟩ := num_point (y := (r : Int) - 300 - Y.length) (N := N) D4 (by rw [← hN]; exact expVal_nought (X ++ Y)) (by simp only [List.length_append]; omega) w hT hW
  obtain rfl : v1 = v2 := near_same rfl q1 q2
  obtain rfl : v1 = v3 := near_noughts q1 q3
  obtain rfl : v1 = v4 := near_same rfl q1 q4
  rw [sgn_no] at c1 c2 c3 c4
  refine spelled_walk av bv n X Y r v1 w (awake_ok w hT hC hG hS) (fun u hu => ?_) (fun u hu => ?_) (fun u => ?_) hr lX.2 lY.2 c1 c2 c3 c4
  · rw [← eX]
    exact digits_any av la 12 u (Under w) (ha.below hu) za ka (by omega) (by omega)
  · rw [← eY]
    exact digits_any bv lb 12 u (Under w) (hb.below hu) zb kb (by omega) (by omega)
  · have := pick_any n 600 u h1 h2 (by omega) (by omega)
    rw [er] at this
    exact this
end Go.Proofs.YtgekdmjneogdoaaGreatDoor

namespace Go.Proofs.YtgekdmjneogdoaaGreatDoor
open Go.RowKit Go.Lib Go.ChangeShapes Go.WideShapes Go.ChangeAt Go.ChangeMaps

set_option maxRecDepth 100000 in
theorem spelled_lifted (os : Os) (started : os.Started) (H : Type) (enc : TypeId × Value → H) :
    ReturnsInHanded {} Tryz.checked os 7 .any (fun w args => (Rows.spelledSpec.pre enc Tryz.prog Tryz.f7 [] false w args ∧ laidMetH Tryz.prog laidL w) ∧ sizedMet enc Tryz.prog Tryz.f7 (OpenSpec.ofChange Rows.spelledSpec) false w args)
      (Rows.spelledSpec.post enc Tryz.prog Tryz.f7 false true false false) := by
  refine returns_laid (C := Tryz.checked) (X := fun w _ => laidMetH Tryz.prog laidL w) (fun _ _ _ hh h => h.of_heap hh) own started (by kernel_rfl) Tryz.func7
    (ChangeSpec.witness_shaped (enc := enc) (C := Tryz.checked) (os := os) (X := fun w _ => laidMetH Tryz.prog laidL w) false (World.laidAll Tryz.prog os laidL) #[.slice none 0 0, .slice none 0 0, .int .i64 0] 8 (World.laidAll_os _ _ _)
      (start_shaped os _) (by kernel_rfl) (by kernel_rfl) (by kernel_rfl) (start_met os _)) ?_
  intro W base args ds gs before hval0 hW _ hL hsh
  have hval : ∀ (j : Nat) t v, Tryz.f7.params[j]? = some t → args[j]? = some v → Value.okWide Tryz.prog W .any base t v := hval0
  have hW' := hW
  obtain ⟨p, q, hA0, hV, rfl, _, _⟩ := hW
  have hA : DataW.TrodAll enc Tryz.prog W 0 (fun _ => true) true Tryz.f7.params.toList args.toList ds p := hA0
  rw [Tryz.params7] at hA hval
  obtain ⟨v0, v1, v2, d0, d1, d2, p0, p1, p2, rfl, rfl, rfl, h0, h1, h2⟩ := trodAll_three hA
  obtain ⟨rfl, rfl⟩ := trodVars_none hV
  obtain ⟨a0, len, cap, rfl⟩ := okWide_slice Tryz.underlying32 (hval 0 32 v0 rfl rfl)
  obtain ⟨a1, len1, cap1, rfl⟩ := okWide_slice Tryz.underlying32 (hval 1 32 v1 rfl rfl)
  obtain ⟨x2, rfl, rfl, rfl, wx2⟩ := open_int Tryz.underlying3 (hval 2 3 v2 rfl rfl) h2
  simp only [List.append_nil] at hW'
  have hlt0 : ∀ x ∈ p0, x.block < W.heap.size := fun x hx => hW'.lt x (by simp [hx])
  have hlt1 : ∀ x ∈ p1, x.block < W.heap.size := fun x hx => hW'.lt x (by simp [hx])
  have hargs0 : ∀ (W' : World), Below W.heap.size W W' → DataW.Trod enc Tryz.prog W' 0 (fun b => decide (b < W.heap.size)) true 32 (.slice a0 len cap) d0 p0 :=
    fun W' hn => Below.trod laidOut (by kernel_rfl) (of_decide_eq_true (by kernel_rfl)) h0 hn hlt0
  have hargs1 : ∀ (W' : World), Below W.heap.size W W' → DataW.Trod enc Tryz.prog W' 0 (fun b => decide (b < W.heap.size)) true 32 (.slice a1 len1 cap1) d1 p1 :=
    fun W' hn => Below.trod laidOut (by kernel_rfl) (of_decide_eq_true (by kernel_rfl)) h1 hn hlt1
  rw [MakeChecks.laidMetH_plain _ _ _ (by kernel_rfl)] at hL
  have hSl := slow_of_laid hL
  obtain ⟨hT, hC, hG⟩ := tabs_of_laid hL hsh
  obtain ⟨l0, r0, z0, k0⟩ := rdi_of h0
  obtain ⟨l1, r1, z1, k1⟩ := rdi_of h1
  have b2 := wf64 wx2
  refine (spelled_ok _ _ l0 l1 x2 W b2.1 b2.2 r0 r1 z0 z1 k0 k1 hT hC hG halves hSl).mono fun e W' ⟨he, hb⟩ => ?_
  subst he
  have hm : DataW.TrodAll enc Tryz.prog W' 0 (fun b => decide (b < W.heap.size)) true [32, 32, 3] [Value.slice a0 len cap, Value.slice a1 len1 cap1, Value.int IntKind.i64 x2] [d0, d1, DataW.lit (Lit.int IntKind.i64 x2)] (p0 ++ p1) := by
    have h := trodAll_mk3 (hargs0 W' hb) (hargs1 W' hb) (shut_int Tryz.underlying3 wx2)
    simpa only [List.append_nil] using h
  exact ⟨_, rfl, _, _, _, [], p0 ++ p1, [], hW', trodAll_mk1 (shut_bool Tryz.underlying4 _), hm, rfl, hb.frame _, fun h => by cases h⟩

theorem spelled_named : Tryz.pinned.checked.prog.funcNamed Rows.spelledRow.func = some 7 := by kernel_rfl
theorem spelled_inst : Tryz.f7.isInstance Tryz.pinned.checked.prog Rows.spelledRow.origin Rows.spelledRow.targs := of_decide_eq_true (by kernel_rfl)
theorem spelled_wrap : Tryz.f7.isWrapper Tryz.pinned.checked.prog Rows.spelledRow.wrapper Rows.spelledRow.mainSum := by
  unfold Func.isWrapper; first | (rw [if_pos (by decide +kernel)]; kernel_rfl) | (rw [if_neg (by decide +kernel)]; exact ⟨rfl, rfl⟩)
end Go.Proofs.YtgekdmjneogdoaaGreatDoor
