import Derived.Test.YtgekdmjneogdoaaGreatDoorZAk1
import Derived.Test.YtgekdmjneogdoaaGreatDoorZFo1
namespace Go.Proofs.YtgekdmjneogdoaaGreatDoor
open Go.RowKit Go.Shelf Go.Maps

/-! Back -/
def isnB (v : Nat) : Bool := decide (v % 9223372036854775808 ≤ 9218868437227405312)

set_option maxRecDepth 20000 in
set_option maxHeartbeats 400000 in
theorem isnum_any (v : Nat) (hv : v < 18446744073709551616) (w : World) :
    Calls Tryz.prog 19 #[.int .u64 v] w fun e w' => e = .returned (.bool (isnB v)) ∧ w' = w := by
  have e0 : ((v : Int) % 9223372036854775808) = ((v % 9223372036854775808 : Nat) : Int) := by omega
  have hm : v % 9223372036854775808 < 9223372036854775808 := Nat.mod_lt _ (by omega)
  have hd : decide (((v % 9223372036854775808 : Nat) : Int) ≤ 9218868437227405312) = isnB v := by
    unfold isnB
    by_cases c : v % 9223372036854775808 ≤ 9218868437227405312
    · have c2 : ((v % 9223372036854775808 : Nat) : Int) ≤ 9218868437227405312 := by omega
      simp only [c, c2, decide_true]
    · have c2 : ¬ ((v % 9223372036854775808 : Nat) : Int) ≤ 9218868437227405312 := by omega
      simp only [c, c2, decide_false]
  rw [← hd, ← e0]
  clear hd e0 hm
  go_enter Tryz.func19, Tryz.ntmps19
  go_wp2_with fail
  go_ret
  exact ⟨rfl, rfl⟩

/-- how many digits -/
def cntD : List UInt8 → Nat
  | [] => 0
  | c :: r => (if isDig c then 1 else 0) + cntD r

theorem cntD_app : ∀ a b : List UInt8, cntD (a ++ b) = cntD a + cntD b := by
  intro a
  induction a with
  | nil => intro b; simp [cntD]
  | cons c a ih => intro b; simp only [List.cons_append, cntD, ih]; omega
theorem cntD_le : ∀ a : List UInt8, cntD a ≤ a.length := by
  intro a
  induction a with
  | nil => simp [cntD]
  | cons c a ih => simp only [cntD, List.length_cons]; split <;> omega

def ShortIs (v : Nat) (s : ByteArray) (w : World) : Prop := ∀ w', Below w.heap.size w w' → Calls Tryz.prog 17 #[.int .u64 v] w' fun e w'' => e = .returned (.string s) ∧ Below w'.heap.size w' w''
def NumIs (s : ByteArray) (u : Nat) (w : World) : Prop := ∀ w', Below w.heap.size w w' → Calls Tryz.prog 18 #[.string s] w' fun e w'' => e = .returned (.tuple #[.int .u64 u, .int .i64 0]) ∧ Below w'.heap.size w' w''

set_option maxRecDepth 20000 in
set_option maxHeartbeats 1600000 in
theorem back_nan (v : Nat) (hv : v < 18446744073709551616) (w : World) (hT : Tabs w) (hC : CTabs w) (hG : GK (Under w)) (hS : SortsTo [halfN, halfN] [halfN]) (hn : isnB v = false)
    (h1 : ShortIs v ⟨#[110, 97, 110]⟩ w) (h2 : NumIs ⟨#[110, 97, 110]⟩ 9221120237041090560 w) (h3 : ShortIs 9221120237041090560 ⟨#[110, 97, 110]⟩ w) :
    Calls Tryz.prog 5 #[.int .u64 v] w fun e w' => e = .returned (.bool true) ∧ Below w.heap.size w w' := by
  have HA := hide (awake_ok w hT hC hG hS)
  have H1 := hide h1
  have H2 := hide h2
  have H3 := hide h3
  clear hT hC hG hS h1 h2 h3
  go_enter Tryz.func5, Tryz.ntmps5
  go_wp2_with fail
  refine (unhide HA).mono ?_
  rintro e w1 ⟨rfl, hb1⟩
  have HB1 := hide hb1
  clear hb1 HA
  go_wp2_with fail
  refine (unhide H1 w1 (unhide HB1)).mono ?_
  rintro e w2 ⟨rfl, hb2⟩
  have HB2 : Hid (Below w.heap.size w w2) := (unhide HB1).trans (hb2.mono (unhide HB1).size)
  clear hb2 HB1 H1
  go_wp2_with fail
  refine (unhide H2 w2 (unhide HB2)).mono ?_
  rintro e w3 ⟨rfl, hb3⟩
  have HB3 : Hid (Below w.heap.size w w3) := (unhide HB2).trans (hb3.mono (unhide HB2).size)
  clear hb3 HB2 H2
  go_wp2_with fail
  refine (unhide H3 w3 (unhide HB3)).mono ?_
  rintro e w4 ⟨rfl, hb4⟩
  have HB4 : Hid (Below w.heap.size w w4) := (unhide HB3).trans (hb4.mono (unhide HB3).size)
  clear hb4 HB3 H3
  go_wp2_with fail
  refine (isnum_any v hv w4).mono ?_
  rintro e w5 ⟨rfl, hw⟩; rw [hw]; clear hw w5
  rw [hn]
  go_wp2_with fail
  go_ret
  exact ⟨rfl, unhide HB4⟩

set_option maxRecDepth 20000 in
set_option maxHeartbeats 1600000 in
theorem back_num (v : Nat) (s : ByteArray) (hv : v < 18446744073709551616) (w : World) (hT : Tabs w) (hC : CTabs w) (hG : GK (Under w)) (hS : SortsTo [halfN, halfN] [halfN]) (hn : isnB v = true)
    (h1 : ShortIs v s w) (h2 : NumIs s v w) (hs : s.size ≤ 40) (hc : ∀ i, i ≤ s.size → (∀ c, c ∈ s.data.toList.take i → c ≠ 101) → cntD (s.data.toList.take i) ≤ 17) :
    Calls Tryz.prog 5 #[.int .u64 v] w fun e w' => e = .returned (.bool true) ∧ Below w.heap.size w w' := by
  have HA := hide (awake_ok w hT hC hG hS)
  have H1 := hide h1
  have H2 := hide h2
  have HC := hide hc
  clear hT hC hG hS h1 h2 hc
  go_enter Tryz.func5, Tryz.ntmps5
  go_wp2_with fail
  refine (unhide HA).mono ?_
  rintro e w1 ⟨rfl, hb1⟩
  have HB1 := hide hb1
  clear hb1 HA
  go_wp2_with fail
  refine (unhide H1 w1 (unhide HB1)).mono ?_
  rintro e w2 ⟨rfl, hb2⟩
  have HB2 : Hid (Below w.heap.size w w2) := (unhide HB1).trans (hb2.mono (unhide HB1).size)
  clear hb2 HB1
  go_wp2_with fail
  refine (unhide H2 w2 (unhide HB2)).mono ?_
  rintro e w3 ⟨rfl, hb3⟩
  have HB3 : Hid (Below w.heap.size w w3) := (unhide HB2).trans (hb3.mono (unhide HB2).size)
  clear hb3 HB2 H2
  go_wp2_with fail
  refine (unhide H1 w3 (unhide HB3)).mono ?_
  rintro e w4 ⟨rfl, hb4⟩
  have HB4 : Hid (Below w.heap.size w w4) := (unhide HB3).trans (hb4.mono (unhide HB3).size)
  clear hb4 HB3 H1
  go_wp2_with fail
  refine (isnum_any v hv w4).mono ?_
  rintro e w5 ⟨rfl, hw⟩; rw [hw]; clear hw w5
  rw [hn]
  go_wp2_with fail
  go_loop [9, 10] (fun n i => ∃ q : Nat, q ≤ s.size ∧ Hid (∀ c, c ∈ s.data.toList.take q → c ≠ 101) ∧ n = .int .i64 (cntD (s.data.toList.take q) : Nat) ∧ i = .int .i64 q) (fun _ i => s.size - (intOf i).toNat)
  case atStart => exact ⟨0, by omega, by simp [Hid], by simp [cntD], rfl⟩
  case round =>
    obtain ⟨q, q1, q2, rfl, rfl⟩ := hrel
    obtain ⟨n, hnn⟩ : ∃ n, cntD (s.data.toList.take q) = n := ⟨_, rfl⟩
    have hle : Hid (n ≤ 17) := by rw [← hnn]; exact unhide HC q q1 (unhide q2)
    have hle40 : n ≤ 40 := by have := unhide hle; omega
    rw [hnn]
    have Hnn := hide hnn
    clear hnn
    have hle17 : (n : Int) ≤ 17 := by have := unhide hle; omega
    by_cases hlt : q < s.size
    · have htk : Hid (s.data.toList.take (q + 1) = s.data.toList.take q ++ [s[q]]) := by
        unfold Hid
        rw [List.take_add_one]
        congr 1
        rw [List.getElem?_eq_getElem (by simpa using hlt)]
        rfl
      by_cases h101 : (s[q].toNat : Int) = 101
      · go_wp2_with fail
        go_ret
        exact ⟨rfl, unhide HB4⟩
      · have q3 : Hid (∀ c, c ∈ s.data.toList.take (q + 1) → c ≠ 101) := by
          intro c hcm
          rw [unhide htk] at hcm
          rcases List.mem_append.1 hcm with h | h
          · exact unhide q2 c h
          · rw [List.mem_singleton] at h
            rw [h]
            intro h0
            rw [h0] at h101
            exact h101 rfl
        by_cases hd1 : 48 ≤ (s[q].toNat : Int)
        · by_cases hd2 : (s[q].toNat : Int) ≤ 57
          · have hcc : Hid (cntD (s.data.toList.take (q + 1)) = n + 1) := by
              unfold Hid
              rw [unhide htk, cntD_app, unhide Hnn]
              have : isDig s[q] = true := by simp only [isDig, Bool.and_eq_true, decide_eq_true_eq]; omega
              simp [cntD, this]
            go_wp2_with fail
            go_round
            case rel => exact ⟨q + 1, by omega, q3, by rw [unhide hcc]; go_num, by go_num⟩
            case measure => simp [intOf]; omega
          · have hcc : Hid (cntD (s.data.toList.take (q + 1)) = n) := by
              unfold Hid
              rw [unhide htk, cntD_app, unhide Hnn]
              have : isDig s[q] = false := by simp only [isDig, Bool.and_eq_false_iff, decide_eq_false_iff_not]; omega
              simp [cntD, this]
            go_wp2_with fail
            go_round
            case rel => exact ⟨q + 1, by omega, q3, by rw [unhide hcc], by go_num⟩
            case measure => simp [intOf]; omega
        · have hcc : Hid (cntD (s.data.toList.take (q + 1)) = n) := by
            unfold Hid
            rw [unhide htk, cntD_app, unhide Hnn]
            have : isDig s[q] = false := by simp only [isDig, Bool.and_eq_false_iff, decide_eq_false_iff_not]; omega
            simp [cntD, this]
          go_wp2_with fail
          go_round
          case rel => exact ⟨q + 1, by omega, q3, by rw [unhide hcc], by go_num⟩
          case measure => simp [intOf]; omega
    · have hq : q = s.size := by omega
      subst hq
      go_wp2_with fail
      go_ret
      exact ⟨rfl, unhide HB4⟩
end Go.Proofs.YtgekdmjneogdoaaGreatDoor

namespace Go.Proofs.YtgekdmjneogdoaaGreatDoor
open Go.RowKit Go.Shelf Go.Maps

/-- the least number of digits that gives a value back -/
theorem least_k (v : Nat) (hv0 : 1 ≤ v) (hv : v < 9218868437227405312) : ∃ K, K ≤ 16 ∧ Gv v K ∧ ∀ k, k < K → ¬ Gv v k := by
  have h16 : Gv v 16 := (digV_ok v 16 hv0 hv (by omega)).2.2.2.2.2 rfl
  have : ∀ n, Gv v n → ∃ K, K ≤ n ∧ Gv v K ∧ ∀ k, k < K → ¬ Gv v k := by
    intro n
    induction n using Nat.strongRecOn with
    | _ n ih =>
      intro hn
      by_cases h : ∃ k, k < n ∧ Gv v k
      · obtain ⟨k, hk, hg⟩ := h
        obtain ⟨K, a, b, c⟩ := ih k hk hg
        exact ⟨K, by omega, b, c⟩
      · exact ⟨n, Nat.le_refl _, hn, fun k hk hg => h ⟨k, hk, hg⟩⟩
  exact this 16 h16

theorem short_text (neg : Bool) (v K : Nat) (hv0 : 1 ≤ v) (hv : v < 9218868437227405312) (hg : Gv v K) (hl : ∀ k, k < K → ¬ Gv v k) (w : World) (ht : Tabs w) :
    Calls Tryz.prog 17 #[.int .u64 (sgn neg + v : Nat)] w fun e w' => e = .returned (.string ⟨(shortV neg v K).toArray⟩) ∧ Below w.heap.size w w' := by
  refine (short_all neg v hv0 hv w ht).mono ?_
  rintro e w' ⟨K', rfl, ⟨h1, h2, h3⟩, hb⟩
  have : K' = K := by
    rcases Nat.lt_trichotomy K' K with q | q | q
    · exact absurd h3 (hl K' q)
    · exact q
    · exact absurd hg (h2 K q)
  rw [this]
  exact ⟨rfl, hb⟩

theorem take_front : ∀ (P t : List UInt8) (i : Nat), (∀ c, c ∈ (P ++ 101 :: t).take i → c ≠ 101) → ∃ j, (P ++ 101 :: t).take i = P.take j := by
  intro P
  induction P with
  | nil =>
    intro t i h
    cases i with
    | zero => exact ⟨0, rfl⟩
    | succ i => exact absurd rfl (h 101 (by simp))
  | cons c P ih =>
    intro t i h
    cases i with
    | zero => exact ⟨0, rfl⟩
    | succ i =>
      obtain ⟨j, hj⟩ := ih t i (fun d hd => h d (by rw [List.cons_append, List.take_succ_cons]; exact List.mem_cons_of_mem _ hd))
      exact ⟨j + 1, by rw [List.cons_append, List.take_succ_cons, hj, List.take_succ_cons]⟩

theorem cntD_take (P : List UInt8) (j : Nat) : cntD (P.take j) ≤ cntD P := by
  have := cntD_app (P.take j) (P.drop j)
  rw [List.take_append_drop] at this
  omega

theorem short_count (neg : Bool) (v K : Nat) (hD : DigF v K) (hK : K ≤ 16) : ∀ i, i ≤ (bs (shortV neg v K)).size → (∀ c, c ∈ (bs (shortV neg v K)).data.toList.take i → c ≠ 101) → cntD ((bs (shortV neg v K)).data.toList.take i) ≤ 17 := by
  intro i _ h
  rw [bs_list] at h ⊢
  have e : shortV neg v K = ((if neg then [45] else []) ++ (dgA v K ++ (if dgB v K = [] then [] else 46 :: dgB v K))) ++ 101 :: Lib.itoa (expV v K) := by
    unfold shortV decBody; simp
  rw [e] at h ⊢
  obtain ⟨j, hj⟩ := take_front _ _ i h
  rw [hj]
  refine Nat.le_trans (cntD_take _ j) ?_
  have h1 : cntD (if neg then [45] else []) = 0 := by cases neg <;> rfl
  have h2 : cntD (dgA v K) ≤ 1 := cntD_le (dgA v K)
  have h3 : cntD (if dgB v K = [] then [] else 46 :: dgB v K) ≤ K := by
    have := cntD_le (dgB v K)
    rw [hD.lenB] at this
    split
    · simp [cntD]
    · have e46 : isDig 46 = false := by decide
      simp only [cntD, e46, Bool.false_eq_true, if_false]; omega
  rw [cntD_app, cntD_app]
  omega

theorem count_few (s : ByteArray) (h : s.size ≤ 17) : ∀ i, i ≤ s.size → (∀ c, c ∈ s.data.toList.take i → c ≠ 101) → cntD (s.data.toList.take i) ≤ 17 := by
  intro i hi _
  have := cntD_le (s.data.toList.take i)
  rw [List.length_take] at this
  omega

theorem below_self {w w' : World} (h : w' = w) : Below w.heap.size w w' := by rw [h]; exact Below.refl _ _

theorem back_ok (v : Nat) (hv : v < 18446744073709551616) (w : World) (hT : Tabs w) (hC : CTabs w) (hG : GK (Under w)) (hS : SortsTo [halfN, halfN] [halfN]) :
    Calls Tryz.prog 5 #[.int .u64 v] w fun e w' => e = .returned (.bool true) ∧ Below w.heap.size w w' := by
  by_cases hn : v % 9223372036854775808 ≤ 9218868437227405312
  · have hnb : isnB v = true := by unfold isnB; rw [decide_eq_true hn]
    obtain ⟨neg, r, hr, rfl⟩ : ∃ (neg : Bool) (r : Nat), r ≤ 9218868437227405312 ∧ v = sgn neg + r := by
      by_cases h : v < 9223372036854775808
      · exact ⟨false, v, by omega, by simp [sgn]⟩
      · exact ⟨true, v - 9223372036854775808, by omega, by simp [sgn]; omega⟩
    by_cases hinf : r = 9218868437227405312
    · subst hinf
      cases neg
      · refine back_num _ ⟨#[105, 110, 102]⟩ hv w hT hC hG hS hnb ?_ ?_ (by decide) (count_few _ (by decide))
        · intro w' hb
          exact (short_inf 9218868437227405312 w' (by kernel_rfl) (by kernel_rfl)).mono (fun e w'' h => ⟨h.1, below_self h.2⟩)
        · intro w' hb
          exact (num_inf w').mono (fun e w'' h => ⟨h.1, below_self h.2⟩)
      · refine back_num _ ⟨#[45, 105, 110, 102]⟩ hv w hT hC hG hS hnb ?_ ?_ (by decide) (count_few _ (by decide))
        · intro w' hb
          exact (short_minf 18442240474082181120 9218868437227405312 w' (by kernel_rfl) (by kernel_rfl) (by kernel_rfl) (by kernel_rfl)).mono (fun e w'' h => ⟨h.1, below_self h.2⟩)
        · intro w' hb
          exact (num_minf w').mono (fun e w'' h => ⟨h.1, below_self h.2⟩)
    · by_cases hz : r = 0
      · subst hz
        cases neg
        · refine back_num _ ⟨#[48]⟩ hv w hT hC hG hS hnb ?_ ?_ (by decide) (count_few _ (by decide))
          · intro w' hb
            exact (short_zero 0 9223372036854775808 w' (by kernel_rfl) (by kernel_rfl) (by kernel_rfl) (by kernel_rfl) (by kernel_rfl) (by decide)).mono (fun e w'' h => ⟨h.1, below_self h.2⟩)
          · intro w' hb
            have hT' : DecT [48] false [48] [] [] 0 := ⟨rfl, by intro c hc; simp at hc; rw [hc]; decide, by simp, (fun c hc => by cases hc), Or.inl ⟨rfl, rfl⟩, by simp⟩
            obtain ⟨z, ov, h1, h2⟩ := number_plain hT' (by simp) w' (hT.below hb)
            have ez : z = 0 := near_unique (Nat.pow_pos (by omega)) (by omega) h2 (near_zero 1 (by omega)) (by decide)
            rw [ez] at h1
            obtain ⟨a1, a2, a3⟩ := hT'.words
            exact num_dec (bs [48]) _ ov w' (hT.below hb) (by decide) (by rw [bs_list]; exact a1) (by rw [bs_list]; exact a2) (by rw [bs_list]; exact a3) (by rw [bs_list]; exact hT'.isDec) h1
        · refine back_num _ ⟨#[45, 48]⟩ hv w hT hC hG hS hnb ?_ ?_ (by decide) (count_few _ (by decide))
          · intro w' hb
            exact (short_mzero 9223372036854775808 0 w' (by kernel_rfl) (by decide) (by kernel_rfl) (by kernel_rfl) (by kernel_rfl) (by kernel_rfl) (by decide)).mono (fun e w'' h => ⟨h.1, below_self h.2⟩)
          · intro w' hb
            exact number_minus w' (hT.below hb)
      · obtain ⟨K, hK, hg, hl⟩ := least_k r (by omega) (by omega)
        have hD := digF r K (by omega) (by omega) hK
        refine back_num _ (bs (shortV neg r K)) hv w hT hC hG hS hnb ?_ ?_ ?_ (short_count neg r K hD hK)
        · intro w' hb
          exact short_text neg r K (by omega) (by omega) hg hl w' (hT.below hb)
        · intro w' hb
          exact number_short neg r K (by omega) (by omega) hK hg w' (hT.below hb)
        · rw [bs_size]; exact (hD.shortT hK neg).len
  · have hnb : isnB v = false := by unfold isnB; rw [decide_eq_false hn]
    have hnan : ∀ u, u < 18446744073709551616 → 9218868437227405312 < u % 9223372036854775808 → ShortIs u ⟨#[110, 97, 110]⟩ w := by
      intro u hu1 hu2 w' hb
      refine (short_nan u w' ?_).mono (fun e w'' h => ⟨h.1, below_self h.2⟩)
      rw [num_iff u hu1, decide_eq_true hu2]
    exact back_nan v hv w hT hC hG hS hnb (hnan v hv (by omega)) (fun w' hb => (num_nan w').mono (fun e w'' h => ⟨h.1, below_self h.2⟩)) (hnan _ (by decide) (by decide))
end Go.Proofs.YtgekdmjneogdoaaGreatDoor
