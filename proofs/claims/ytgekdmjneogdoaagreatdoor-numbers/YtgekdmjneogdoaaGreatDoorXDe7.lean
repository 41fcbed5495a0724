import Derived.Test.YtgekdmjneogdoaaGreatDoorXDe1
import Derived.Test.YtgekdmjneogdoaaGreatDoorXNy1
import Derived.Lib.ItoaNum
namespace Go.Proofs.YtgekdmjneogdoaaGreatDoor
open Go.RowKit

/-! how many digits a multiplication by a power of two makes -/
theorem floor_lt {A B M N : Nat} (hM : 0 < M) (hN : 0 < N) (h : A / M < B / N) : A * N < B * M := by
  have h1 : A < (A / M + 1) * M := by
    have := Nat.div_add_mod A M
    have := Nat.mod_lt A hM
    rw [Nat.add_mul, Nat.one_mul, Nat.mul_comm]; omega
  have h2 : B / N * N ≤ B := Nat.div_mul_le_self _ _
  have h3 : A * N < (A / M + 1) * M * N := Nat.mul_lt_mul_of_pos_right h1 hN
  have h4 : (A / M + 1) * M * N ≤ B / N * M * N := Nat.mul_le_mul_right _ (Nat.mul_le_mul_right _ h)
  have h5 : B / N * M * N ≤ B * M := by rw [Nat.mul_right_comm]; exact Nat.mul_le_mul_right _ h2
  omega

theorem pref_from (a : Nat → Nat) (D nd C lc : Nat) (cl : List UInt8) (hd : DigsOf a D nd) (hl : cl.length = lc) (hc : ∀ i (h : i < cl.length), cl[i].toNat = 48 + C / 10 ^ (lc - 1 - i) % 10) (hC0 : C % 10 ≠ 0) :
    ∀ n i, i + n = lc → preN D nd i = preN C lc i → prefLt a nd (cl.drop i) i = decide (D * 10 ^ lc < C * 10 ^ nd) := by
  have hP : ∀ x : Nat, 0 < 10 ^ x := fun x => Nat.pow_pos (by omega)
  intro n
  induction n with
  | zero =>
    intro i hi he
    have : i = lc := by omega
    subst this
    rw [List.drop_of_length_le (by omega), prefLt]
    symm
    rw [decide_eq_false_iff_not]
    intro h
    rw [preN_ge C i i (Nat.le_refl _), Nat.sub_self, Nat.pow_zero, Nat.mul_one] at he
    unfold preN at he
    have h1 : C * 10 ^ nd ≤ D * 10 ^ i := by rw [← he]; exact Nat.div_mul_le_self _ _
    omega
  | succ n ih =>
    intro i hi he
    have hil : i < cl.length := by omega
    rw [List.drop_eq_getElem_cons hil, prefLt]
    have hci := hc i hil
    by_cases hnd : nd ≤ i
    · rw [if_pos hnd]
      symm
      rw [decide_eq_true_eq]
      rw [preN_ge D nd i hnd, preN_lt C lc i (by omega)] at he
      have hmod : 0 < C % 10 ^ (lc - i) := by
        rcases Nat.eq_zero_or_pos (C % 10 ^ (lc - i)) with q | q
        · exfalso
          obtain ⟨z, hz⟩ := Nat.dvd_of_mod_eq_zero q
          rw [show lc - i = (lc - i - 1) + 1 by omega, Nat.pow_succ] at hz
          rw [hz, Nat.mul_right_comm, Nat.mul_mod_left] at hC0
          exact hC0 rfl
        · exact q
      have hdm := Nat.div_add_mod C (10 ^ (lc - i))
      rw [← he] at hdm
      have e1 : D * 10 ^ lc = 10 ^ (lc - i) * (D * 10 ^ (i - nd)) * 10 ^ nd := by
        have : lc = (lc - i) + (i - nd) + nd := by omega
        conv => lhs; rw [this]
        rw [Nat.pow_add, Nat.pow_add]
        generalize 10 ^ (lc - i) = x
        generalize 10 ^ (i - nd) = y
        generalize 10 ^ nd = z
        simp only [Nat.mul_comm, Nat.mul_left_comm]
      rw [e1]
      refine Nat.mul_lt_mul_of_pos_right ?_ (hP nd)
      omega
    · rw [if_neg hnd]
      have hai := hd i (by omega)
      have s1 := preN_step D nd i (by omega)
      have s2 := preN_step C lc i (by omega)
      rw [he] at s1
      by_cases hx : a i = cl[i].toNat
      · rw [if_pos hx]
        refine ih (i + 1) (by omega) ?_
        rw [s1, s2]
        omega
      · rw [if_neg hx]
        rw [decide_eq_decide, hai, hci]
        have key1 : preN D nd (i + 1) < preN C lc (i + 1) → D * 10 ^ lc < C * 10 ^ nd := fun h => by
          unfold preN at h
          have := floor_lt (hP nd) (hP lc) h
          rw [Nat.mul_right_comm, Nat.mul_right_comm C] at this
          exact Nat.lt_of_mul_lt_mul_right this
        have key2 : preN C lc (i + 1) < preN D nd (i + 1) → C * 10 ^ nd < D * 10 ^ lc := fun h => by
          unfold preN at h
          have := floor_lt (hP lc) (hP nd) h
          rw [Nat.mul_right_comm, Nat.mul_right_comm D] at this
          exact Nat.lt_of_mul_lt_mul_right this
        constructor
        · intro h; exact key1 (by omega)
        · intro h
          rcases Nat.lt_trichotomy (48 + D / 10 ^ (nd - 1 - i) % 10) (48 + C / 10 ^ (lc - 1 - i) % 10) with q | q | q
          · exact q
          · rw [← hai, ← hci] at q; exact absurd q hx
          · have := key2 (by omega)
            omega

/-- the table: how many digits two to the k has; the digits of five to the k -/
def chD (k : Nat) : Nat := Lib.nDigits (2 ^ k)
def chC (k : Nat) : List UInt8 := (List.range (k - chD k + 1)).map fun i => Lib.dg (5 ^ k) (k - chD k - i)

def chOk (k : Nat) : Bool :=
  decide (1 ≤ chD k) && decide (chD k ≤ k) && decide (chD k ≤ 19) && decide (10 ^ (chD k - 1) ≤ 2 ^ k) && decide (2 ^ k < 10 ^ chD k) && decide (5 ^ k < 10 ^ (k - chD k + 1)) && decide (5 ^ k % 10 ≠ 0)

set_option maxRecDepth 100000 in
theorem chs_ok : ((List.range 60).all fun j => chOk (j + 1)) = true := by decide +kernel

theorem ch_ok (k : Nat) (h1 : 1 ≤ k) (h2 : k ≤ 60) : 1 ≤ chD k ∧ chD k ≤ k ∧ chD k ≤ 19 ∧ 10 ^ (chD k - 1) ≤ 2 ^ k ∧ 2 ^ k < 10 ^ chD k ∧ 5 ^ k < 10 ^ (k - chD k + 1) ∧ 5 ^ k % 10 ≠ 0 := by
  have h := List.all_eq_true.1 chs_ok (k - 1) (List.mem_range.2 (by omega))
  rw [show k - 1 + 1 = k by omega] at h
  unfold chOk at h
  simp only [Bool.and_eq_true, decide_eq_true_eq] at h
  obtain ⟨⟨⟨⟨⟨⟨a, b⟩, c⟩, d⟩, e⟩, f⟩, g⟩ := h
  exact ⟨a, b, c, d, e, f, g⟩

/-- what the table's cells hold -/
structure Cheat (w : World) : Prop where
  tab : ∃ B O, w.cell? ⟨11, 0, none⟩ = some (.slice (some ⟨B, O, none⟩) 61 61) ∧ ∀ k, 1 ≤ k → k ≤ 60 → w.cell? ⟨B, O + k * 2, none⟩ = some (.int .i64 (chD k : Nat)) ∧ w.cell? ⟨B, O + k * 2 + 1, none⟩ = some (.string ⟨(chC k).toArray⟩)

theorem Cheat.kept {w w' : World} {b : Nat} (h : Cheat w) (hk : Kept (But b) w w') (hb : ∀ B O, w.cell? ⟨11, 0, none⟩ = some (.slice (some ⟨B, O, none⟩) 61 61) → B ≠ b) (hg : 11 ≠ b) : Cheat w' := by
  obtain ⟨B, O, h1, h2⟩ := h.tab
  have hB := hb B O h1
  refine ⟨B, O, ?_, fun k k1 k2 => ?_⟩
  · rw [← h1]; unfold World.cell?; rw [hk.block _ hg]
  · obtain ⟨c1, c2⟩ := h2 k k1 k2
    constructor
    · rw [← c1]; unfold World.cell?; rw [hk.block B hB]
    · rw [← c2]; unfold World.cell?; rw [hk.block B hB]

/-- leftShift, of a number -/
theorem left_dec {w : World} {b D nd : Nat} {dp : Int} {neg : Bool} (h : DecW w b D nd dp neg) (k : Nat) (hk1 : 1 ≤ k) (hk : k ≤ 60) (hc : Cheat w) (hn : nd ≤ 780) (hdp1 : -4000 ≤ dp) (hdp2 : dp ≤ 4000) :
    Calls Tryz.prog 268 #[.pointer (some ⟨b, 0, none⟩), .int .u64 k] w fun e w' => e = .returned (.tuple #[]) ∧ (∃ D' nd' z δ : Nat, DecIs w' b D' nd' (dp + δ) neg ∧ D * 2 ^ k = D' * 10 ^ z ∧ nd + δ = nd' + z ∧ δ ≤ 19) ∧ Kept (But b) w w' := by
  obtain ⟨a, hm, hd⟩ := h.mem
  obtain ⟨B, O, t0, t12⟩ := hc.tab
  obtain ⟨t1, t2⟩ := t12 k hk1 hk
  obtain ⟨c1, c2, c3, c4, c5, c6, c7⟩ := ch_ok k hk1 hk
  have hlc : (chC k).length = k - chD k + 1 := by simp [chC]
  have hcl : ∀ i (hi : i < (chC k).length), (chC k)[i].toNat = 48 + 5 ^ k / 10 ^ (k - chD k + 1 - 1 - i) % 10 := by
    intro i hi
    simp only [chC, List.getElem_map, List.getElem_range]
    unfold Lib.dg
    rw [UInt8.toNat_ofNat_of_lt' (by simp [UInt8.size]; omega), Nat.add_sub_cancel]
  have hpre : preN D nd 0 = preN (5 ^ k) (k - chD k + 1) 0 := by rw [preN_zero D nd h.hi, preN_zero _ _ c6]
  have hR := pref_from a D nd (5 ^ k) (k - chD k + 1) (chC k) hd hlc hcl c7 (k - chD k + 1) 0 (by omega) hpre
  rw [List.drop_zero] at hR
  obtain ⟨R, hRR⟩ : ∃ R, decide (D * 10 ^ (k - chD k + 1) < 5 ^ k * 10 ^ nd) = R := ⟨_, rfl⟩
  rw [hRR] at hR
  have hd0 := h.nd1
  have e10 : 10 ^ k = 5 ^ k * 2 ^ k := by rw [← Nat.mul_pow]
  obtain ⟨δ, hδ⟩ : ∃ δ, chD k = δ + R.toNat := ⟨chD k - R.toNat, by have : R.toNat ≤ 1 := Bool.toNat_le R; omega⟩
  have hb : 10 ^ (nd + δ - 1) ≤ D * 2 ^ k ∧ D * 2 ^ k < 10 ^ (nd + δ) := by
    cases R
    · simp only [Bool.toNat_false, Nat.add_zero] at hδ
      rw [decide_eq_false_iff_not] at hRR
      constructor
      · have h1 : 5 ^ k * 10 ^ nd * 2 ^ k ≤ D * 10 ^ (k - chD k + 1) * 2 ^ k := Nat.mul_le_mul_right _ (by omega)
        have e1 : 5 ^ k * 10 ^ nd * 2 ^ k = 10 ^ (nd + δ - 1) * 10 ^ (k - chD k + 1) := by
          rw [Nat.mul_right_comm, ← e10, ← Nat.pow_add, ← Nat.pow_add]; congr 1; omega
        rw [e1, Nat.mul_right_comm] at h1
        exact Nat.le_of_mul_le_mul_right h1 (Nat.pow_pos (by omega))
      · rw [Nat.pow_add, ← hδ]
        exact Nat.mul_lt_mul'' h.hi c5
    · simp only [Bool.toNat_true] at hδ
      rw [decide_eq_true_eq] at hRR
      constructor
      · have e1 : nd + δ - 1 = (nd - 1) + (chD k - 1) := by omega
        rw [e1, Nat.pow_add]
        exact Nat.mul_le_mul h.lo c4
      · have h1 : D * 10 ^ (k - chD k + 1) * 2 ^ k < 5 ^ k * 10 ^ nd * 2 ^ k := Nat.mul_lt_mul_of_pos_right hRR (Nat.pow_pos (by omega))
        have e1 : 5 ^ k * 10 ^ nd * 2 ^ k = 10 ^ (nd + δ) * 10 ^ (k - chD k + 1) := by
          rw [Nat.mul_right_comm, ← e10, ← Nat.pow_add, ← Nat.pow_add]; congr 1; omega
        rw [e1, Nat.mul_right_comm] at h1
        exact Nat.lt_of_mul_lt_mul_right h1
  rw [hδ] at t1
  refine (leftShift_any w b nd D k δ B O (2 ^ k) a dp neg ⟨(chC k).toArray⟩ R hm hd h.hi h.nd1 hk rfl t0 t1 t2 (by simp [ByteArray.size, hlc]; omega) (by simpa using hR) (by omega) hb.1 hb.2 (by omega) (by omega) (by omega)).mono ?_
  rintro e w' ⟨rfl, ⟨a', g1, g2⟩, g3⟩
  obtain ⟨D', n', z, q1, q2, q3⟩ := dec_trim g1 g2 hb.1 hb.2 (by omega) (by omega)
  exact ⟨rfl, ⟨D', n', z, δ, q1, q2, q3, by omega⟩, g3⟩

/-- rightShift, of a number -/
theorem right_dec {w : World} {b D nd : Nat} {dp : Int} {neg : Bool} (h : DecW w b D nd dp neg) (k X : Nat) (hk : k ≤ 60) (hX : D * 10 ^ X % 2 ^ k = 0) (hn : nd + X ≤ 800) (hdp1 : -4000 ≤ dp) (hdp2 : dp ≤ 4000) :
    Calls Tryz.prog 269 #[.pointer (some ⟨b, 0, none⟩), .int .u64 k] w fun e w' => e = .returned (.tuple #[]) ∧ (∃ D' nd' x z r0 : Nat, DecIs w' b D' nd' (dp - ((r0 : Int) - 1)) neg ∧ D * 10 ^ x = 10 * 2 ^ k * (D' * 10 ^ z) ∧ r0 + nd' + z = nd + x ∧ 1 ≤ r0 ∧ r0 ≤ nd + 60) ∧ Kept (But b) w w' := by
  obtain ⟨a, hm, hd⟩ := h.mem
  have hD1 : 1 ≤ D := Nat.le_trans (Nat.pow_pos (by omega)) h.lo
  refine (rightShift_any w b nd D k (2 ^ k) X a dp neg hm hd h.hi hD1 h.nd1 hk rfl hX hn (by omega) (by omega)).mono ?_
  rintro e w' ⟨rfl, ⟨a', r0, m, W, g1, g2, g3, g4, g5, g6, g7, g8, g9, g10⟩, g11⟩
  obtain ⟨D', n', z, q1, q2, q3⟩ := dec_trim g1 g2 g8 g9 g6 g7
  refine ⟨rfl, ⟨D', n', r0 + m - nd, z, r0, q1, ?_, by omega, g4, g5⟩, g11⟩
  rw [g10, q2]
end Go.Proofs.YtgekdmjneogdoaaGreatDoor

namespace Go.Proofs.YtgekdmjneogdoaaGreatDoor
open Go.RowKit

set_option maxRecDepth 20000 in
set_option maxHeartbeats 800000 in
theorem shift_left (w : World) (b nd k : Nat) (P : World → Prop) (hk1 : 1 ≤ k) (hk : k ≤ 60) (hn1 : 1 ≤ nd) (c0 : w.cell? ⟨b, 800, none⟩ = some (.int .i64 (nd : Int)))
    (h : Calls Tryz.prog 268 #[.pointer (some ⟨b, 0, none⟩), .int .u64 k] w fun e w' => e = .returned (.tuple #[]) ∧ P w') :
    Calls Tryz.prog 229 #[.pointer (some ⟨b, 0, none⟩), .int .i64 k] w fun e w' => e = .returned (.tuple #[]) ∧ P w' := by
  have H := hide h
  clear h
  have h0 : ((nd : Int) == 0) = false := by rw [beq_eq_false_iff_ne]; omega
  have hpos : 0 < k := by omega
  have hno : ¬ (60 : Int) < (k : Int) := by omega
  have hn0 : ¬ nd = 0 := by omega
  go_enter Tryz.func229, Tryz.ntmps229
  go_wp2_with fail
  go_loopw [1] (fun x wr => x = .int .i64 (k : Int) ∧ wr = w) (fun _ _ => 0)
  case atStart => exact ⟨rfl, rfl⟩
  case round =>
    obtain ⟨rfl, hw⟩ := hrel
    rw [hw]
    clear hw
    go_wp2_with fail
    refine (unhide H).mono ?_
    rintro e w' ⟨rfl, hp⟩
    go_wp2_with fail
    go_end0
    exact ⟨rfl, hp⟩

set_option maxRecDepth 20000 in
set_option maxHeartbeats 800000 in
theorem shift_right (w : World) (b nd k : Nat) (P : World → Prop) (hk1 : 1 ≤ k) (hk : k ≤ 60) (hn1 : 1 ≤ nd) (c0 : w.cell? ⟨b, 800, none⟩ = some (.int .i64 (nd : Int)))
    (h : Calls Tryz.prog 269 #[.pointer (some ⟨b, 0, none⟩), .int .u64 k] w fun e w' => e = .returned (.tuple #[]) ∧ P w') :
    Calls Tryz.prog 229 #[.pointer (some ⟨b, 0, none⟩), .int .i64 (-(k : Int))] w fun e w' => e = .returned (.tuple #[]) ∧ P w' := by
  have H := hide h
  clear h
  have h0 : ((nd : Int) == 0) = false := by rw [beq_eq_false_iff_ne]; omega
  have hpos : ¬ (0 : Int) < -(k : Int) := by omega
  have hneg : -(k : Int) < 0 := by omega
  have hno : ¬ -(k : Int) < -60 := by omega
  have hn0 : ¬ nd = 0 := by omega
  go_enter Tryz.func229, Tryz.ntmps229
  go_wp2_with fail
  go_loopw [1] (fun x wr => x = .int .i64 (-(k : Int)) ∧ wr = w) (fun _ _ => 0)
  case atStart => exact ⟨rfl, rfl⟩
  case round =>
    obtain ⟨rfl, hw⟩ := hrel
    rw [hw]
    clear hw
    go_wp2_with fail
    refine (unhide H).mono ?_
    rintro e w' ⟨rfl, hp⟩
    go_wp2_with fail
    go_end0
    exact ⟨rfl, hp⟩

set_option maxRecDepth 20000 in
set_option maxHeartbeats 800000 in
theorem shift_right2 (w : World) (b nd k : Nat) (P P1 : World → Prop) (hk1 : 61 ≤ k) (hk : k ≤ 120) (hn1 : 1 ≤ nd) (c0 : w.cell? ⟨b, 800, none⟩ = some (.int .i64 (nd : Int)))
    (h1 : Calls Tryz.prog 269 #[.pointer (some ⟨b, 0, none⟩), .int .u64 60] w fun e w' => e = .returned (.tuple #[]) ∧ P1 w')
    (h : ∀ w1, P1 w1 → Calls Tryz.prog 269 #[.pointer (some ⟨b, 0, none⟩), .int .u64 (k - 60 : Nat)] w1 fun e w' => e = .returned (.tuple #[]) ∧ P w') :
    Calls Tryz.prog 229 #[.pointer (some ⟨b, 0, none⟩), .int .i64 (-(k : Int))] w fun e w' => e = .returned (.tuple #[]) ∧ P w' := by
  have H := hide h
  have H1 := hide h1
  clear h h1
  have h0 : ((nd : Int) == 0) = false := by rw [beq_eq_false_iff_ne]; omega
  have hpos : ¬ (0 : Int) < -(k : Int) := by omega
  have hneg : -(k : Int) < 0 := by omega
  have hn0 : ¬ nd = 0 := by omega
  obtain ⟨j, hj⟩ : ∃ j, k - 60 = j := ⟨_, rfl⟩
  have ej : -(k : Int) + 60 = -(j : Int) := by omega
  have hjb : 1 ≤ j ∧ j ≤ 60 := by omega
  have hno : ¬ -(j : Int) < -60 := by omega
  have hyes : -(k : Int) < -60 := by omega
  rw [hj] at H
  clear hj
  go_enter Tryz.func229, Tryz.ntmps229
  go_wp2_with fail
  go_loopw [1] (fun x wr => (x = .int .i64 (-(k : Int)) ∧ wr = w) ∨ (x = .int .i64 (-(j : Int)) ∧ P1 wr)) (fun x _ => (-(intOf x)).toNat)
  case atStart => exact Or.inl ⟨rfl, rfl⟩
  case round =>
    rcases hrel with ⟨rfl, hw⟩ | ⟨rfl, hp1⟩
    · rw [hw]
      clear hw
      go_wp2_with fail
      refine (unhide H1).mono ?_
      rintro e w' ⟨rfl, hp⟩
      have HP := hide hp
      clear hp
      go_wp2_with fail
      refine ⟨Or.inr ⟨rfl, unhide HP⟩, ?_⟩
      simp only [intOf]; omega
    · have HP1 := hide hp1
      clear hp1
      go_wp2_with fail
      refine (unhide H _ (unhide HP1)).mono ?_
      rintro e w' ⟨rfl, hp⟩
      go_wp2_with fail
      go_end0
      exact ⟨rfl, hp⟩
end Go.Proofs.YtgekdmjneogdoaaGreatDoor

namespace Go.Proofs.YtgekdmjneogdoaaGreatDoor
open Go.RowKit

/-! rounding a decimal to a whole number -/
def rndUp (D nd : Nat) (dp : Int) : Bool :=
  if dp < 0 ∨ (nd : Int) ≤ dp then false
  else if D / 10 ^ (nd - 1 - dp.toNat) % 10 = 5 ∧ dp.toNat + 1 = nd then decide (0 < dp) && decide (preN D nd dp.toNat % 2 = 1)
  else decide (5 ≤ D / 10 ^ (nd - 1 - dp.toNat) % 10)

theorem preN_mod (D nd r : Nat) (h1 : 1 ≤ r) (h2 : r ≤ nd) : preN D nd r % 2 = D / 10 ^ (nd - 1 - (r - 1)) % 10 % 2 := by
  have := preN_step D nd (r - 1) (by omega)
  rw [show r - 1 + 1 = r by omega] at this
  omega

set_option maxRecDepth 20000 in
set_option maxHeartbeats 800000 in
theorem roundUp_any (w : World) (b D nd : Nat) (dp : Int) (p0 : Int) (a : Nat → Nat) (neg : Bool) (h : DM w b a nd p0 neg false) (hd : DigsOf a D nd) (hn : nd ≤ 800) (h1 : -5000 ≤ dp) (h2 : dp ≤ 5000) :
    Calls Tryz.prog 270 #[.pointer (some ⟨b, 0, none⟩), .int .i64 dp] w fun e w' => e = .returned (.bool (rndUp D nd dp)) ∧ w' = w := by
  have c0 := h.nd
  have c3 := h.tr
  obtain ⟨R, hR⟩ : ∃ R, rndUp D nd dp = R := ⟨_, rfl⟩
  rw [hR]
  unfold rndUp at hR
  by_cases hneg : dp < 0
  · rw [if_pos (Or.inl hneg)] at hR
    subst hR
    have hd1 : decide (dp < 0) = true := by simp [hneg]
    go_enter Tryz.func270, Tryz.ntmps270
    go_wp2_with fail
    go_ret
    exact ⟨rfl, rfl⟩
  · obtain ⟨p, rfl⟩ : ∃ p : Nat, dp = (p : Int) := ⟨dp.toNat, by omega⟩
    by_cases hge : nd ≤ p
    · rw [if_pos (Or.inr (by omega))] at hR
      subst hR
      have hge' : (nd : Int) ≤ (p : Int) := by omega
      go_enter Tryz.func270, Tryz.ntmps270
      go_wp2_with fail
      go_ret
      exact ⟨rfl, rfl⟩
    · rw [if_neg (by omega), Int.toNat_natCast] at hR
      have hge' : decide (nd ≤ p) = false := by simp; omega
      obtain ⟨g, hg⟩ : ∃ g, D / 10 ^ (nd - 1 - p) % 10 = g := ⟨_, rfl⟩
      have hg9 : g ≤ 9 := by omega
      have cd := h.dig p (by omega)
      rw [hd p (by omega), hg] at cd
      rw [hg] at hR
      have hp8 : (p : Int) < 800 := by omega
      by_cases h5 : g = 5
      · subst h5
        by_cases hl : p + 1 = nd
        · rw [if_pos ⟨rfl, hl⟩] at hR
          have hl' : (p : Int) + 1 = (nd : Int) := by omega
          by_cases hp0 : p = 0
          · subst hp0
            simp at hR
            subst hR
            obtain rfl : nd = 1 := by omega
            go_enter Tryz.func270, Tryz.ntmps270
            go_wp2_with fail
            go_ret
            exact ⟨rfl, rfl⟩
          · have cp := h.dig (p - 1) (by omega)
            rw [hd (p - 1) (by omega)] at cp
            rw [preN_mod D nd p (by omega) (by omega)] at hR
            obtain ⟨q, hq⟩ : ∃ q, D / 10 ^ (nd - 1 - (p - 1)) % 10 = q := ⟨_, rfl⟩
            rw [hq] at hR cp
            have hq9 : q ≤ 9 := by omega
            have hpos : 0 < p := by omega
            have ep : (p : Int) - 1 = ((p - 1 : Nat) : Int) := by omega
            by_cases hpar : q % 2 = 1
            · have hR' : R = true := by rw [← hR]; simp [hpar]; omega
              subst hR'
              have e1 : (48 + (q : Int) - 48) % 2 = 1 := by omega
              have e2 : (q : Int) % 2 = 1 := by omega
              have e3 : q % 2 = 1 := hpar
              clear hR
              go_enter Tryz.func270, Tryz.ntmps270
              go_wp2_with fail
              go_ret
              exact ⟨rfl, rfl⟩
            · have hR' : R = false := by rw [← hR]; simp [hpar]
              subst hR'
              have e1 : (48 + (q : Int) - 48) % 2 = 0 := by omega
              have e2 : (q : Int) % 2 = 0 := by omega
              have e3 : q % 2 = 0 := by omega
              clear hR
              go_enter Tryz.func270, Tryz.ntmps270
              go_wp2_with fail
              go_ret
              exact ⟨rfl, rfl⟩
        · rw [if_neg (fun z => hl z.2)] at hR
          simp at hR
          subst hR
          have hl' : (((p : Int) + 1) == (nd : Int)) = false := by rw [beq_eq_false_iff_ne]; omega
          go_enter Tryz.func270, Tryz.ntmps270
          go_wp2_with fail
          go_ret
          exact ⟨rfl, rfl⟩
      · rw [if_neg (fun z => h5 z.1)] at hR
        have hne : ((48 + (g : Int)) == 53) = false := by rw [beq_eq_false_iff_ne]; omega
        by_cases hg5 : 5 ≤ g
        · have hR' : R = true := by rw [← hR]; simp [hg5]
          subst hR'
          have e1 : (53 : Int) ≤ 48 + (g : Int) := by omega
          clear hR
          go_enter Tryz.func270, Tryz.ntmps270
          go_wp2_with fail
          go_ret
          exact ⟨rfl, rfl⟩
        · have hR' : R = false := by rw [← hR]; simp [hg5]
          subst hR'
          have e1 : ¬ (53 : Int) ≤ 48 + (g : Int) := by omega
          clear hR
          go_enter Tryz.func270, Tryz.ntmps270
          go_wp2_with fail
          go_ret
          exact ⟨rfl, rfl⟩

set_option maxRecDepth 20000 in
set_option maxHeartbeats 1600000 in
theorem rint_any (w : World) (b D nd : Nat) (dp : Int) (neg : Bool) (a : Nat → Nat) (h : DM w b a nd dp neg false) (hd : DigsOf a D nd) (hD : D < 10 ^ nd) (hn : nd ≤ 800) (h1 : -5000 ≤ dp) (h2 : dp ≤ 18) :
    Calls Tryz.prog 300 #[.pointer (some ⟨b, 0, none⟩)] w fun e w' => e = .returned (.int .u64 (preN D nd dp.toNat + (rndUp D nd dp).toNat : Nat)) ∧ w' = w := by
  have c0 := h.nd
  have c1 := h.dp
  have HR := hide (roundUp_any w b D nd dp dp a neg h hd hn h1 (by omega))
  obtain ⟨R, hR⟩ : ∃ R, rndUp D nd dp = R := ⟨_, rfl⟩
  rw [hR] at HR ⊢
  clear hR
  have hbig : preN D nd dp.toNat < 1000000000000000000 := by
    have : 10 ^ dp.toNat ≤ 10 ^ 18 := Nat.pow_le_pow_right (by omega) (by omega)
    have h3 : preN D nd dp.toNat < 10 ^ dp.toNat := by
      unfold preN
      rw [Nat.div_lt_iff_lt_mul (Nat.pow_pos (by omega)), Nat.mul_comm]
      exact Nat.mul_lt_mul_of_pos_left hD (Nat.pow_pos (by omega))
    omega
  have HB := hide hbig
  have HD := hide hD
  have H := hide h
  have Hd := hide hd
  clear hbig hD h hd
  have h20 : ¬ (20 : Int) < dp := by omega
  obtain ⟨P, hP⟩ : ∃ P, dp.toNat = P := ⟨_, rfl⟩
  have hPd : (P = 0 ∧ dp ≤ 0) ∨ (dp = (P : Int)) := by omega
  rw [hP] at HB ⊢
  have hmono : Hid (∀ j, j ≤ P → preN D nd j < 1000000000000000000) := by
    intro j hj
    have hh : preN D nd j < 10 ^ j := by
      unfold preN
      rw [Nat.div_lt_iff_lt_mul (Nat.pow_pos (by omega)), Nat.mul_comm]
      exact Nat.mul_lt_mul_of_pos_left (unhide HD) (Nat.pow_pos (by omega))
    have : 10 ^ j ≤ 10 ^ 18 := Nat.pow_le_pow_right (by omega) (by omega)
    omega
  clear hP
  go_enter Tryz.func300, Tryz.ntmps300
  go_wp2_with fail
  go_loopw [3, 4] (fun i n wr => ∃ j z : Nat, j ≤ P ∧ j ≤ nd ∧ i = .int .i64 (j : Nat) ∧ n = .int .u64 (z : Nat) ∧ z < 1000000000000000000 ∧ Hid (preN D nd j = z) ∧ wr = w) (fun i _ _ => 800 - (intOf i).toNat)
  case atStart => exact ⟨0, 0, by omega, by omega, rfl, rfl, by omega, preN_zero D nd (unhide HD), rfl⟩
  case round =>
    obtain ⟨j, z, j1, j2, rfl, rfl, z1, z2, hw⟩ := hrel
    rw [hw]
    clear hw
    by_cases hc : j < P ∧ j < nd
    · obtain ⟨hc1, hc2⟩ := hc
      have hdp : dp = (P : Int) := by omega
      subst hdp
      obtain ⟨g, hg⟩ : ∃ g, D / 10 ^ (nd - 1 - j) % 10 = g := ⟨_, rfl⟩
      have hg9 : g ≤ 9 := by omega
      have cd := (unhide H).dig j (by omega)
      rw [(unhide Hd) j hc2, hg] at cd
      have HN := hide hg
      clear hg
      have hj8 : (j : Int) < 800 := by omega
      go_wp2_with fail
      refine ⟨⟨j + 1, z * 10 + g, by omega, by omega, by go_num, ?_, ?_, ?_, trivial⟩, ?_⟩
      · congr 1; push_cast; omega
      · have := unhide hmono (j + 1) (by omega)
        rw [preN_step D nd j hc2, unhide z2, unhide HN] at this
        exact this
      · unfold Hid
        rw [preN_step D nd j hc2, unhide z2, unhide HN]
      · simp [intOf]; omega
    · have hs : Hid (j = P ∨ (j = nd ∧ nd < P)) := by unfold Hid; omega
      have hexit : ¬ ((j : Int) < dp ∧ (j : Int) < (nd : Int)) := by omega
      have hrest : decide ((j : Int) < dp) = true → decide ((j : Int) < (nd : Int)) = false := by
        intro q
        rw [decide_eq_true_eq] at q
        rw [decide_eq_false_iff_not]
        omega
      have hjq : Hid (j = P ∨ nd ≤ j) := by
        rcases unhide hs with q | q
        · exact Or.inl q
        · exact Or.inr (by omega)
      clear hexit
      cases hdj : decide ((j : Int) < dp)
      all_goals
        first
          | (have hdn := hrest hdj
             have hdn2 : decide (j < nd) = false := by
               rw [decide_eq_false_iff_not] at hdn ⊢
               omega)
          | skip
        clear hrest
        go_wp2_with fail
        go_loopw [3, 4] (fun i n wr => ∃ q y : Nat, q ≤ P ∧ i = .int .i64 (q : Nat) ∧ n = .int .u64 (y : Nat) ∧ y < 1000000000000000000 ∧ Hid (preN D nd q = y ∧ (q = P ∨ nd ≤ q)) ∧ wr = w) (fun i _ _ => 800 - (intOf i).toNat)
        case atStart => exact ⟨j, z, j1, rfl, rfl, z1, ⟨unhide z2, unhide hjq⟩, rfl⟩
        case round =>
          clear z2 hjq hs z1 hc
          obtain ⟨q, y, q1, rfl, rfl, y1, y2, hw⟩ := hrel
          rw [hw]
          clear hw
          by_cases hqP : q < P
          · have hdp : dp = (P : Int) := by omega
            have hlt : (q : Int) < dp := by omega
            have hnq : nd ≤ q := by
              rcases (unhide y2).2 with e | e
              · omega
              · exact e
            have hb := unhide hmono (q + 1) (by omega)
            rw [preN_step' D nd q hnq, (unhide y2).1] at hb
            go_wp2_with fail
            refine ⟨⟨q + 1, y * 10, by omega, by go_num, by go_num, hb, ⟨?_, Or.inr (by omega)⟩, trivial⟩, ?_⟩
            · rw [preN_step' D nd q hnq, (unhide y2).1]
            · simp [intOf]; omega
          · have hqe : q = P := by omega
            have hlt : ¬ (q : Int) < dp := by omega
            have hy : Hid (preN D nd P = y) := by rw [← hqe]; exact (unhide y2).1
            go_wp2_with fail
            refine (unhide HR).mono ?_
            rintro e w' ⟨rfl, hw⟩
            rw [hw]
            clear hw
            cases R
            · go_wp2_with fail
              go_ret
              rw [unhide hy]
              exact ⟨rfl, rfl⟩
            · go_wp2_with fail
              go_ret
              rw [unhide hy]
              exact ⟨rfl, rfl⟩
end Go.Proofs.YtgekdmjneogdoaaGreatDoor

namespace Go.Proofs.YtgekdmjneogdoaaGreatDoor
open Go.RowKit

/-! a text's digits, all of them -/
def RF.run2 : RF → Nat → List UInt8 → RF × Nat × List UInt8
  | st, N, [] => (st, N, [])
  | st, N, c :: r => match st.step c.toNat with
    | none => (st, N, c :: r)
    | some st' => RF.run2 st' (if c.toNat = 46 then N else N * 10 + (c.toNat - 48)) r

theorem RF.run2_run : ∀ (l : List UInt8) (st : RF) (N : Nat), (RF.run2 st N l).1 = (RF.run st l).1 ∧ (RF.run2 st N l).2.2 = (RF.run st l).2 := by
  intro l
  induction l with
  | nil => intro st N; exact ⟨rfl, rfl⟩
  | cons c r ih =>
    intro st N
    unfold RF.run2 RF.run
    cases st.step c.toNat with
    | none => exact ⟨rfl, rfl⟩
    | some st' => exact ih st' _

theorem RF.run2_digits : ∀ (D R : List UInt8) (st : RF) (N : Nat), Digs D → ∃ st', RF.run2 st N (D ++ R) = RF.run2 st' (expVal N D) R ∧ RF.run st (D ++ R) = RF.run st' R ∧ st'.sd = st.sd := by
  intro D
  induction D with
  | nil => intro R st N _; exact ⟨st, rfl, rfl, rfl⟩
  | cons g D ih =>
    intro R st N hD
    obtain ⟨g1, g2⟩ := hD g List.mem_cons_self
    have hst : st.step g.toNat = some (st.digit g.toNat) := by
      unfold RF.step; rw [if_neg (by omega), if_pos ⟨g1, g2⟩]
    have hsd : (st.digit g.toNat).sd = st.sd := by
      unfold RF.digit
      split
      · rfl
      · split <;> rfl
    obtain ⟨st', e1, e2, e3⟩ := ih R (st.digit g.toNat) (N * 10 + (g.toNat - 48)) (fun c hc => hD c (List.mem_cons_of_mem _ hc))
    refine ⟨st', ?_, ?_, e3.trans hsd⟩
    · rw [List.cons_append, RF.run2, hst]
      simp only
      rw [if_neg (by omega)]
      exact e1
    · rw [List.cons_append, RF.run, hst]
      exact e2

theorem run2_body (A B T : List UInt8) (x : Int) (hA : Digs A) (hB : Digs B) (hT : TailOk T x) (st : RF) (h : RF.run RF.start (decBody A B T) = (st, T)) : RF.run2 RF.start 0 (decBody A B T) = (st, expVal 0 (A ++ B), T) := by
  have hp := RF.run2_run (decBody A B T) RF.start 0
  rw [h] at hp
  have hN : (RF.run2 RF.start 0 (decBody A B T)).2.1 = expVal 0 (A ++ B) := by
    have tail : ∀ (s : RF) (n : Nat), (RF.run2 s n T).2.1 = n := by
      intro s n
      rcases hT with ⟨rfl, _⟩ | ⟨R, es, ds, rfl, _, _⟩
      · rfl
      · have : s.step (101 : UInt8).toNat = none := by simp [RF.step]
        rw [RF.run2, this]
    unfold decBody
    by_cases hb : B = []
    · rw [if_pos hb, hb, List.append_nil]
      obtain ⟨s1, e1, _, _⟩ := RF.run2_digits A T RF.start 0 hA
      rw [e1, tail]
    · rw [if_neg hb, List.append_assoc]
      obtain ⟨s1, e1, _, e3⟩ := RF.run2_digits A ((46 :: B) ++ T) RF.start 0 hA
      have hst : s1.step (46 : UInt8).toNat = some { s1 with sd := true, dp := s1.nd } := by
        have : s1.sd = false := e3
        simp [RF.step, this]
      rw [e1, List.cons_append, RF.run2, hst]
      simp only
      rw [if_pos (by rfl)]
      obtain ⟨s2, e4, _, _⟩ := RF.run2_digits B T { s1 with sd := true, dp := s1.nd } (expVal 0 A) hB
      rw [e4, tail, expVal_app]
  rw [← hN]
  apply Prod.ext
  · exact hp.1
  · apply Prod.ext
    · rfl
    · exact hp.2

theorem DM.setNeg {w : World} {b : Nat} {a : Nat → Nat} {nd : Nat} {dp : Int} {neg tr : Bool} (h : DM w b a nd dp neg tr) (z : Bool) : DM (w.setCell ⟨b, 802, none⟩ (.bool z)) b a nd dp z tr := by
  refine ⟨fun j hj => ?_, ?_, ?_, ?_, ?_, fun j => by rw [World.frozen?_setCell]; exact h.fz j⟩
  · rw [World.cell?_setCell_other _ _ _ _ (addr_ne (by omega))]; exact h.dig j hj
  · rw [World.cell?_setCell_other _ _ _ _ (addr_ne (by omega))]; exact h.nd
  · rw [World.cell?_setCell_other _ _ _ _ (addr_ne (by omega))]; exact h.dp
  · exact World.cell?_setCell_same _ _ _ h.neg
  · rw [World.cell?_setCell_other _ _ _ _ (addr_ne (by omega))]; exact h.tr
theorem DM.setTr {w : World} {b : Nat} {a : Nat → Nat} {nd : Nat} {dp : Int} {neg tr : Bool} (h : DM w b a nd dp neg tr) (z : Bool) : DM (w.setCell ⟨b, 803, none⟩ (.bool z)) b a nd dp neg z := by
  refine ⟨fun j hj => ?_, ?_, ?_, ?_, ?_, fun j => by rw [World.frozen?_setCell]; exact h.fz j⟩
  · rw [World.cell?_setCell_other _ _ _ _ (addr_ne (by omega))]; exact h.dig j hj
  · rw [World.cell?_setCell_other _ _ _ _ (addr_ne (by omega))]; exact h.nd
  · rw [World.cell?_setCell_other _ _ _ _ (addr_ne (by omega))]; exact h.dp
  · rw [World.cell?_setCell_other _ _ _ _ (addr_ne (by omega))]; exact h.neg
  · exact World.cell?_setCell_same _ _ _ h.tr
end Go.Proofs.YtgekdmjneogdoaaGreatDoor
