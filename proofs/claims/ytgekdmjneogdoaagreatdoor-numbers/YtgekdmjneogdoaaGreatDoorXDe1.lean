import Derived.Test.YtgekdmjneogdoaaGreatDoorXChWr
import Derived.Test.YtgekdmjneogdoaaGreatDoorXLaws
import Derived.Test.YtgekdmjneogdoaaGreatDoorXTabs
import Derived.WalkMore
import Derived.BigQuiet
import Derived.Deep.QuietTactic
namespace Go.Proofs.YtgekdmjneogdoaaGreatDoor
open Go.RowKit

/-! a decimal of the library's slow road, in memory: its digits, how many, the point, the sign, whether some were cut off -/
structure DM (w : World) (b : Nat) (a : Nat → Nat) (nd : Nat) (dp : Int) (neg tr : Bool) : Prop where
  dig : ∀ i, i < 800 → w.cell? ⟨b, i, none⟩ = some (.int .u8 ((a i : Nat) : Int))
  nd : w.cell? ⟨b, 800, none⟩ = some (.int .i64 (nd : Int))
  dp : w.cell? ⟨b, 801, none⟩ = some (.int .i64 dp)
  neg : w.cell? ⟨b, 802, none⟩ = some (.bool neg)
  tr : w.cell? ⟨b, 803, none⟩ = some (.bool tr)
  fz : ∀ i, w.frozen? ⟨b, i, none⟩ = false

theorem addr_ne {b i j : Nat} (h : i ≠ j) : (⟨b, i, none⟩ : Addr) ≠ ⟨b, j, none⟩ := fun e => h (by injection e)

theorem DM.setDig {w : World} {b : Nat} {a : Nat → Nat} {nd : Nat} {dp : Int} {neg tr : Bool} (h : DM w b a nd dp neg tr) (i v : Nat) (hi : i < 800) : DM (w.setCell ⟨b, i, none⟩ (.int .u8 (v : Int))) b (fun j => if j = i then v else a j) nd dp neg tr := by
  refine ⟨fun j hj => ?_, ?_, ?_, ?_, ?_, fun j => by rw [World.frozen?_setCell]; exact h.fz j⟩
  · by_cases e : j = i
    · subst e; rw [World.cell?_setCell_same _ _ _ (h.dig j hj)]; simp
    · rw [World.cell?_setCell_other _ _ _ _ (addr_ne (fun q => e q.symm)), h.dig j hj]; simp [e]
  · rw [World.cell?_setCell_other _ _ _ _ (addr_ne (by omega))]; exact h.nd
  · rw [World.cell?_setCell_other _ _ _ _ (addr_ne (by omega))]; exact h.dp
  · rw [World.cell?_setCell_other _ _ _ _ (addr_ne (by omega))]; exact h.neg
  · rw [World.cell?_setCell_other _ _ _ _ (addr_ne (by omega))]; exact h.tr

theorem DM.setNd {w : World} {b : Nat} {a : Nat → Nat} {nd : Nat} {dp : Int} {neg tr : Bool} (h : DM w b a nd dp neg tr) (n : Nat) (z : Int) (hz : z = (n : Int)) : DM (w.setCell ⟨b, 800, none⟩ (.int .i64 z)) b a n dp neg tr := by
  subst hz
  refine ⟨fun j hj => ?_, ?_, ?_, ?_, ?_, fun j => by rw [World.frozen?_setCell]; exact h.fz j⟩
  · rw [World.cell?_setCell_other _ _ _ _ (addr_ne (by omega))]; exact h.dig j hj
  · exact World.cell?_setCell_same _ _ _ h.nd
  · rw [World.cell?_setCell_other _ _ _ _ (addr_ne (by omega))]; exact h.dp
  · rw [World.cell?_setCell_other _ _ _ _ (addr_ne (by omega))]; exact h.neg
  · rw [World.cell?_setCell_other _ _ _ _ (addr_ne (by omega))]; exact h.tr

theorem DM.setDp {w : World} {b : Nat} {a : Nat → Nat} {nd : Nat} {dp : Int} {neg tr : Bool} (h : DM w b a nd dp neg tr) (z : Int) : DM (w.setCell ⟨b, 801, none⟩ (.int .i64 z)) b a nd z neg tr := by
  refine ⟨fun j hj => ?_, ?_, ?_, ?_, ?_, fun j => by rw [World.frozen?_setCell]; exact h.fz j⟩
  · rw [World.cell?_setCell_other _ _ _ _ (addr_ne (by omega))]; exact h.dig j hj
  · rw [World.cell?_setCell_other _ _ _ _ (addr_ne (by omega))]; exact h.nd
  · exact World.cell?_setCell_same _ _ _ h.dp
  · rw [World.cell?_setCell_other _ _ _ _ (addr_ne (by omega))]; exact h.neg
  · rw [World.cell?_setCell_other _ _ _ _ (addr_ne (by omega))]; exact h.tr

theorem DM.drewN {w : World} {b : Nat} {a : Nat → Nat} {nd : Nat} {dp : Int} {neg tr : Bool} (h : DM w b a nd dp neg tr) (n : Nat) : DM (w.drewN n) b a nd dp neg tr :=
  ⟨fun j hj => h.dig j hj, h.nd, h.dp, h.neg, h.tr, fun j => h.fz j⟩

theorem DM.lt {w : World} {b : Nat} {a : Nat → Nat} {nd : Nat} {dp : Int} {neg tr : Bool} (h : DM w b a nd dp neg tr) : b < w.heap.size := lt_of_cell h.nd

/-- all but one block as it was -/
abbrev But (b : Nat) : Nat → Prop := fun k => k ≠ b
theorem kept_set (b i : Nat) (v : Value) (w : World) : Kept (But b) w (w.setCell ⟨b, i, none⟩ v) :=
  ⟨rfl, rfl, rfl, by simp, fun k hk => Below.heap_setCell w _ v k hk⟩
theorem kdrewN (K : Nat → Prop) (n : Nat) (w : World) : Kept K w (w.drewN n) := ⟨rfl, rfl, rfl, Nat.le_refl _, fun _ _ => rfl⟩

/-- how many digits are left without the noughts at the end -/
def trimA (a : Nat → Nat) : Nat → Nat
  | 0 => 0
  | n + 1 => if a n = 48 then trimA a n else n + 1

theorem trimA_le (a : Nat → Nat) : ∀ n, trimA a n ≤ n := by
  intro n
  induction n with
  | zero => simp [trimA]
  | succ n ih => unfold trimA; split <;> omega

set_option maxRecDepth 20000 in
set_option maxHeartbeats 800000 in
theorem trim_any (w : World) (b nd : Nat) (a : Nat → Nat) (dp : Int) (neg tr : Bool) (h : DM w b a nd dp neg tr) (hn : nd ≤ 800) :
    Calls Tryz.prog 267 #[.pointer (some ⟨b, 0, none⟩)] w fun e w' => e = .returned (.tuple #[]) ∧ DM w' b a (trimA a nd) (if trimA a nd = 0 then 0 else dp) neg tr ∧ Kept (But b) w w' := by
  obtain ⟨D, hD⟩ : ∃ D, (if trimA a nd = 0 then 0 else dp) = D := ⟨_, rfl⟩
  obtain ⟨T, hTr⟩ : ∃ T, trimA a nd = T := ⟨_, rfl⟩
  rw [hD, hTr]
  rw [hTr] at hD
  have HD := hide hD
  have HTr := hide hTr
  clear hD hTr
  have H := hide h
  clear h
  go_enter Tryz.func267, Tryz.ntmps267
  go_wp2_with fail
  go_loopw [] (fun wr => ∃ n : Nat, n ≤ nd ∧ Hid (trimA a n = T) ∧ Hid (DM wr b a n dp neg tr) ∧ Hid (Kept (But b) w wr)) (fun wr => match wr.cell? ⟨b, 800, none⟩ with | some (.int .i64 h) => h.toNat | _ => 0)
  case atStart => exact ⟨nd, Nat.le_refl _, HTr, H, Kept.refl _ _⟩
  case round =>
    obtain ⟨n, n1, n2, n3, n4⟩ := hrel
    have c0 := (unhide n3).nd
    have c1 := (unhide n3).dp
    have f0 := (unhide n3).fz 800
    have f1 := (unhide n3).fz 801
    by_cases hn0 : n = 0
    · subst hn0
      have e0 : T = 0 := (unhide n2).symm
      have eD : D = 0 := by have := unhide HD; rw [e0, if_pos rfl] at this; exact this.symm
      clear HD HTr
      subst e0
      subst eD
      go_wp2_with fail
      go_quiet (fail)
      go_wp2_with fail
      go_end0
      exact ⟨rfl, ((unhide n3).drewN nq).setDp 0, (unhide n4).trans ((kdrewN _ nq wr).trans (kept_set b 801 _ _))⟩
    · have cd := (unhide n3).dig (n - 1) (by omega)
      have hpos : 0 < n := by omega
      have hi : (n : Int) - 1 = ((n - 1 : Nat) : Int) := by omega
      by_cases h48 : a (n - 1) = 48
      · have q2 : Hid (trimA a (n - 1) = T) := by
          have := unhide n2
          obtain ⟨k, rfl⟩ : ∃ k, n = k + 1 := ⟨n - 1, by omega⟩
          rw [Nat.add_sub_cancel] at h48 ⊢
          rw [← this]
          unfold Hid
          rw [trimA, if_pos h48]
        rw [h48] at cd
        go_wp2_with fail
        go_quiet (fail)
        go_wp2_with fail
        refine ⟨⟨n - 1, by omega, q2, ((unhide n3).drewN nq).setNd (n - 1) _ rfl, (unhide n4).trans ((kdrewN _ nq wr).trans (kept_set b 800 _ _))⟩, ?_⟩
        rw [World.cell?_setCell_same _ _ _ ((unhide n3).drewN nq).nd, c0]
        show ((n - 1 : Nat) : Int).toNat < (n : Int).toNat
        omega
      · have e0 : T = n := by
          have := unhide n2
          obtain ⟨k, rfl⟩ : ∃ k, n = k + 1 := ⟨n - 1, by omega⟩
          rw [Nat.add_sub_cancel] at h48
          rw [← this, trimA, if_neg h48]
        have eD : D = dp := by have := unhide HD; rw [e0, if_neg hn0] at this; exact this.symm
        have hne : ((a (n - 1) : Int) == 48) = false := by rw [beq_eq_false_iff_ne]; omega
        have hne0 : ((n : Int) == 0) = false := by rw [beq_eq_false_iff_ne]; omega
        clear HD HTr n2
        subst e0
        subst eD
        go_wp2_with fail
        go_quiet (fail)
        go_wp2_with fail
        go_end0
        exact ⟨rfl, (unhide n3).drewN nq, (unhide n4).trans (kdrewN _ nq wr)⟩
end Go.Proofs.YtgekdmjneogdoaaGreatDoor

namespace Go.Proofs.YtgekdmjneogdoaaGreatDoor
open Go.RowKit

/-- do the digits, from the i-th on, stand ahead of these? -/
def prefLt (a : Nat → Nat) (nd : Nat) : List UInt8 → Nat → Bool
  | [], _ => false
  | c :: r, i => if nd ≤ i then true else if a i = c.toNat then prefLt a nd r (i + 1) else decide (a i < c.toNat)

set_option maxRecDepth 20000 in
set_option maxHeartbeats 800000 in
theorem prefix_less (w : World) (b nd cap : Nat) (a : Nat → Nat) (s : ByteArray) (hc : ∀ i, i < nd → w.cell? ⟨b, i, none⟩ = some (.int .u8 ((a i : Nat) : Int))) (hn : nd ≤ 800) (hs : s.size ≤ 100) :
    Calls Tryz.prog 295 #[.slice (some ⟨b, 0, none⟩) nd cap, .string s] w fun e w' => e = .returned (.bool (prefLt a nd s.data.toList 0)) ∧ ∃ m, w' = w.drewN m := by
  obtain ⟨R, hR⟩ : ∃ R, prefLt a nd s.data.toList 0 = R := ⟨_, rfl⟩
  rw [hR]
  have HR := hide hR
  have HC := hide hc
  clear hR hc
  go_enter Tryz.func295, Tryz.ntmps295
  go_wp2_with fail
  go_loopw [5] (fun i wr => ∃ q m : Nat, q ≤ s.size ∧ i = .int .i64 q ∧ Hid (prefLt a nd (s.data.toList.drop q) q = R) ∧ wr = w.drewN m) (fun i _ => s.size - (intOf i).toNat)
  case atStart => exact ⟨0, 0, by omega, rfl, HR, rfl⟩
  case round =>
    obtain ⟨q, m, q1, rfl, q3, rfl⟩ := hrel
    by_cases hlt : q < s.size
    · have hd := hide (drop_byte s q hlt)
      by_cases hnd : nd ≤ q
      · have e : R = true := by
          have h := unhide q3
          rw [unhide hd, prefLt, if_pos hnd] at h
          exact h.symm
        subst e
        go_wp2_with fail
        go_ret
        exact ⟨rfl, m, rfl⟩
      · have hc := unhide HC q (by omega)
        have hb1 : q < nd := by omega
        by_cases he : a q = s[q].toNat
        · have q4 : Hid (prefLt a nd (s.data.toList.drop (q + 1)) (q + 1) = R) := by
            have h := unhide q3
            rw [unhide hd, prefLt, if_neg hnd, if_pos he] at h
            exact h
          have hne : ((a q : Int) == (s[q].toNat : Int)) = true := by rw [beq_iff_eq]; omega
          have hne2 : ((a q : Int) != (s[q].toNat : Int)) = false := by rw [bne_eq_false_iff_eq]; omega
          go_wp2_with fail
          go_quiet (fail)
          go_wp2_with fail
          refine ⟨⟨q + 1, m + nq, by omega, by go_num, q4, rfl⟩, ?_⟩
          simp [intOf]; omega
        · have e : R = decide (a q < s[q].toNat) := by
            have h := unhide q3
            rw [unhide hd, prefLt, if_neg hnd, if_neg he] at h
            exact h.symm
          have hne2 : ((a q : Int) != (s[q].toNat : Int)) = true := by rw [bne_iff_ne]; omega
          go_wp2_with fail
          go_quiet (fail)
          go_wp2_with fail
          go_quiet (fail)
          go_wp2_with fail
          go_ret
          rw [← e]
          exact ⟨rfl, _, by rw [World.drewN_drewN, World.drewN_drewN]⟩
    · have hq : q = s.size := by omega
      have e : R = false := by
        have h := unhide q3
        rw [List.drop_of_length_le (by simp; omega)] at h
        exact h.symm
      subst hq
      subst e
      go_wp2_with fail
      go_ret
      exact ⟨rfl, m, rfl⟩
end Go.Proofs.YtgekdmjneogdoaaGreatDoor

namespace Go.Proofs.YtgekdmjneogdoaaGreatDoor
open Go.RowKit

/-! long multiplication by a power of two, from the last digit on -/
def carryN (D Q x : Nat) : Nat := D % 10 ^ x * Q / 10 ^ x

theorem mod_ten (D x : Nat) : D % 10 ^ (x + 1) = D / 10 ^ x % 10 * 10 ^ x + D % 10 ^ x := by
  rw [Nat.pow_succ, Nat.mod_mul, Nat.mul_comm (D / 10 ^ x % 10), Nat.add_comm]

theorem carry_sum (D Q x : Nat) : D % 10 ^ (x + 1) * Q / 10 ^ x = carryN D Q x + D / 10 ^ x % 10 * Q := by
  unfold carryN
  rw [mod_ten, Nat.add_mul, Nat.mul_right_comm, Nat.add_comm, Nat.add_mul_div_right _ _ (Nat.pow_pos (by omega))]

theorem carry_div (D Q x : Nat) : (carryN D Q x + D / 10 ^ x % 10 * Q) / 10 = carryN D Q (x + 1) := by
  rw [← carry_sum, Nat.div_div_eq_div_mul, ← Nat.pow_succ]
  rfl

theorem carry_mod (D Q x : Nat) : (carryN D Q x + D / 10 ^ x % 10 * Q) % 10 = D * Q / 10 ^ x % 10 := by
  rw [← carry_sum]
  have h : D * Q / 10 ^ x = D / 10 ^ (x + 1) * Q * 10 + D % 10 ^ (x + 1) * Q / 10 ^ x := by
    have e : D * Q = D % 10 ^ (x + 1) * Q + D / 10 ^ (x + 1) * Q * 10 * 10 ^ x := by
      conv => lhs; rw [← Nat.div_add_mod D (10 ^ (x + 1))]
      rw [Nat.add_mul, Nat.add_comm, Nat.pow_succ]
      congr 1
      simp only [Nat.mul_assoc, Nat.mul_comm, Nat.mul_left_comm]
    rw [e, Nat.add_mul_div_right _ _ (Nat.pow_pos (by omega)), Nat.add_comm]
  rw [h]
  omega

theorem carry_lt (D Q x : Nat) (hQ : 0 < Q) : carryN D Q x < Q := by
  unfold carryN
  rw [Nat.div_lt_iff_lt_mul (Nat.pow_pos (by omega)), Nat.mul_comm]
  exact Nat.mul_lt_mul_of_pos_left (Nat.mod_lt _ (Nat.pow_pos (by omega))) hQ

theorem carry_all (D Q x : Nat) (h : D < 10 ^ x) : carryN D Q x = D * Q / 10 ^ x := by
  unfold carryN
  rw [Nat.mod_eq_of_lt h]

/-- the digits of a number of n digits, as bytes -/
def DigsOf (a : Nat → Nat) (D n : Nat) : Prop := ∀ i, i < n → a i = 48 + D / 10 ^ (n - 1 - i) % 10

theorem DigsOf.trim {a : Nat → Nat} {D n : Nat} (h : DigsOf a D n) : ∀ j, j ≤ n → D / 10 ^ (n - j) = D / 10 ^ (n - trimA a j) * 10 ^ (j - trimA a j) := by
  intro j
  induction j with
  | zero => intro _; simp [trimA]
  | succ j ih =>
    intro hj
    unfold trimA
    by_cases h48 : a j = 48
    · rw [if_pos h48]
      have h0 : D / 10 ^ (n - (j + 1)) % 10 = 0 := by
        have := h j (by omega)
        rw [h48, show n - 1 - j = n - (j + 1) by omega] at this
        omega
      have hs : D / 10 ^ (n - (j + 1)) = D / 10 ^ (n - j) * 10 := by
        have e : n - j = (n - (j + 1)) + 1 := by omega
        rw [e, Nat.pow_succ, ← Nat.div_div_eq_div_mul]
        omega
      have ht := trimA_le a j
      rw [hs, ih (by omega), show j + 1 - trimA a j = (j - trimA a j) + 1 by omega, Nat.pow_succ, ← Nat.mul_assoc]
    · rw [if_neg h48]; simp

theorem trimA_last (a : Nat → Nat) : ∀ n, trimA a n ≠ 0 → a (trimA a n - 1) ≠ 48 := by
  intro n
  induction n with
  | zero => intro h; exact absurd rfl h
  | succ n ih =>
    intro h
    unfold trimA at h ⊢
    by_cases h48 : a n = 48
    · rw [if_pos h48] at h ⊢; exact ih h
    · rw [if_neg h48]; simpa using h48

/-- a decimal that is trimmed: its number, which ends in no nought -/
structure DecIs (w : World) (b : Nat) (D nd : Nat) (dp : Int) (neg : Bool) : Prop where
  mem : ∃ a, DM w b a nd dp neg false ∧ DigsOf a D nd
  lo : 10 ^ (nd - 1) ≤ D
  hi : D < 10 ^ nd
  nd1 : 1 ≤ nd
  nd8 : nd ≤ 800
  last : D % 10 ≠ 0

/-- the same, whatever it ends in -/
structure DecW (w : World) (b : Nat) (D nd : Nat) (dp : Int) (neg : Bool) : Prop where
  mem : ∃ a, DM w b a nd dp neg false ∧ DigsOf a D nd
  lo : 10 ^ (nd - 1) ≤ D
  hi : D < 10 ^ nd
  nd1 : 1 ≤ nd
  nd8 : nd ≤ 800
theorem DecIs.weak {w : World} {b D nd : Nat} {dp : Int} {neg : Bool} (h : DecIs w b D nd dp neg) : DecW w b D nd dp neg := ⟨h.mem, h.lo, h.hi, h.nd1, h.nd8⟩

/-- what trim leaves -/
theorem dec_trim {w : World} {b D n : Nat} {a : Nat → Nat} {dp : Int} {neg : Bool} (h : DM w b a (trimA a n) (if trimA a n = 0 then 0 else dp) neg false) (hd : DigsOf a D n) (hlo : 10 ^ (n - 1) ≤ D) (hhi : D < 10 ^ n) (hn1 : 1 ≤ n) (hn : n ≤ 800) :
    ∃ D' n' z, DecIs w b D' n' dp neg ∧ D = D' * 10 ^ z ∧ n = n' + z := by
  have ht := trimA_le a n
  have e1 := hd.trim n (Nat.le_refl _)
  rw [Nat.sub_self, Nat.pow_zero, Nat.div_one] at e1
  have hD0 : 0 < D := Nat.lt_of_lt_of_le (Nat.pow_pos (by omega)) hlo
  have ht0 : trimA a n ≠ 0 := by
    intro h0
    rw [h0, Nat.sub_zero, Nat.div_eq_of_lt hhi, Nat.zero_mul] at e1
    omega
  have hlast := trimA_last a n ht0
  generalize hT : trimA a n = t at *
  rw [if_neg ht0] at h
  have hP : 0 < 10 ^ (n - t) := Nat.pow_pos (by omega)
  refine ⟨D / 10 ^ (n - t), t, n - t, ⟨⟨a, h, fun i hi => ?_⟩, ?_, ?_, by omega, by omega, ?_⟩, e1, by omega⟩
  · rw [hd i (by omega), Nat.div_div_eq_div_mul, ← Nat.pow_add, show n - t + (t - 1 - i) = n - 1 - i by omega]
  · rw [Nat.le_div_iff_mul_le hP, ← Nat.pow_add, show t - 1 + (n - t) = n - 1 by omega]; exact hlo
  · rw [Nat.div_lt_iff_lt_mul hP, ← Nat.pow_add, show t + (n - t) = n by omega]; exact hhi
  · intro h0
    have := hd (t - 1) (by omega)
    rw [show n - 1 - (t - 1) = n - t by omega, h0] at this
    exact hlast this
end Go.Proofs.YtgekdmjneogdoaaGreatDoor

namespace Go.Proofs.YtgekdmjneogdoaaGreatDoor
open Go.RowKit

set_option maxRecDepth 100000 in
set_option maxHeartbeats 2000000 in
theorem leftShift_any (w : World) (b nd D k δ B O Q : Nat) (a : Nat → Nat) (dp : Int) (neg : Bool) (cut : ByteArray) (R : Bool)
    (h : DM w b a nd dp neg false) (hd : DigsOf a D nd) (hD : D < 10 ^ nd) (hn1 : 1 ≤ nd) (hk : k ≤ 60) (hQ : 2 ^ k = Q)
    (t0 : w.cell? ⟨11, 0, none⟩ = some (.slice (some ⟨B, O, none⟩) 61 61)) (t1 : w.cell? ⟨B, O + k * 2, none⟩ = some (.int .i64 ((δ + R.toNat : Nat) : Int))) (t2 : w.cell? ⟨B, O + k * 2 + 1, none⟩ = some (.string cut)) (hcs : cut.size ≤ 100)
    (hR : prefLt a nd cut.data.toList 0 = R) (hδ0 : δ ≤ 30)
    (hlo : 10 ^ (nd + δ - 1) ≤ D * Q) (hhi : D * Q < 10 ^ (nd + δ)) (hn : nd + δ ≤ 799) (hdp1 : -5000 ≤ dp) (hdp2 : dp ≤ 5000) :
    Calls Tryz.prog 268 #[.pointer (some ⟨b, 0, none⟩), .int .u64 k] w fun e w' => e = .returned (.tuple #[]) ∧ (∃ a', DM w' b a' (trimA a' (nd + δ)) (if trimA a' (nd + δ) = 0 then 0 else dp + δ) neg false ∧ DigsOf a' (D * Q) (nd + δ)) ∧ Kept (But b) w w' := by
  have HP : Hid (∀ n, Calls Tryz.prog 295 #[.slice (some ⟨b, 0, none⟩) nd 800, .string cut] (w.drewN n) fun e w' => e = .returned (.bool R) ∧ ∃ m, w' = (w.drewN n).drewN m) := fun n => by
    have := prefix_less (w.drewN n) b nd 800 a cut (fun i hi => (h.drewN n).dig i (by omega)) (by omega) hcs
    rw [hR] at this
    exact this
  have c0 := h.nd
  have H := hide h
  have Hd := hide hd
  have Hlo := hide hlo
  have Hhi := hide hhi
  have HD := hide hD
  have HQ := hide hQ
  have hk61 : (k : Int) < 61 := by omega
  have hnd8 : (nd : Int) ≤ 800 := by omega
  clear h hd hlo hhi hD hQ hR
  cases R
  all_goals
    simp only [Bool.toNat_false, Bool.toNat_true, Nat.add_zero] at t1
    go_enter Tryz.func268, Tryz.ntmps268
    go_wp2_with fail
    go_quiet ((go_at_call 295; exact Calls.quiet_of (unhide HP _)))
    go_wp2_with fail
    go_loopw [5, 6, 7] (fun r wv n wr => ∃ (j : Nat) (aj : Nat → Nat), j ≤ nd ∧ r = .int .i64 ((j : Int) - 1) ∧ wv = .int .i64 ((j + δ : Nat) : Int) ∧ n = .int .u64 (carryN D Q (nd - j) : Nat) ∧ Hid ((∀ i, i < j → aj i = a i) ∧ (∀ i, j + δ ≤ i → i < nd + δ → aj i = 48 + D * Q / 10 ^ (nd + δ - 1 - i) % 10)) ∧ Hid (DM wr b aj nd dp neg false) ∧ Hid (Kept (But b) w wr)) (fun r _ _ _ => (intOf r + 1).toNat)
    case atStart =>
      refine ⟨nd, a, Nat.le_refl _, rfl, by go_num, ?_, ⟨fun _ _ => rfl, fun i h1 h2 => by omega⟩, (unhide H).drewN nq, kdrewN _ nq w⟩
      rw [Nat.sub_self]; unfold carryN; rw [Nat.pow_zero, Nat.mod_one, Nat.zero_mul, Nat.zero_div]; rfl
    case round =>
      obtain ⟨j, aj, j1, rfl, rfl, rfl, j5, j6, j7⟩ := hrel
      by_cases hj : j = 0
      · subst hj
        go_wp2_with fail
        go_loopw [6, 7] (fun wv n wz => ∃ (q m : Nat) (aq : Nat → Nat), q ≤ δ ∧ wv = .int .i64 (q : Int) ∧ n = .int .u64 (m : Nat) ∧ Hid (m = D * Q / 10 ^ (nd + δ - q) ∧ (∀ i, q ≤ i → i < nd + δ → aq i = 48 + D * Q / 10 ^ (nd + δ - 1 - i) % 10)) ∧ Hid (DM wz b aq nd dp neg false) ∧ Hid (Kept (But b) w wz)) (fun _ n _ => (intOf n).toNat)
        case atStart =>
          refine ⟨δ, carryN D Q nd, aj, Nat.le_refl _, by go_num, rfl, ⟨?_, fun i h1 h2 => (unhide j5).2 i (by omega) h2⟩, j6, j7⟩
          rw [carry_all D Q nd (unhide HD), Nat.add_sub_cancel]
        case round =>
          obtain ⟨q, m, aq, q1, rfl, rfl, q4, q5, q6⟩ := hrel
          by_cases hm0 : m = 0
          · have hq0 : q = 0 := by
              rcases Nat.eq_zero_or_pos q with z | z
              · exact z
              · exfalso
                have e := (unhide q4).1
                have h1 : 10 ^ (nd + δ - q) ≤ 10 ^ (nd + δ - 1) := Nat.pow_le_pow_right (by omega) (by omega)
                have h2 : 1 ≤ D * Q / 10 ^ (nd + δ - q) := (Nat.le_div_iff_mul_le (Nat.pow_pos (by omega))).2 (by rw [Nat.one_mul]; exact Nat.le_trans h1 (unhide Hlo))
                omega
            subst hm0
            subst hq0
            have hdig : Hid (DigsOf aq (D * Q) (nd + δ)) := fun i hi => (unhide q4).2 i (by omega) hi
            have d0 := (unhide q5).nd
            have d1 := (unhide q5).dp
            have f0 := (unhide q5).fz 800
            have f1 := (unhide q5).fz 801
            have HM := hide (((unhide q5).setNd (nd + δ) ((nd : Int) + (δ : Int)) (by omega)).setDp (dp + (δ : Int)))
            have h8' : ¬ (800 : Int) ≤ (nd : Int) + (δ : Int) := by omega
            go_wp2_with fail
            refine (trim_any _ b (nd + δ) aq (dp + (δ : Int)) neg false (unhide HM) (by omega)).mono ?_
            rintro e w' ⟨rfl, hT, hK⟩
            have HT := hide hT
            have HK := hide hK
            clear hT hK
            go_wp2_with fail
            go_end0
            exact ⟨rfl, ⟨aq, unhide HT, unhide hdig⟩, (unhide q6).trans (((kept_set b 800 _ _).trans (kept_set b 801 _ _)).trans (unhide HK))⟩
          · have hq0 : q ≠ 0 := by
              intro z
              have e := (unhide q4).1
              rw [z, Nat.sub_zero, Nat.div_eq_of_lt (unhide Hhi)] at e
              exact hm0 e
            have hpos : 0 < m := by omega
            have hmb : m < 1152921504606846977 := by
              have e := (unhide q4).1
              have h1 : D * Q / 10 ^ (nd + δ - q) ≤ D * Q / 10 ^ nd := Nat.div_le_div_left (Nat.pow_le_pow_right (by omega) (by omega)) (Nat.pow_pos (by omega))
              have h2 := carry_all D Q nd (unhide HD)
              have hQ60 : Q ≤ 1152921504606846976 := by
                rw [← unhide HQ]; exact Nat.pow_le_pow_right (by omega) hk
              have hQ0 : 0 < Q := by rw [← unhide HQ]; exact Nat.pow_pos (by omega)
              have h3 := carry_lt D Q nd hQ0
              omega
            obtain ⟨m1, hm1⟩ : ∃ m1, m / 10 = m1 := ⟨_, rfl⟩
            have e3 : (m : Int) / 10 = (m1 : Int) := by omega
            obtain ⟨r1, hr1⟩ : ∃ r1, m % 10 = r1 := ⟨_, rfl⟩
            have hr9 : r1 ≤ 9 := by omega
            have e4 : (m : Int) - 10 * (m1 : Int) = (r1 : Int) := by omega
            obtain ⟨wq, hwq⟩ : ∃ wq, q - 1 = wq := ⟨_, rfl⟩
            have e5 : (q : Int) - 1 = (wq : Int) := by omega
            have hw8 : (wq : Int) < 800 := by omega
            have co := (unhide q5).dig wq (by omega)
            have fo := (unhide q5).fz wq
            have HX := hide (And.intro hm1 (And.intro hr1 hwq))
            clear hm1 hr1 hwq
            go_wp2_with fail
            obtain ⟨x1, x2, x3⟩ := unhide HX
            have hv : (r1 : Int) + 48 = ((r1 + 48 : Nat) : Int) := by omega
            have em := (unhide q4).1
            refine ⟨⟨wq, m1, (fun i => if i = wq then r1 + 48 else aq i), by omega, rfl, rfl, ⟨?_, fun i h1 h2 => ?_⟩, ?_, ?_⟩, ?_⟩
            · rw [← x1, em, Nat.div_div_eq_div_mul, ← Nat.pow_succ]; congr 2; omega
            · show (if i = wq then r1 + 48 else aq i) = _
              by_cases hi : i = wq
              · rw [if_pos hi, hi, ← x2, em, show nd + δ - 1 - wq = nd + δ - q by omega]; omega
              · rw [if_neg hi]; exact (unhide q4).2 i (by omega) h2
            · rw [hv]; exact (unhide q5).setDig wq (r1 + 48) (by omega)
            · exact (unhide q6).trans (kept_set b wq _ _)
            · simp only [intOf]; omega
      · obtain ⟨g, hg⟩ : ∃ g, D / 10 ^ (nd - j) % 10 = g := ⟨_, rfl⟩
        have hg9 : g ≤ 9 := by omega
        have hr : (j : Int) - 1 = ((j - 1 : Nat) : Int) := by omega
        have cd : wr.cell? ⟨b, j - 1, none⟩ = some (.int .u8 ((48 + g : Nat) : Int)) := by
          have := (unhide j6).dig (j - 1) (by omega)
          rw [(unhide j5).1 (j - 1) (by omega), (unhide Hd) (j - 1) (by omega), show nd - 1 - (j - 1) = nd - j by omega, hg] at this
          exact this
        obtain ⟨m, hm⟩ : ∃ m, carryN D Q (nd - j) = m := ⟨_, rfl⟩
        have hQ60 : Q ≤ 1152921504606846976 := by
          rw [← unhide HQ]; exact Nat.pow_le_pow_right (by omega) hk
        have hQ0 : 0 < Q := by rw [← unhide HQ]; exact Nat.pow_pos (by omega)
        have hmb : m < 1152921504606846976 := by
          have := carry_lt D Q (nd - j) hQ0
          omega
        obtain ⟨gq, hgq⟩ : ∃ gq, g * Q = gq := ⟨_, rfl⟩
        have hgqb : gq ≤ 10376293541461622784 := by
          rw [← hgq]; exact Nat.mul_le_mul hg9 hQ60
        have e1 : IntKind.u64.wrap ((48 + (g : Int) - 48) * 2 ^ k) = (gq : Int) := by
          have e0 : (48 + (g : Int) - 48) = (g : Int) := by omega
          rw [e0, shl_nat, unhide HQ, hgq, Nat.mod_eq_of_lt (by omega)]
        obtain ⟨n1, hn1'⟩ : ∃ n1, m + gq = n1 := ⟨_, rfl⟩
        have e2 : (m : Int) + (gq : Int) = (n1 : Int) := by omega
        have hn1b : n1 < 12000000000000000000 := by omega
        obtain ⟨q1, hq1⟩ : ∃ q1, n1 / 10 = q1 := ⟨_, rfl⟩
        have e3 : (n1 : Int) / 10 = (q1 : Int) := by omega
        obtain ⟨r1, hr1⟩ : ∃ r1, n1 % 10 = r1 := ⟨_, rfl⟩
        have hr9 : r1 ≤ 9 := by omega
        have e4 : (n1 : Int) - 10 * (q1 : Int) = (r1 : Int) := by omega
        obtain ⟨wq, hwq⟩ : ∃ wq, j - 1 + δ = wq := ⟨_, rfl⟩
        have e5 : (j : Int) + (δ : Int) - 1 = (wq : Int) := by omega
        have hw8 : (wq : Int) < 800 := by omega
        have co := (unhide j6).dig wq (by omega)
        have fo := (unhide j6).fz wq
        have HX := hide (And.intro hg (And.intro hm (And.intro hgq (And.intro hn1' (And.intro hq1 (And.intro hr1 hwq))))))
        clear hg hgq hn1' hq1 hr1 hwq
        rw [hm]
        clear hm
        go_wp2_with fail
        obtain ⟨x1, x2, x3, x4, x5, x6, x7⟩ := unhide HX
        have hv : (r1 : Int) + 48 = ((r1 + 48 : Nat) : Int) := by omega
        refine ⟨⟨j - 1, (fun i => if i = wq then r1 + 48 else aj i), by omega, rfl, by rw [x7], ?_, ⟨fun i hi => ?_, fun i h1 h2 => ?_⟩, ?_, ?_⟩, ?_⟩
        · rw [show nd - (j - 1) = (nd - j) + 1 by omega, ← carry_div, x1, x2, x3, x4, x5]
        · show (if i = wq then r1 + 48 else aj i) = a i
          rw [if_neg (by omega)]; exact (unhide j5).1 i (by omega)
        · show (if i = wq then r1 + 48 else aj i) = _
          by_cases hi : i = wq
          · rw [if_pos hi, hi, show nd + δ - 1 - wq = nd - j by omega, ← carry_mod, x1, x2, x3, x4, x6]; omega
          · rw [if_neg hi]; exact (unhide j5).2 i (by omega) h2
        · rw [hv]; exact (unhide j6).setDig wq (r1 + 48) (by omega)
        · exact (unhide j7).trans (kept_set b wq _ wr)
        · simp only [intOf]; omega
end Go.Proofs.YtgekdmjneogdoaaGreatDoor

namespace Go.Proofs.YtgekdmjneogdoaaGreatDoor
open Go.RowKit

/-! long division by a power of two -/
/-- the number of the first r digits, noughts behind the last -/
def preN (D nd r : Nat) : Nat := D * 10 ^ r / 10 ^ nd

theorem preN_lt (D nd r : Nat) (h : r ≤ nd) : preN D nd r = D / 10 ^ (nd - r) := by
  unfold preN
  have e : 10 ^ nd = 10 ^ (nd - r) * 10 ^ r := by rw [← Nat.pow_add]; congr 1; omega
  rw [e, Nat.mul_div_mul_right _ _ (Nat.pow_pos (by omega))]
theorem preN_ge (D nd r : Nat) (h : nd ≤ r) : preN D nd r = D * 10 ^ (r - nd) := by
  unfold preN
  have e : 10 ^ r = 10 ^ (r - nd) * 10 ^ nd := by rw [← Nat.pow_add]; congr 1; omega
  rw [e, ← Nat.mul_assoc, Nat.mul_div_cancel _ (Nat.pow_pos (by omega))]
theorem preN_zero (D nd : Nat) (h : D < 10 ^ nd) : preN D nd 0 = 0 := by
  unfold preN
  rw [Nat.pow_zero, Nat.mul_one, Nat.div_eq_of_lt h]
/-- one digit more -/
theorem preN_step (D nd r : Nat) (h : r < nd) : preN D nd (r + 1) = preN D nd r * 10 + D / 10 ^ (nd - 1 - r) % 10 := by
  rw [preN_lt D nd r (by omega), preN_lt D nd (r + 1) (by omega), show nd - r = (nd - 1 - r) + 1 by omega, show nd - (r + 1) = nd - 1 - r by omega, Nat.pow_succ, ← Nat.div_div_eq_div_mul]
  omega
theorem preN_step' (D nd r : Nat) (h : nd ≤ r) : preN D nd (r + 1) = preN D nd r * 10 := by
  rw [preN_ge D nd r h, preN_ge D nd (r + 1) (by omega), show r + 1 - nd = (r - nd) + 1 by omega, Nat.pow_succ, Nat.mul_assoc]

/-- what is left behind w digits of the quotient -/
def remN (D nd Q r : Nat) : Nat := preN D nd r - 10 * Q * (preN D nd (r - 1) / Q)

theorem rem_first (D nd Q r : Nat) (h : preN D nd (r - 1) < Q) : remN D nd Q r = preN D nd r := by
  unfold remN
  rw [Nat.div_eq_of_lt h]; simp

theorem rem_eq (D nd Q r d : Nat) (hs : preN D nd r = preN D nd (r - 1) * 10 + d) : remN D nd Q r = preN D nd (r - 1) % Q * 10 + d := by
  unfold remN
  rw [hs]
  have e := Nat.div_add_mod (preN D nd (r - 1)) Q
  generalize preN D nd (r - 1) = p at *
  generalize p % Q = m at *
  have e2 : 10 * Q * (p / Q) = 10 * (Q * (p / Q)) := Nat.mul_assoc _ _ _
  rw [e2]
  generalize Q * (p / Q) = z at *
  omega

theorem rem_div (D nd Q r d : Nat) (hQ : 0 < Q) (hs : preN D nd r = preN D nd (r - 1) * 10 + d) : preN D nd r / Q = preN D nd (r - 1) / Q * 10 + remN D nd Q r / Q ∧ preN D nd r % Q = remN D nd Q r % Q := by
  have h := rem_eq D nd Q r d hs
  rw [h, hs]
  have e := Nat.div_add_mod (preN D nd (r - 1)) Q
  generalize preN D nd (r - 1) = p at *
  generalize hq : p / Q = q at *
  generalize hm : p % Q = m at *
  have e2 : p * 10 + d = (m * 10 + d) + Q * (q * 10) := by
    have : Q * (q * 10) = Q * q * 10 := (Nat.mul_assoc _ _ _).symm
    rw [this]
    generalize Q * q = z at *
    omega
  rw [e2, Nat.add_mul_div_left _ _ hQ, Nat.add_mul_mod_self_left]
  exact ⟨Nat.add_comm _ _, rfl⟩
end Go.Proofs.YtgekdmjneogdoaaGreatDoor

namespace Go.Proofs.YtgekdmjneogdoaaGreatDoor
open Go.RowKit

theorem digs_push {a : Nat → Nat} {W m d : Nat} (h : DigsOf a W m) (hd : d ≤ 9) (v : Nat) (hv : v = d + 48) : DigsOf (fun i => if i = m then v else a i) (W * 10 + d) (m + 1) := by
  intro i hi
  show (if i = m then v else a i) = _
  by_cases e : i = m
  · rw [if_pos e, e, show m + 1 - 1 - m = 0 by omega, Nat.pow_zero, Nat.div_one, hv]; omega
  · rw [if_neg e, h i (by omega), show m + 1 - 1 - i = (m - 1 - i) + 1 by omega, Nat.pow_succ, Nat.mul_comm (10 ^ (m - 1 - i)) 10, ← Nat.div_div_eq_div_mul, show (W * 10 + d) / 10 = W by omega]

theorem lead_ten (Q p n : Nat) (hQ : Q ≤ 1152921504606846976) (h : n < Q) (hn : 10 ^ p ≤ n) : p < 19 := by
  rcases Nat.lt_or_ge p 19 with q | q
  · exact q
  · have : 10 ^ 19 ≤ 10 ^ p := Nat.pow_le_pow_right (by omega) q
    omega

set_option maxRecDepth 100000 in
set_option maxHeartbeats 4000000 in
theorem rightShift_any (w : World) (b nd D k Q X : Nat) (a : Nat → Nat) (dp : Int) (neg : Bool)
    (h : DM w b a nd dp neg false) (hd : DigsOf a D nd) (hD : D < 10 ^ nd) (hD1 : 1 ≤ D) (hn1 : 1 ≤ nd) (hk : k ≤ 60) (hQ : 2 ^ k = Q)
    (hX : D * 10 ^ X % Q = 0) (hn : nd + X ≤ 800) (hdp1 : -5000 ≤ dp) (hdp2 : dp ≤ 5000) :
    Calls Tryz.prog 269 #[.pointer (some ⟨b, 0, none⟩), .int .u64 k] w fun e w' => e = .returned (.tuple #[]) ∧ (∃ (a' : Nat → Nat) (r0 m W : Nat), DM w' b a' (trimA a' m) (if trimA a' m = 0 then 0 else dp - ((r0 : Int) - 1)) neg false ∧ DigsOf a' W m ∧ nd ≤ r0 + m ∧ 1 ≤ r0 ∧ r0 ≤ nd + 60 ∧ 1 ≤ m ∧ m ≤ 800 ∧ 10 ^ (m - 1) ≤ W ∧ W < 10 ^ m ∧ D * 10 ^ (r0 + m - nd) = 10 * Q * W) ∧ Kept (But b) w w' := by
  have c0 := h.nd
  have d1 := h.dp
  have f1 := h.fz 801
  have H := hide h
  have Hd := hide hd
  have HD := hide hD
  have HQ := hide hQ
  have HX := hide hX
  have hQ60 : Q ≤ 1152921504606846976 := by rw [← hQ]; exact Nat.pow_le_pow_right (by omega) hk
  have hQ0 : 0 < Q := by rw [← hQ]; exact Nat.pow_pos (by omega)
  obtain ⟨mk, hmk⟩ : ∃ mk, Q - 1 = mk := ⟨_, rfl⟩
  have esl : IntKind.u64.wrap (2 ^ k) = (Q : Int) := by
    have := shl_nat 1 k
    rw [hQ, Nat.one_mul, Nat.mod_eq_of_lt (by omega)] at this
    simpa using this
  have emk : (Q : Int) - 1 = (mk : Int) := by omega
  have HA : Hid (∀ n : Nat, n < 18446744073709551616 → bits BinOp.and IntKind.u64 (n : Int) (mk : Int) = ((n % Q : Nat) : Int)) := by
    intro n hnb
    have := u64_and_nat n mk hnb (by omega)
    rw [← hmk, ← hQ, Nat.and_two_pow_sub_one_eq_mod, hQ, hmk] at this
    exact this
  clear h hd hD hQ hX
  go_enter Tryz.func269, Tryz.ntmps269
  go_wp2_with fail
  go_loopw [4, 6] (fun r n wr => ∃ j : Nat, j ≤ nd ∧ r = .int .i64 j ∧ n = .int .u64 (preN D nd j : Nat) ∧ Hid (j = 0 ∨ preN D nd (j - 1) < Q) ∧ wr = w) (fun r _ _ => nd - (intOf r).toNat)
  case atStart => exact ⟨0, by omega, rfl, by rw [preN_zero D nd (unhide HD)]; rfl, Or.inl rfl, rfl⟩
  case round =>
    obtain ⟨j, j1, rfl, rfl, j4, hw⟩ := hrel
    rw [hw]
    clear hw
    obtain ⟨n, hnn⟩ : ∃ n, preN D nd j = n := ⟨_, rfl⟩
    obtain ⟨t, htt⟩ : ∃ t, n / Q = t := ⟨_, rfl⟩
    have esh : (n : Int) / 2 ^ k = (t : Int) := by rw [shr_nat, unhide HQ, htt]
    rw [hnn]
    by_cases hlt : n < Q
    · have ht0 : t = 0 := by rw [← htt]; exact Nat.div_eq_of_lt hlt
      subst ht0
      by_cases hj : j < nd
      · obtain ⟨g, hg⟩ : ∃ g, D / 10 ^ (nd - 1 - j) % 10 = g := ⟨_, rfl⟩
        have hg9 : g ≤ 9 := by omega
        have cd : w.cell? ⟨b, j, none⟩ = some (.int .u8 ((48 + g : Nat) : Int)) := by
          have := (unhide H).dig j (by omega)
          rw [(unhide Hd) j hj, hg] at this
          exact this
        have HN := hide (And.intro hnn hg)
        clear hnn hg htt
        go_wp2_with fail
        obtain ⟨x1, x2⟩ := unhide HN
        refine ⟨⟨j + 1, by omega, by go_num, ?_, Or.inr (by rw [Nat.add_sub_cancel, x1]; exact hlt), trivial⟩, ?_⟩
        · rw [preN_step D nd j hj, x1, x2]; congr 1; omega
        · simp [intOf]; omega
      · have hj2 : j = nd := by omega
        have hn0 : n ≠ 0 := by
          rw [← hnn, hj2, preN_ge D nd nd (Nat.le_refl _), Nat.sub_self, Nat.pow_zero, Nat.mul_one]; omega
        have hge : (nd : Int) ≤ (j : Int) := by omega
        have HN := hide hnn
        clear hnn htt
        go_wp2_with fail
        go_loopw [4, 6] (fun r n wr => ∃ (i z : Nat), r = .int .i64 ((nd : Int) + (i : Int)) ∧ i < 20 ∧ n = .int .u64 (z : Nat) ∧ 1 ≤ z ∧ z < 11529215046068469761 ∧ Hid (preN D nd (nd + i) = z ∧ (preN D nd (nd + i - 1) < Q)) ∧ wr = w) (fun _ n _ => Q - (intOf n).toNat)
        case atStart =>
          have hN := unhide HN
          have hJ := unhide j4
          rw [hj2] at hN hJ
          refine ⟨0, n, by rw [hj2]; simp, by omega, rfl, by omega, by omega, ⟨by rw [Nat.add_zero]; exact hN, ?_⟩, rfl⟩
          rw [Nat.add_zero]
          rcases hJ with q | q
          · omega
          · exact q
        case round =>
          obtain ⟨i, z, rfl, i2, rfl, z1, z2, z3, hw⟩ := hrel
          rw [hw]
          clear hw
          obtain ⟨t, htt⟩ : ∃ t, z / Q = t := ⟨_, rfl⟩
          have esh2 : (z : Int) / 2 ^ k = (t : Int) := by rw [shr_nat, unhide HQ, htt]
          by_cases hlt2 : z < Q
          · have ht0 : t = 0 := by rw [← htt]; exact Nat.div_eq_of_lt hlt2
            subst ht0
            have hi19 : i < 19 := by
              refine lead_ten Q i z hQ60 hlt2 ?_
              rw [← (unhide z3).1, preN_ge D nd (nd + i) (by omega), Nat.add_sub_cancel_left]
              exact Nat.le_mul_of_pos_left _ hD1
            clear htt
            go_wp2_with fail
            refine ⟨⟨i + 1, z * 10, by go_num, by omega, by push_cast; rfl, by omega, by omega, ⟨?_, ?_⟩, trivial⟩, ?_⟩
            · rw [← Nat.add_assoc, preN_step' D nd (nd + i) (by omega), (unhide z3).1]
            · rw [← Nat.add_assoc, Nat.add_sub_cancel, (unhide z3).1]; exact hlt2
            · simp only [intOf]; omega
          · have ht0 : ((t : Int) == 0) = false := by
              have : 1 ≤ t := by rw [← htt]; exact (Nat.le_div_iff_mul_le hQ0).2 (by omega)
              rw [beq_eq_false_iff_ne]; omega
            have ht1 : ¬ t = 0 := by
              have : 1 ≤ t := by rw [← htt]; exact (Nat.le_div_iff_mul_le hQ0).2 (by omega)
              omega
            obtain ⟨r0, hr0⟩ : ∃ r0, nd + i = r0 := ⟨_, rfl⟩
            have er0 : (nd : Int) + (i : Int) = (r0 : Int) := by omega
            have hr0b : 1 ≤ r0 ∧ r0 ≤ nd + 60 := by omega
            have HR : Hid (preN D nd r0 = z ∧ Q ≤ z ∧ preN D nd (r0 - 1) < Q) := by
              rw [← hr0]; exact ⟨(unhide z3).1, by omega, (unhide z3).2⟩
            clear htt hr0
            have HM0 := hide ((unhide H).setDp (dp - ((r0 : Int) - 1)))
            go_wp2_with fail
            go_loopw [4, 5, 6] (fun r wv n wz => ∃ (m z : Nat) (am : Nat → Nat), (m = 0 ∨ r0 + m ≤ nd) ∧ r = .int .i64 ((r0 + m : Nat) : Int) ∧ wv = .int .i64 (m : Nat) ∧ n = .int .u64 (z : Nat) ∧ z < 11529215046068469770 ∧ Hid (remN D nd Q (r0 + m) = z ∧ (m = 0 → Q ≤ z) ∧ z < 10 * Q) ∧ Hid (DigsOf am (preN D nd (r0 + m - 1) / Q) m ∧ (m = 0 ∨ 10 ^ (m - 1) ≤ preN D nd (r0 + m - 1) / Q) ∧ preN D nd (r0 + m - 1) / Q < 10 ^ m ∧ ∀ i, r0 + m ≤ i → i < nd → am i = a i) ∧ Hid (DM wz b am nd (dp - ((r0 : Int) - 1)) neg false) ∧ Hid (Kept (But b) w wz)) (fun r _ _ _ => nd - (intOf r).toNat)
            case atStart =>
              obtain ⟨y1, y2, y3⟩ := unhide HR
              have hq10 : z < 10 * Q := by
                by_cases hc : r0 ≤ nd
                · have := preN_step D nd (r0 - 1) (by omega)
                  rw [show r0 - 1 + 1 = r0 by omega, y1] at this
                  omega
                · have := preN_step' D nd (r0 - 1) (by omega)
                  rw [show r0 - 1 + 1 = r0 by omega, y1] at this
                  omega
              refine ⟨0, z, a, Or.inl rfl, by first | rfl | (congr 1; done) | (congr 1; omega), rfl, rfl, by omega, ⟨?_, fun _ => y2, hq10⟩, ⟨fun i hi => by omega, Or.inl rfl, ?_, fun i _ _ => rfl⟩, HM0, kept_set b 801 _ w⟩
              · rw [Nat.add_zero, rem_first D nd Q r0 y3, y1]
              · rw [Nat.add_zero, Nat.div_eq_of_lt y3]; simp
            case round =>
              obtain ⟨m, z', am, m1, rfl, rfl, rfl, m2, m3, m4, m5, m6⟩ := hrel
              have g0 := (unhide m5).nd
              by_cases hrn : r0 + m < nd
              · obtain ⟨g, hg⟩ : ∃ g, D / 10 ^ (nd - 1 - (r0 + m)) % 10 = g := ⟨_, rfl⟩
                have hg9 : g ≤ 9 := by omega
                have hrn' : ((r0 + m : Nat) : Int) < (nd : Int) := by omega
                obtain ⟨rr, hrr⟩ : ∃ rr, r0 + m = rr := ⟨_, rfl⟩
                rw [hrr] at hrn hrn' ⊢
                have cd : wr.cell? ⟨b, rr, none⟩ = some (.int .u8 ((48 + g : Nat) : Int)) := by
                  have := (unhide m5).dig rr (by omega)
                  rw [(unhide m4).2.2.2 rr (by omega) (by omega), (unhide Hd) rr (by omega), show D / 10 ^ (nd - 1 - rr) % 10 = g by rw [← hrr]; exact hg] at this
                  exact this
                obtain ⟨dg, hdg⟩ : ∃ dg, z' / Q = dg := ⟨_, rfl⟩
                have edg : (z' : Int) / 2 ^ k = (dg : Int) := by rw [shr_nat, unhide HQ, hdg]
                have hdg9 : dg ≤ 9 := by
                  have : z' / Q < 10 := (Nat.div_lt_iff_lt_mul hQ0).2 (unhide m3).2.2
                  omega
                obtain ⟨rm, hrm⟩ : ∃ rm, z' % Q = rm := ⟨_, rfl⟩
                have hrmb : rm < 1152921504606846976 := by
                  have : z' % Q < Q := Nat.mod_lt _ hQ0
                  omega
                have erm : bits BinOp.and IntKind.u64 (z' : Int) (mk : Int) = (rm : Int) := by rw [unhide HA z' (by omega), hrm]
                have hm8 : m < 800 := by omega
                have co := (unhide m5).dig m hm8
                have fo := (unhide m5).fz m
                have HN := hide (And.intro hg (And.intro hdg (And.intro hrm hrr)))
                clear hg hdg hrm hrr
                go_wp2_with fail
                obtain ⟨x1, x2, x3, x4⟩ := unhide HN
                obtain ⟨y1, y2, y3⟩ := unhide m3
                obtain ⟨v1, v2, v3, v4⟩ := unhide m4
                have hst := preN_step D nd rr hrn
                rw [← x4] at hst
                rw [x1] at hst
                have hstep : preN D nd (r0 + m) = preN D nd (r0 + m - 1) * 10 + preN D nd (r0 + m) % 10 := by
                  have := preN_step D nd (r0 + m - 1) (by omega)
                  rw [show r0 + m - 1 + 1 = r0 + m by omega] at this
                  rw [this]; omega
                obtain ⟨s1, s2⟩ := rem_div D nd Q (r0 + m) _ hQ0 hstep
                rw [y1, x2] at s1
                rw [y1, x3] at s2
                have hv : (dg : Int) + 48 = ((dg + 48 : Nat) : Int) := by omega
                refine ⟨⟨m + 1, rm * 10 + g, (fun i => if i = m then dg + 48 else am i), Or.inr (by omega), ?_, by go_num, ?_, by omega, ⟨?_, fun q => by omega, ?_⟩, ⟨?_, Or.inr ?_, ?_, fun i h1 h2 => ?_⟩, ?_, (unhide m6).trans (kept_set b m _ _)⟩, ?_⟩
                · congr 1; omega
                · congr 1; push_cast; omega
                · rw [← Nat.add_assoc, rem_eq D nd Q (r0 + m + 1) g (by rw [Nat.add_sub_cancel]; exact hst), Nat.add_sub_cancel, s2]
                · have : rm < Q := by rw [← x3]; exact Nat.mod_lt _ hQ0
                  omega
                · rw [← Nat.add_assoc, Nat.add_sub_cancel, s1]
                  exact digs_push v1 hdg9 _ rfl
                · rw [← Nat.add_assoc, Nat.add_sub_cancel, Nat.add_sub_cancel, s1]
                  by_cases hm0 : m = 0
                  · have : 1 ≤ dg := by rw [← x2]; exact (Nat.le_div_iff_mul_le hQ0).2 (by have := y2 hm0; omega)
                    rw [hm0, Nat.pow_zero]; omega
                  · rcases v2 with q | q
                    · exact absurd q hm0
                    · obtain ⟨m', rfl⟩ : ∃ m', m = m' + 1 := ⟨m - 1, by omega⟩
                      rw [Nat.add_sub_cancel] at q
                      rw [Nat.pow_succ]; omega
                · rw [← Nat.add_assoc, Nat.add_sub_cancel, s1, Nat.pow_succ]; omega
                · show (if i = m then dg + 48 else am i) = a i
                  rw [if_neg (by omega)]; exact v4 i (by omega) h2
                · rw [hv]; exact (unhide m5).setDig m (dg + 48) hm8
                · simp only [intOf]; omega
              · have hrn' : ¬ ((r0 + m : Nat) : Int) < (nd : Int) := by omega
                obtain ⟨rr, hrr⟩ : ∃ rr, r0 + m = rr := ⟨_, rfl⟩
                rw [hrr] at hrn hrn' ⊢
                go_wp2_with fail
                go_loopw [5, 6] (fun wv n wz => ∃ (m z : Nat) (am : Nat → Nat), nd ≤ r0 + m ∧ wv = .int .i64 (m : Nat) ∧ n = .int .u64 (z : Nat) ∧ z < 11529215046068469770 ∧ m ≤ 800 ∧ Hid (remN D nd Q (r0 + m) = z ∧ (m = 0 → Q ≤ z) ∧ z < 10 * Q) ∧ Hid (DigsOf am (preN D nd (r0 + m - 1) / Q) m ∧ (m = 0 ∨ 10 ^ (m - 1) ≤ preN D nd (r0 + m - 1) / Q) ∧ preN D nd (r0 + m - 1) / Q < 10 ^ m) ∧ Hid (DM wz b am nd (dp - ((r0 : Int) - 1)) neg false) ∧ Hid (Kept (But b) w wz)) (fun wv _ _ => nd + X + 2 - (intOf wv).toNat)
                case atStart =>
                  exact ⟨m, z', am, by omega, rfl, rfl, m2, by omega, m3, ⟨(unhide m4).1, (unhide m4).2.1, (unhide m4).2.2.1⟩, m5, m6⟩
                case round =>
                  clear m1 m2 m3 m4 m5 m6 g0 hrn hrn' hrr
                  obtain ⟨m, z', am, m1, rfl, rfl, m2, m7, m3, m4, m5, m6⟩ := hrel
                  by_cases hz0 : z' = 0
                  · subst hz0
                    obtain ⟨y1, y2, y3⟩ := unhide m3
                    have hm0 : m ≠ 0 := fun q => by have := y2 q; omega
                    have g0 := (unhide m5).nd
                    have gf := (unhide m5).fz 800
                    have HM := hide ((unhide m5).setNd m (m : Int) rfl)
                    have hfin : Hid (D * 10 ^ (r0 + m - nd) = 10 * Q * (preN D nd (r0 + m - 1) / Q)) := by
                      unfold Hid
                      unfold remN at y1
                      rw [preN_ge D nd (r0 + m) m1] at y1
                      have hle : 10 * Q * (preN D nd (r0 + m - 1) / Q) ≤ D * 10 ^ (r0 + m - nd) := by
                        rw [← preN_ge D nd (r0 + m) m1]
                        have h1 : preN D nd (r0 + m - 1) * 10 ≤ preN D nd (r0 + m) := by
                          by_cases hc : r0 + m ≤ nd
                          · have := preN_step D nd (r0 + m - 1) (by omega)
                            rw [show r0 + m - 1 + 1 = r0 + m by omega] at this
                            omega
                          · have := preN_step' D nd (r0 + m - 1) (by omega)
                            rw [show r0 + m - 1 + 1 = r0 + m by omega] at this
                            omega
                        have h2 : Q * (preN D nd (r0 + m - 1) / Q) ≤ preN D nd (r0 + m - 1) := Nat.mul_div_le _ _
                        rw [Nat.mul_assoc]
                        omega
                      omega
                    clear y1 y2 y3
                    go_wp2_with fail
                    refine (trim_any _ b m am (dp - ((r0 : Int) - 1)) neg false (unhide HM) m7).mono ?_
                    rintro e w' ⟨rfl, hT, hK⟩
                    have HT := hide hT
                    have HK := hide hK
                    clear hT hK
                    go_wp2_with fail
                    go_end0
                    obtain ⟨v1, v2, v3⟩ := unhide m4
                    refine ⟨rfl, ⟨am, r0, m, _, unhide HT, v1, m1, hr0b.1, hr0b.2, by omega, m7, ?_, v3, unhide hfin⟩, (unhide m6).trans ((kept_set b 800 _ _).trans (unhide HK))⟩
                    rcases v2 with q | q
                    · exact absurd q hm0
                    · exact q
                  · have hpos : 0 < z' := by omega
                    -- the digits end in time
                    have hend : r0 + m - 1 < nd + X := by
                      rcases Nat.lt_or_ge (r0 + m - 1) (nd + X) with q | q
                      · exact q
                      · exfalso
                        obtain ⟨y1, y2, y3⟩ := unhide m3
                        have hs := preN_step' D nd (r0 + m - 1) (by omega)
                        rw [show r0 + m - 1 + 1 = r0 + m by omega] at hs
                        have hr := rem_eq D nd Q (r0 + m) 0 (by rw [hs, Nat.add_zero])
                        have h0 : preN D nd (r0 + m - 1) % Q = 0 := by
                          rw [preN_ge D nd (r0 + m - 1) (by omega), show r0 + m - 1 - nd = X + (r0 + m - 1 - nd - X) by omega, Nat.pow_add, ← Nat.mul_assoc, Nat.mul_mod, unhide HX, Nat.zero_mul, Nat.zero_mod]
                        rw [h0, y1] at hr
                        omega
                    have hm8 : m < 800 := by omega
                    have hm8' : (m : Int) < 800 := by omega
                    obtain ⟨dg, hdg⟩ : ∃ dg, z' / Q = dg := ⟨_, rfl⟩
                    have edg : (z' : Int) / 2 ^ k = (dg : Int) := by rw [shr_nat, unhide HQ, hdg]
                    have hdg9 : dg ≤ 9 := by
                      have : z' / Q < 10 := (Nat.div_lt_iff_lt_mul hQ0).2 (unhide m3).2.2
                      omega
                    obtain ⟨rm, hrm⟩ : ∃ rm, z' % Q = rm := ⟨_, rfl⟩
                    have hrmb : rm < 1152921504606846976 := by
                      have : z' % Q < Q := Nat.mod_lt _ hQ0
                      omega
                    have erm : bits BinOp.and IntKind.u64 (z' : Int) (mk : Int) = (rm : Int) := by rw [unhide HA z' (by omega), hrm]
                    have co := (unhide m5).dig m hm8
                    have fo := (unhide m5).fz m
                    have HN := hide (And.intro hdg hrm)
                    clear hdg hrm
                    go_wp2_with fail
                    obtain ⟨x2, x3⟩ := unhide HN
                    obtain ⟨y1, y2, y3⟩ := unhide m3
                    obtain ⟨v1, v2, v3⟩ := unhide m4
                    have hst := preN_step' D nd (r0 + m) m1
                    have hstep : preN D nd (r0 + m) = preN D nd (r0 + m - 1) * 10 + preN D nd (r0 + m) % 10 := by
                      by_cases hc : r0 + m ≤ nd
                      · have := preN_step D nd (r0 + m - 1) (by omega)
                        rw [show r0 + m - 1 + 1 = r0 + m by omega] at this
                        rw [this]; omega
                      · have := preN_step' D nd (r0 + m - 1) (by omega)
                        rw [show r0 + m - 1 + 1 = r0 + m by omega] at this
                        rw [this]; omega
                    obtain ⟨s1, s2⟩ := rem_div D nd Q (r0 + m) _ hQ0 hstep
                    rw [y1, x2] at s1
                    rw [y1, x3] at s2
                    have hv : (dg : Int) + 48 = ((dg + 48 : Nat) : Int) := by omega
                    refine ⟨⟨m + 1, rm * 10, (fun i => if i = m then dg + 48 else am i), by omega, by go_num, by go_num, by omega, by omega, ⟨?_, fun q => by omega, ?_⟩, ⟨?_, Or.inr ?_, ?_⟩, ?_, (unhide m6).trans (kept_set b m _ _)⟩, ?_⟩
                    · rw [← Nat.add_assoc, rem_eq D nd Q (r0 + m + 1) 0 (by rw [Nat.add_sub_cancel, Nat.add_zero]; exact hst), Nat.add_sub_cancel, s2, Nat.add_zero]
                    · have : rm < Q := by rw [← x3]; exact Nat.mod_lt _ hQ0
                      omega
                    · rw [← Nat.add_assoc, Nat.add_sub_cancel, s1]
                      exact digs_push v1 hdg9 _ rfl
                    · rw [← Nat.add_assoc, Nat.add_sub_cancel, Nat.add_sub_cancel, s1]
                      by_cases hm0 : m = 0
                      · have : 1 ≤ dg := by rw [← x2]; exact (Nat.le_div_iff_mul_le hQ0).2 (by have := y2 hm0; omega)
                        rw [hm0, Nat.pow_zero]; omega
                      · rcases v2 with q | q
                        · exact absurd q hm0
                        · obtain ⟨m', rfl⟩ : ∃ m', m = m' + 1 := ⟨m - 1, by omega⟩
                          rw [Nat.add_sub_cancel] at q
                          rw [Nat.pow_succ]; omega
                    · rw [← Nat.add_assoc, Nat.add_sub_cancel, s1, Nat.pow_succ]; omega
                    · rw [hv]; exact (unhide m5).setDig m (dg + 48) hm8
                    · simp only [intOf]; omega
    · have ht0 : ((t : Int) == 0) = false := by
        have : 1 ≤ t := by rw [← htt]; exact (Nat.le_div_iff_mul_le hQ0).2 (by omega)
        rw [beq_eq_false_iff_ne]; omega
      have ht1 : ¬ t = 0 := by
        have : 1 ≤ t := by rw [← htt]; exact (Nat.le_div_iff_mul_le hQ0).2 (by omega)
        omega
      have hj0 : j ≠ 0 := by
        intro q
        rw [q, preN_zero D nd (unhide HD)] at hnn
        omega
      obtain ⟨r0, hr0⟩ : ∃ r0, j = r0 := ⟨_, rfl⟩
      subst hr0
      have hr0b : 1 ≤ j ∧ j ≤ nd + 60 := by omega
      have HR : Hid (preN D nd j = n ∧ Q ≤ n ∧ preN D nd (j - 1) < Q) := by
        refine ⟨hnn, by omega, ?_⟩
        rcases unhide j4 with q | q
        · exact absurd q hj0
        · exact q
      clear htt hnn
      have HM0 := hide ((unhide H).setDp (dp - ((j : Int) - 1)))
      go_wp2_with fail
      go_loopw [4, 5, 6] (fun r wv n wz => ∃ (m z : Nat) (am : Nat → Nat), (m = 0 ∨ j + m ≤ nd) ∧ r = .int .i64 ((j + m : Nat) : Int) ∧ wv = .int .i64 (m : Nat) ∧ n = .int .u64 (z : Nat) ∧ z < 11529215046068469770 ∧ Hid (remN D nd Q (j + m) = z ∧ (m = 0 → Q ≤ z) ∧ z < 10 * Q) ∧ Hid (DigsOf am (preN D nd (j + m - 1) / Q) m ∧ (m = 0 ∨ 10 ^ (m - 1) ≤ preN D nd (j + m - 1) / Q) ∧ preN D nd (j + m - 1) / Q < 10 ^ m ∧ ∀ i, j + m ≤ i → i < nd → am i = a i) ∧ Hid (DM wz b am nd (dp - ((j : Int) - 1)) neg false) ∧ Hid (Kept (But b) w wz)) (fun r _ _ _ => nd - (intOf r).toNat)
      case atStart =>
        obtain ⟨y1, y2, y3⟩ := unhide HR
        have hq10 : n < 10 * Q := by
          by_cases hc : j ≤ nd
          · have := preN_step D nd (j - 1) (by omega)
            rw [show j - 1 + 1 = j by omega, y1] at this
            omega
          · have := preN_step' D nd (j - 1) (by omega)
            rw [show j - 1 + 1 = j by omega, y1] at this
            omega
        refine ⟨0, n, a, Or.inl rfl, by first | rfl | (congr 1; done) | (congr 1; omega), rfl, rfl, by omega, ⟨?_, fun _ => y2, hq10⟩, ⟨fun i hi => by omega, Or.inl rfl, ?_, fun i _ _ => rfl⟩, HM0, kept_set b 801 _ w⟩
        · rw [Nat.add_zero, rem_first D nd Q j y3, y1]
        · rw [Nat.add_zero, Nat.div_eq_of_lt y3]; simp
      case round =>
        obtain ⟨m, z', am, m1, rfl, rfl, rfl, m2, m3, m4, m5, m6⟩ := hrel
        have g0 := (unhide m5).nd
        by_cases hrn : j + m < nd
        · obtain ⟨g, hg⟩ : ∃ g, D / 10 ^ (nd - 1 - (j + m)) % 10 = g := ⟨_, rfl⟩
          have hg9 : g ≤ 9 := by omega
          have hrn' : ((j + m : Nat) : Int) < (nd : Int) := by omega
          obtain ⟨rr, hrr⟩ : ∃ rr, j + m = rr := ⟨_, rfl⟩
          rw [hrr] at hrn hrn' ⊢
          have cd : wr.cell? ⟨b, rr, none⟩ = some (.int .u8 ((48 + g : Nat) : Int)) := by
            have := (unhide m5).dig rr (by omega)
            rw [(unhide m4).2.2.2 rr (by omega) (by omega), (unhide Hd) rr (by omega), show D / 10 ^ (nd - 1 - rr) % 10 = g by rw [← hrr]; exact hg] at this
            exact this
          obtain ⟨dg, hdg⟩ : ∃ dg, z' / Q = dg := ⟨_, rfl⟩
          have edg : (z' : Int) / 2 ^ k = (dg : Int) := by rw [shr_nat, unhide HQ, hdg]
          have hdg9 : dg ≤ 9 := by
            have : z' / Q < 10 := (Nat.div_lt_iff_lt_mul hQ0).2 (unhide m3).2.2
            omega
          obtain ⟨rm, hrm⟩ : ∃ rm, z' % Q = rm := ⟨_, rfl⟩
          have hrmb : rm < 1152921504606846976 := by
            have : z' % Q < Q := Nat.mod_lt _ hQ0
            omega
          have erm : bits BinOp.and IntKind.u64 (z' : Int) (mk : Int) = (rm : Int) := by rw [unhide HA z' (by omega), hrm]
          have hm8 : m < 800 := by omega
          have co := (unhide m5).dig m hm8
          have fo := (unhide m5).fz m
          have HN := hide (And.intro hg (And.intro hdg (And.intro hrm hrr)))
          clear hg hdg hrm hrr
          go_wp2_with fail
          obtain ⟨x1, x2, x3, x4⟩ := unhide HN
          obtain ⟨y1, y2, y3⟩ := unhide m3
          obtain ⟨v1, v2, v3, v4⟩ := unhide m4
          have hst := preN_step D nd rr hrn
          rw [← x4] at hst
          rw [x1] at hst
          have hstep : preN D nd (j + m) = preN D nd (j + m - 1) * 10 + preN D nd (j + m) % 10 := by
            have := preN_step D nd (j + m - 1) (by omega)
            rw [show j + m - 1 + 1 = j + m by omega] at this
            rw [this]; omega
          obtain ⟨s1, s2⟩ := rem_div D nd Q (j + m) _ hQ0 hstep
          rw [y1, x2] at s1
          rw [y1, x3] at s2
          have hv : (dg : Int) + 48 = ((dg + 48 : Nat) : Int) := by omega
          refine ⟨⟨m + 1, rm * 10 + g, (fun i => if i = m then dg + 48 else am i), Or.inr (by omega), ?_, by go_num, ?_, by omega, ⟨?_, fun q => by omega, ?_⟩, ⟨?_, Or.inr ?_, ?_, fun i h1 h2 => ?_⟩, ?_, (unhide m6).trans (kept_set b m _ _)⟩, ?_⟩
          · congr 1; omega
          · congr 1; push_cast; omega
          · rw [← Nat.add_assoc, rem_eq D nd Q (j + m + 1) g (by rw [Nat.add_sub_cancel]; exact hst), Nat.add_sub_cancel, s2]
          · have : rm < Q := by rw [← x3]; exact Nat.mod_lt _ hQ0
            omega
          · rw [← Nat.add_assoc, Nat.add_sub_cancel, s1]
            exact digs_push v1 hdg9 _ rfl
          · rw [← Nat.add_assoc, Nat.add_sub_cancel, Nat.add_sub_cancel, s1]
            by_cases hm0 : m = 0
            · have : 1 ≤ dg := by rw [← x2]; exact (Nat.le_div_iff_mul_le hQ0).2 (by have := y2 hm0; omega)
              rw [hm0, Nat.pow_zero]; omega
            · rcases v2 with q | q
              · exact absurd q hm0
              · obtain ⟨m', rfl⟩ : ∃ m', m = m' + 1 := ⟨m - 1, by omega⟩
                rw [Nat.add_sub_cancel] at q
                rw [Nat.pow_succ]; omega
          · rw [← Nat.add_assoc, Nat.add_sub_cancel, s1, Nat.pow_succ]; omega
          · show (if i = m then dg + 48 else am i) = a i
            rw [if_neg (by omega)]; exact v4 i (by omega) h2
          · rw [hv]; exact (unhide m5).setDig m (dg + 48) hm8
          · simp only [intOf]; omega
        · have hrn' : ¬ ((j + m : Nat) : Int) < (nd : Int) := by omega
          obtain ⟨rr, hrr⟩ : ∃ rr, j + m = rr := ⟨_, rfl⟩
          rw [hrr] at hrn hrn' ⊢
          go_wp2_with fail
          go_loopw [5, 6] (fun wv n wz => ∃ (m z : Nat) (am : Nat → Nat), nd ≤ j + m ∧ wv = .int .i64 (m : Nat) ∧ n = .int .u64 (z : Nat) ∧ z < 11529215046068469770 ∧ m ≤ 800 ∧ Hid (remN D nd Q (j + m) = z ∧ (m = 0 → Q ≤ z) ∧ z < 10 * Q) ∧ Hid (DigsOf am (preN D nd (j + m - 1) / Q) m ∧ (m = 0 ∨ 10 ^ (m - 1) ≤ preN D nd (j + m - 1) / Q) ∧ preN D nd (j + m - 1) / Q < 10 ^ m) ∧ Hid (DM wz b am nd (dp - ((j : Int) - 1)) neg false) ∧ Hid (Kept (But b) w wz)) (fun wv _ _ => nd + X + 2 - (intOf wv).toNat)
          case atStart =>
            exact ⟨m, z', am, by omega, rfl, rfl, m2, by omega, m3, ⟨(unhide m4).1, (unhide m4).2.1, (unhide m4).2.2.1⟩, m5, m6⟩
          case round =>
            clear m1 m2 m3 m4 m5 m6 g0 hrn hrn' hrr
            obtain ⟨m, z', am, m1, rfl, rfl, m2, m7, m3, m4, m5, m6⟩ := hrel
            by_cases hz0 : z' = 0
            · subst hz0
              obtain ⟨y1, y2, y3⟩ := unhide m3
              have hm0 : m ≠ 0 := fun q => by have := y2 q; omega
              have g0 := (unhide m5).nd
              have gf := (unhide m5).fz 800
              have HM := hide ((unhide m5).setNd m (m : Int) rfl)
              have hfin : Hid (D * 10 ^ (j + m - nd) = 10 * Q * (preN D nd (j + m - 1) / Q)) := by
                unfold Hid
                unfold remN at y1
                rw [preN_ge D nd (j + m) m1] at y1
                have hle : 10 * Q * (preN D nd (j + m - 1) / Q) ≤ D * 10 ^ (j + m - nd) := by
                  rw [← preN_ge D nd (j + m) m1]
                  have h1 : preN D nd (j + m - 1) * 10 ≤ preN D nd (j + m) := by
                    by_cases hc : j + m ≤ nd
                    · have := preN_step D nd (j + m - 1) (by omega)
                      rw [show j + m - 1 + 1 = j + m by omega] at this
                      omega
                    · have := preN_step' D nd (j + m - 1) (by omega)
                      rw [show j + m - 1 + 1 = j + m by omega] at this
                      omega
                  have h2 : Q * (preN D nd (j + m - 1) / Q) ≤ preN D nd (j + m - 1) := Nat.mul_div_le _ _
                  rw [Nat.mul_assoc]
                  omega
                omega
              clear y1 y2 y3
              go_wp2_with fail
              refine (trim_any _ b m am (dp - ((j : Int) - 1)) neg false (unhide HM) m7).mono ?_
              rintro e w' ⟨rfl, hT, hK⟩
              have HT := hide hT
              have HK := hide hK
              clear hT hK
              go_wp2_with fail
              go_end0
              obtain ⟨v1, v2, v3⟩ := unhide m4
              refine ⟨rfl, ⟨am, j, m, _, unhide HT, v1, m1, hr0b.1, hr0b.2, by omega, m7, ?_, v3, unhide hfin⟩, (unhide m6).trans ((kept_set b 800 _ _).trans (unhide HK))⟩
              rcases v2 with q | q
              · exact absurd q hm0
              · exact q
            · have hpos : 0 < z' := by omega
              -- the digits end in time
              have hend : j + m - 1 < nd + X := by
                rcases Nat.lt_or_ge (j + m - 1) (nd + X) with q | q
                · exact q
                · exfalso
                  obtain ⟨y1, y2, y3⟩ := unhide m3
                  have hs := preN_step' D nd (j + m - 1) (by omega)
                  rw [show j + m - 1 + 1 = j + m by omega] at hs
                  have hr := rem_eq D nd Q (j + m) 0 (by rw [hs, Nat.add_zero])
                  have h0 : preN D nd (j + m - 1) % Q = 0 := by
                    rw [preN_ge D nd (j + m - 1) (by omega), show j + m - 1 - nd = X + (j + m - 1 - nd - X) by omega, Nat.pow_add, ← Nat.mul_assoc, Nat.mul_mod, unhide HX, Nat.zero_mul, Nat.zero_mod]
                  rw [h0, y1] at hr
                  omega
              have hm8 : m < 800 := by omega
              have hm8' : (m : Int) < 800 := by omega
              obtain ⟨dg, hdg⟩ : ∃ dg, z' / Q = dg := ⟨_, rfl⟩
              have edg : (z' : Int) / 2 ^ k = (dg : Int) := by rw [shr_nat, unhide HQ, hdg]
              have hdg9 : dg ≤ 9 := by
                have : z' / Q < 10 := (Nat.div_lt_iff_lt_mul hQ0).2 (unhide m3).2.2
                omega
              obtain ⟨rm, hrm⟩ : ∃ rm, z' % Q = rm := ⟨_, rfl⟩
              have hrmb : rm < 1152921504606846976 := by
                have : z' % Q < Q := Nat.mod_lt _ hQ0
                omega
              have erm : bits BinOp.and IntKind.u64 (z' : Int) (mk : Int) = (rm : Int) := by rw [unhide HA z' (by omega), hrm]
              have co := (unhide m5).dig m hm8
              have fo := (unhide m5).fz m
              have HN := hide (And.intro hdg hrm)
              clear hdg hrm
              go_wp2_with fail
              obtain ⟨x2, x3⟩ := unhide HN
              obtain ⟨y1, y2, y3⟩ := unhide m3
              obtain ⟨v1, v2, v3⟩ := unhide m4
              have hst := preN_step' D nd (j + m) m1
              have hstep : preN D nd (j + m) = preN D nd (j + m - 1) * 10 + preN D nd (j + m) % 10 := by
                by_cases hc : j + m ≤ nd
                · have := preN_step D nd (j + m - 1) (by omega)
                  rw [show j + m - 1 + 1 = j + m by omega] at this
                  rw [this]; omega
                · have := preN_step' D nd (j + m - 1) (by omega)
                  rw [show j + m - 1 + 1 = j + m by omega] at this
                  rw [this]; omega
              obtain ⟨s1, s2⟩ := rem_div D nd Q (j + m) _ hQ0 hstep
              rw [y1, x2] at s1
              rw [y1, x3] at s2
              have hv : (dg : Int) + 48 = ((dg + 48 : Nat) : Int) := by omega
              refine ⟨⟨m + 1, rm * 10, (fun i => if i = m then dg + 48 else am i), by omega, by go_num, by go_num, by omega, by omega, ⟨?_, fun q => by omega, ?_⟩, ⟨?_, Or.inr ?_, ?_⟩, ?_, (unhide m6).trans (kept_set b m _ _)⟩, ?_⟩
              · rw [← Nat.add_assoc, rem_eq D nd Q (j + m + 1) 0 (by rw [Nat.add_sub_cancel, Nat.add_zero]; exact hst), Nat.add_sub_cancel, s2, Nat.add_zero]
              · have : rm < Q := by rw [← x3]; exact Nat.mod_lt _ hQ0
                omega
              · rw [← Nat.add_assoc, Nat.add_sub_cancel, s1]
                exact digs_push v1 hdg9 _ rfl
              · rw [← Nat.add_assoc, Nat.add_sub_cancel, Nat.add_sub_cancel, s1]
                by_cases hm0 : m = 0
                · have : 1 ≤ dg := by rw [← x2]; exact (Nat.le_div_iff_mul_le hQ0).2 (by have := y2 hm0; omega)
                  rw [hm0, Nat.pow_zero]; omega
                · rcases v2 with q | q
                  · exact absurd q hm0
                  · obtain ⟨m', rfl⟩ : ∃ m', m = m' + 1 := ⟨m - 1, by omega⟩
                    rw [Nat.add_sub_cancel] at q
                    rw [Nat.pow_succ]; omega
              · rw [← Nat.add_assoc, Nat.add_sub_cancel, s1, Nat.pow_succ]; omega
              · rw [hv]; exact (unhide m5).setDig m (dg + 48) hm8
              · simp only [intOf]; omega
end Go.Proofs.YtgekdmjneogdoaaGreatDoor
