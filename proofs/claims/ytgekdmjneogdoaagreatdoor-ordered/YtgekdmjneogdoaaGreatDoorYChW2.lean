import Derived.Test.YtgekdmjneogdoaaGreatDoorYChWr
import Derived.Test.YtgekdmjneogdoaaGreatDoorShelf
import Derived.Defers
import Derived.Deep.RegionWith
import Derived.Deep.QuietTactic
import Derived.BigQuiet
namespace Go.Proofs.YtgekdmjneogdoaaGreatDoor
open Go.RowKit

/-! the tables -/
def dbTab (i : Nat) : Nat := [0, 1, 56, 2, 57, 49, 28, 3, 61, 58, 42, 50, 38, 29, 17, 4, 62, 47, 59, 36, 45, 43, 51, 22, 53, 39, 33, 30, 24, 18, 12, 5, 63, 55, 48, 27, 60, 41, 37, 16, 46, 35, 44, 21, 52, 32, 23, 11, 54, 26, 40, 15, 34, 20, 31, 10, 25, 14, 19, 9, 13, 8, 7, 6].getD i 0

/-- what the package-level variables on the chunks' road hold -/
structure CTabs (w : World) : Prop where
  cwid : ∀ i, i < 5 → w.cell? ⟨1, i, none⟩ = some (.int .i64 (cw i))
  db : ∀ i, i < 64 → w.cell? ⟨9, i, none⟩ = some (.int .u8 (dbTab i))

def GK (K : Nat → Prop) : Prop := K 1 ∧ K 9

theorem CTabs.kept {K : Nat → Prop} {w w' : World} (h : CTabs w) (hG : GK K) (hk : Kept K w w') : CTabs w' :=
  ⟨fun i hi => (hk.cell (p := ⟨_, i, none⟩) hG.1).trans (h.cwid i hi), fun i hi => (hk.cell (p := ⟨_, i, none⟩) hG.2).trans (h.db i hi)⟩

/-! bits 0 ahead and at the end -/
theorem bitLen_log (x : Nat) (h0 : x ≠ 0) : Lib.bitLen x ≤ 64 → x < 18446744073709551616 → Lib.bitLen x = x.log2 + 1 := by
  have key : ∀ (f x : Nat), x ≠ 0 → x < 2 ^ f → Lib.bitLenAux f x = x.log2 + 1 := by
    intro f
    induction f with
    | zero => intro x h0 h; simp at h; omega
    | succ f ih =>
      intro x h0 h
      rw [Lib.bitLenAux, if_neg h0]
      by_cases h2 : x / 2 = 0
      · have hx : x = 1 := by omega
        subst hx
        rw [h2]
        have hl1 : Nat.log2 1 = 0 := by decide
        cases f <;> simp [Lib.bitLenAux, hl1]
      · rw [ih (x / 2) h2 (by rw [Nat.pow_succ] at h; omega)]
        rw [Nat.log2_def x, if_pos (by omega)]
        omega
  intro _ h
  exact key 64 x h0 h

set_option maxHeartbeats 400000 in
theorem lz_any (x : Nat) (w : World) (hx : x < 18446744073709551616) (h0 : x ≠ 0) :
    Calls Tryz.prog 234 #[.int .u64 x] w fun e w' => e = .returned (.int .i64 (lzN x)) ∧ w' = w := by
  have hl : Lib.bitLen x = x.log2 + 1 := by
    refine bitLen_log x h0 ?_ hx
    exact Lib.bitLen_le x 64 (Nat.le_refl _) hx
  have h64 : x.log2 < 64 := (Nat.log2_lt h0).2 hx
  have hz : lzN x = 64 - Lib.bitLen x := by unfold lzN; rw [if_neg h0]; omega
  have L := Tryz.bits_Len64 (x : Int) w (by omega) (by omega)
  rw [Int.toNat_natCast] at L
  generalize Lib.bitLen x = b at *
  have H := hide L
  clear L
  go_enter Tryz.func234, Tryz.ntmps234
  go_wp2_with fail
  refine (unhide H).mono ?_
  rintro e w1 ⟨rfl, hw⟩; rw [hw]; clear hw w1
  go_wp2_with fail
  go_ret
  exact ⟨retI (by omega), rfl⟩

theorem low_nat : ∀ (t N x y : Nat), x = 2 ^ t * y → y % 2 = 1 → x < 2 ^ N → x &&& (2 ^ N - x) = 2 ^ t
  | 0, N, x, y, hx, hy, hN => by
    rw [Nat.pow_zero, Nat.one_mul] at hx
    subst hx
    obtain ⟨M, rfl⟩ : ∃ M, N = M + 1 := by
      cases N with
      | zero => simp at hN; omega
      | succ M => exact ⟨M, rfl⟩
    rw [Nat.pow_succ] at hN ⊢
    apply Nat.eq_of_testBit_eq
    intro i
    rw [Nat.testBit_and]
    cases i with
    | zero =>
      have h2 : (2 ^ M * 2 - x) % 2 = 1 := by omega
      simp [Nat.testBit_zero, hy, h2]
    | succ i =>
      have h2 : (2 ^ M * 2 - x) / 2 = 2 ^ M - (x / 2 + 1) := by omega
      rw [Nat.testBit_succ, Nat.testBit_succ, h2, Nat.testBit_two_pow_sub_succ (by omega), Nat.testBit_succ]
      cases Nat.testBit (x / 2) i <;> simp
  | t + 1, N, x, y, hx, hy, hN => by
    have hx2 : x = 2 * (2 ^ t * y) := by rw [hx, Nat.pow_succ, Nat.mul_comm (2 ^ t) 2, Nat.mul_assoc]
    have hpos : 0 < 2 ^ t * y := Nat.mul_pos (Nat.two_pow_pos _) (by omega)
    obtain ⟨M, rfl⟩ : ∃ M, N = M + 1 := by
      cases N with
      | zero => simp at hN; omega
      | succ M => exact ⟨M, rfl⟩
    rw [Nat.pow_succ] at hN
    have ih := low_nat t M (2 ^ t * y) y rfl hy (by omega)
    generalize 2 ^ t * y = z at hx2 hpos ih
    subst hx2
    apply Nat.eq_of_testBit_eq
    intro i
    rw [Nat.testBit_and]
    cases i with
    | zero =>
      have h2 : (2 * z) % 2 = 0 := by omega
      have h3 : 2 ^ (t + 1) % 2 = 0 := by rw [Nat.pow_succ]; omega
      simp only [Nat.testBit_zero, h2, h3]
      simp
    | succ i =>
      have h2 : (2 ^ (M + 1) - 2 * z) / 2 = 2 ^ M - z := by rw [Nat.pow_succ]; omega
      have h3 : 2 ^ (t + 1) / 2 = 2 ^ t := by rw [Nat.pow_succ]; omega
      have h4 : 2 * z / 2 = z := by omega
      rw [Nat.testBit_succ, Nat.testBit_succ, Nat.testBit_succ, h2, h3, h4, ← Nat.testBit_and, ih]

theorem low_bit (x t y n : Nat) (hx : x = 2 ^ t * y) (hy : y % 2 = 1) (h : x < 18446744073709551616) (hn : n + x = 18446744073709551616) : bits BinOp.and IntKind.u64 (x : Int) (n : Int) = ((2 ^ t : Nat) : Int) := by
  have h0 : 0 < x := by rw [hx]; exact Nat.mul_pos (Nat.two_pow_pos _) (by omega)
  have hn2 : n = 2 ^ 64 - x := by omega
  rw [u64_and_nat _ _ h (by omega), hn2, low_nat t 64 x y hx hy h]

theorem db_all : ((List.range 64).all fun t => decide (2 ^ t * 285870213051353865 % 18446744073709551616 / 288230376151711744 < 64) && decide (dbTab (2 ^ t * 285870213051353865 % 18446744073709551616 / 288230376151711744) = t)) = true := by decide +kernel

theorem db_at (t : Nat) (ht : t < 64) : ∃ i p : Nat, 2 ^ t = p ∧ p < 18446744073709551616 ∧ p * 285870213051353865 % 18446744073709551616 / 288230376151711744 = i ∧ i < 64 ∧ dbTab i = t := by
  have h := List.all_eq_true.1 db_all t (List.mem_range.2 ht)
  simp only [Bool.and_eq_true, decide_eq_true_eq] at h
  have hp : 2 ^ t < 2 ^ 64 := Nat.pow_lt_pow_right (by decide) ht
  exact ⟨_, _, rfl, hp, rfl, h.1, h.2⟩

theorem tzN_split {x : Nat} (h0 : x ≠ 0) (h : x < 18446744073709551616) : ∃ y, x = 2 ^ tzN x * y ∧ y % 2 = 1 := by
  obtain ⟨_, ⟨y, hy⟩, h3⟩ := tzN_spec h0 h
  refine ⟨y, hy, ?_⟩
  generalize tzN x = t at *
  subst hy
  rw [Nat.mul_div_cancel_left _ (Nat.two_pow_pos _)] at h3
  exact h3

set_option maxHeartbeats 400000 in
theorem tz_any (x : Nat) (w : World) (hx : x < 18446744073709551616) (h0 : x ≠ 0) (hT : CTabs w) :
    Calls Tryz.prog 235 #[.int .u64 x] w fun e w' => e = .returned (.int .i64 (tzN x)) ∧ w' = w := by
  obtain ⟨y, hy, hy2⟩ := tzN_split h0 hx
  have ht := (tzN_spec h0 hx).1
  obtain ⟨n, hn⟩ : ∃ n, n + x = 18446744073709551616 := ⟨18446744073709551616 - x, by omega⟩
  have hl := low_bit x (tzN x) y n hy hy2 hx hn
  clear hy hy2
  generalize tzN x = t at *
  obtain ⟨i, p, hp, hp2, hi, hi64, hd⟩ := db_at t ht
  rw [hp] at hl
  have e1 : IntKind.u64.wrap (-(x : Int)) = (n : Int) := by rw [IntKind.wrap_u64]; omega
  have e3 : IntKind.u64.wrap ((p : Int) * 285870213051353865) / 288230376151711744 = (i : Int) := by
    rw [IntKind.wrap_u64, ← hi]; simp
  have c := hT.db i hi64
  rw [hd] at c
  clear hi hd hT hp hn
  have g0 : ((x : Int) == 0) = false := by rw [beq_eq_false_iff_ne]; omega
  go_enter Tryz.func235, Tryz.ntmps235
  go_wp2_with fail
  go_ret
  exact ⟨by go_num, rfl⟩

theorem sgn_calls (x k : Nat) (w : World) (hx : x < 18446744073709551616) (hk : k < 5) :
    Calls Tryz.prog 140 #[.int .u64 x, .int .i64 (cw k)] w fun e w' => e = .returned (.int .i64 (sgnN x (cw k))) ∧ w' = w := by
  have hk5 : k = 0 ∨ k = 1 ∨ k = 2 ∨ k = 3 ∨ k = 4 := by omega
  rcases hk5 with rfl | rfl | rfl | rfl | rfl
  all_goals
    simp only [cw]
    go_enter Tryz.func140, Tryz.ntmps140
    go_wp2_with fail
    go_ret
    refine ⟨retI ?_, rfl⟩
    simp only [wrap64, IntKind.wrap_u64, sgnN_0, sgnN_7, sgnN_9, sgnN_12, sgnN_64, wI]
    all_goals omega

theorem kind_test {c : Int} (h : I64 c) (k : Nat) (hk : k ≤ 4) : sgnN (uN c) (cw k) = c ↔ kindN c ≤ k := by
  have hk5 : k = 0 ∨ k = 1 ∨ k = 2 ∨ k = 3 ∨ k = 4 := by omega
  unfold I64 at h
  have hl := kindN_le c
  rcases hk5 with rfl | rfl | rfl | rfl | rfl
  · rw [show cw 0 = 0 from rfl, sgnN_0]; unfold kindN; split <;> (try split) <;> (try split) <;> (try split) <;> omega
  · rw [show cw 1 = 7 from rfl, sgnN_7]; unfold kindN uN; split <;> (try split) <;> (try split) <;> (try split) <;> omega
  · rw [show cw 2 = 9 from rfl, sgnN_9]; unfold kindN uN; split <;> (try split) <;> (try split) <;> (try split) <;> omega
  · rw [show cw 3 = 12 from rfl, sgnN_12]; unfold kindN uN; split <;> (try split) <;> (try split) <;> (try split) <;> omega
  · rw [show cw 4 = 64 from rfl, sgnN_64]
    constructor
    · intro _; exact hl
    · intro _; unfold uN wI; omega

set_option maxHeartbeats 800000 in
theorem kind_any (c : Int) (w : World) (hc : I64 c) (hT : CTabs w) :
    Calls Tryz.prog 192 #[.int .i64 c] w fun e w' => e = .returned (.int .i64 (kindN c)) ∧ w' = w := by
  have HS := hide (fun k w hk => sgn_calls (uN c) k w (uN_lt c) hk)
  have HT := hide hT.cwid
  have hkt := hide (kind_test hc)
  have hl := kindN_le c
  have hu : IntKind.u64.wrap c = (uN c : Int) := by rw [IntKind.wrap_u64]; unfold uN; omega
  clear hT hc
  go_enter Tryz.func192, Tryz.ntmps192
  go_wp2_with fail
  go_loop [3] (fun z => ∃ k : Nat, k ≤ kindN c ∧ z = .int .i64 k) (fun z => 5 - (RowKit.intOf z).toNat)
  case atStart => exact ⟨0, by omega, rfl⟩
  case round =>
    obtain ⟨k, hk, rfl⟩ := hrel
    have hck := unhide HT k (by omega)
    go_wp2_with fail
    refine (unhide HS k _ (by omega)).mono ?_
    rintro e w1 ⟨rfl, hw⟩; rw [hw]; clear hw w1
    have ht := unhide hkt k (by omega)
    by_cases h : sgnN (uN c) (cw k) = c
    · have hkk : kindN c = k := by have := ht.1 h; omega
      rw [h]
      go_wp2_with fail
      go_ret
      exact ⟨by rw [hkk]; rfl, rfl⟩
    · have hkk : k < kindN c := by
        apply Classical.byContradiction
        intro hn
        exact h (ht.2 (by omega))
      have hne : (sgnN (uN c) (cw k) != c) = true := by rw [bne_iff_ne]; exact h
      generalize sgnN (uN c) (cw k) = z at hne
      clear ht h
      go_wp2_with fail
      go_round
      case rel => exact ⟨k + 1, by omega, by go_num⟩
      case measure => simp [RowKit.intOf]; omega

set_option maxHeartbeats 400000 in
theorem behind_any (L M : Nat) (w : World) (hL : L ≤ 64) (hM : M ≤ 64) :
    Calls Tryz.prog 141 #[.agg #[.int .i64 L, .int .i64 M]] w fun e w' => e = .returned (.int .i64 (64 - (L : Int) - M)) ∧ ∃ o, w' = w.alloc o := by
  go_enter Tryz.func141, Tryz.ntmps141
  go_wp2_with fail
  go_ret
  exact ⟨rfl, _, rfl⟩

theorem below_drewC {B : Nat} {a w : World} (h : Below B a w) (n : Nat) : Below B a (w.drewN n) := by
  obtain ⟨h1, h2, h3, h4, h5⟩ := h
  exact ⟨h1, h2, h3, by simpa using h4, by simpa using h5⟩

set_option maxHeartbeats 800000 in
theorem fits_any (L M x : Nat) (w : World) (hL : L ≤ 64) (hM : L + M ≤ 64) (hx : x < 18446744073709551616) (h0 : x ≠ 0) (hT : CTabs w) (hG : GK (fun k => k < w.heap.size)) :
    Calls Tryz.prog 193 #[.agg #[.int .i64 L, .int .i64 M], .int .u64 x] w fun e w' => e = .returned (.bool (decide (L ≤ lzN x ∧ 64 - L - M ≤ tzN x))) ∧ Below w.heap.size w w' := by
  have HL := hide (fun w => lz_any x w hx h0)
  have HZ := hide (fun w hT => tz_any x w hx h0 hT)
  have HB := hide (fun w => behind_any L M w hL (by omega))
  have HT := hide hT
  clear hT
  have HTw : Hid (∀ o, CTabs (w.alloc o).drew) := fun o => (unhide HT).kept hG ((Kept.refl _ w).alloc (fun _ h => h) o).drew
  generalize lzN x = a at *
  generalize tzN x = b at *
  by_cases hl : L ≤ a
  · have hd : decide (L ≤ a ∧ 64 - L - M ≤ b) = decide (64 - (L : Int) - M ≤ (b : Int)) := by
      apply decide_eq_decide.2
      omega
    rw [hd]
    clear hd
    go_enter Tryz.func193, Tryz.ntmps193
    go_wp2_with fail
    go_region_with (first | (go_at_call 234; refine (unhide HL _).mono ?_; rintro e w' ⟨rfl, rfl⟩) | (go_at_call 235; refine (unhide HZ _ (unhide HTw _)).mono ?_; rintro e w' ⟨rfl, rfl⟩) | (go_at_call 141; refine (unhide HB _).mono ?_; rintro e w' ⟨rfl, o, rfl⟩))
    all_goals
      go_wp2_with fail
      go_ret
      exact ⟨rfl, (((Below.refl _ w).alloc (Nat.le_refl _) _).drew).alloc (by simp) _⟩
  · have hd : decide (L ≤ a ∧ 64 - L - M ≤ b) = false := decide_eq_false (fun h => hl h.1)
    rw [hd]
    clear hd
    go_enter Tryz.func193, Tryz.ntmps193
    go_wp2_with fail
    go_quiet ((go_at_call 234; exact Calls.quiet_of_same (unhide HL _)))
    go_wp2_with fail
    go_ret
    exact ⟨rfl, below_drewC ((Below.refl _ w).alloc (Nat.le_refl _) _) _⟩

set_option maxHeartbeats 800000 in
theorem windowOf_any (x : Nat) (w : World) (hx : x < 18446744073709551616) (h0 : x ≠ 0) (hT : CTabs w) (hG : GK (fun k => k < w.heap.size)) :
    Calls Tryz.prog 194 #[.int .u64 x] w fun e w' => e = .returned (.agg #[.int .i64 (min (lzN x) 31 : Nat), .int .i64 (64 - (min (lzN x) 31 : Nat) - tzN x : Int)]) ∧ ∃ o, w' = w.alloc o := by
  have HL := hide (fun w => lz_any x w hx h0)
  have HZ : Hid (∀ o, Calls Tryz.prog 235 #[.int .u64 x] (w.alloc o) fun e w' => e = .returned (.int .i64 (tzN x)) ∧ w' = w.alloc o) := fun o => tz_any x (w.alloc o) hx h0 (hT.kept hG ((Kept.refl _ w).alloc (fun _ h => h) o))
  have hz1 : lzN x ≤ 64 := by unfold lzN; split <;> omega
  have hz2 : tzN x < 64 := (tzN_spec h0 hx).1
  clear hT
  generalize lzN x = a at *
  generalize tzN x = b at *
  have hmn : ((min a 31 : Nat) : Int) = min (a : Int) 31 := by omega
  rw [hmn]
  clear hmn
  go_enter Tryz.func194, Tryz.ntmps194
  go_wp2_with fail
  refine (unhide HL _).mono ?_
  rintro e w' ⟨rfl, hw⟩; rw [hw]; clear hw w'
  go_wp2_with fail
  refine (unhide HZ _).mono ?_
  rintro e w' ⟨rfl, hw⟩; rw [hw]; clear hw w'
  go_wp2_with fail
  exact bodyPost_ret (v := .agg #[.int .i64 (min (a : Int) 31), .int .i64 (64 - min (a : Int) 31 - b)]) (by simp [results, Tryz.results194, go_sem]) rfl ⟨rfl, _, rfl⟩
end Go.Proofs.YtgekdmjneogdoaaGreatDoor

namespace Go.Proofs.YtgekdmjneogdoaaGreatDoor
open Go.RowKit

/-- the trail at q -/
def TrAt (w : World) (q : Nat) (t : Tr) : Prop :=
  ∃ ty, w.heap[q]? = some (.cells #[.int .i64 t.T, .int .u64 t.V, .int .i64 t.step, .int .i64 t.L, .int .i64 t.M] ty (0, 0))

/-- K, and one block more -/
def And1 (K : Nat → Prop) (q : Nat) : Nat → Prop := fun k => K k ∨ k = q

theorem TrAt.kept {K : Nat → Prop} {w w' : World} {q : Nat} {t : Tr} (h : TrAt w q t) (hk : Kept (And1 K q) w w') : TrAt w' q t := by
  obtain ⟨ty, h⟩ := h
  exact ⟨ty, (hk.block q (Or.inr rfl)).trans h⟩

theorem grown_setCell (w : World) (a : Addr) (v : Value) : w.grownBy (w.setCell a v) (some a.block) :=
  ⟨rfl, rfl, rfl, by simp, fun k _ hk => Below.heap_setCell w a v k (fun e => hk (by rw [e]))⟩

theorem Wr.setCell {K : Nat → Prop} {w : World} {p : Nat} {bs : List Nat} (h : Wr K w p bs) {a : Addr} (hp : p ≠ a.block) (ha : K a.block) (v : Value) : Wr K (w.setCell a v) p bs := by
  obtain ⟨u, t, h1, h2, h3⟩ := h
  refine ⟨u, t, (Below.heap_setCell w a v p hp).trans h1, h2.kept (grown_setCell w a v) ?_, h3⟩
  right
  intro e
  exact h3 _ e ha

theorem time_end {K : Nat → Prop} {w w2 : World} {p q : Nat} {t : Tr} {ty : TypeId} {B : List Nat} (T d : Int) (hpq : p ≠ q) (hq : ¬ K q)
    (hh : w2.heap[q]? = some (.cells #[.int .i64 t.T, .int .u64 t.V, .int .i64 t.step, .int .i64 t.L, .int .i64 t.M] ty (0, 0))) (hw : Wr (And1 K q) w2 p B) (hk : Kept (And1 K q) w w2) :
    Wr (And1 K q) ((w2.setCell ⟨q, 0, none⟩ (.int .i64 T)).setCell ⟨q, 2, none⟩ (.int .i64 d)) p B ∧
      TrAt ((w2.setCell ⟨q, 0, none⟩ (.int .i64 T)).setCell ⟨q, 2, none⟩ (.int .i64 d)) q { t with T := T, step := d } ∧
      Kept K w ((w2.setCell ⟨q, 0, none⟩ (.int .i64 T)).setCell ⟨q, 2, none⟩ (.int .i64 d)) := by
  refine ⟨(hw.setCell hpq (Or.inr rfl) _).setCell hpq (Or.inr rfl) _, ?_, ((hk.sub (fun k h => Or.inl h)).setCell hq _).setCell hq _⟩
  have h1 := heap_setCell_same w2 q 0 _ ty (.int .i64 T) hh
  have h2 := heap_setCell_same _ q 2 _ ty (.int .i64 d) h1
  exact ⟨ty, by simpa using h2⟩

set_option maxRecDepth 20000 in
set_option maxHeartbeats 1600000 in
theorem writeTime_any (K : Nat → Prop) (p q : Nat) (bs : List Nat) (t : Tr) (T : Int) (w : World) (hpq : p ≠ q) (hp : ¬ K p) (hq : ¬ K q) (hK : ∀ k, K k → k < w.heap.size) (hw : Wr (And1 K q) w p bs) (ht : TrAt w q t) (hlen : bs.length ≤ 90000)
    (hT : CTabs w) (hG : GK K) :
    Calls Tryz.prog 138 #[.pointer (some ⟨q, 0, none⟩), .pointer (some ⟨p, 0, none⟩), .int .i64 T] w fun e w' => e = .returned (.tuple #[]) ∧
      Wr (And1 K q) w' p (bs ++ timeN (wI (wI (T - t.T) - t.step))) ∧ TrAt w' q { t with T := T, step := wI (T - t.T) } ∧ Kept K w w' := by
  obtain ⟨d, hd⟩ : ∃ d, wI (T - t.T) = d := ⟨_, rfl⟩
  obtain ⟨c, hc⟩ : ∃ c, wI (d - t.step) = c := ⟨_, rfl⟩
  have e1 : wrap64 (T - t.T) = d := by rw [← hd, wrap64, wI]
  have e2 : wrap64 (d - t.step) = c := by rw [← hc, wrap64, wI]
  have hdI : I64 d := hd ▸ wI_in _
  have hcI : I64 c := hc ▸ wI_in _
  rw [hd, hc]
  clear hd hc
  have hKq : ∀ k, And1 K q k → k < w.heap.size := by
    obtain ⟨ty, h⟩ := ht
    intro k hk
    rcases hk with hk | rfl
    · exact hK k hk
    · exact (Array.getElem?_eq_some_iff.1 h).1
  have hpA : ¬ And1 K q p := by
    rintro (h | h)
    · exact hp h
    · exact hpq h
  have HC := hide (kind_any c w hcI hT)
  have hkl := kindN_le c
  have HW := hide hw
  have HT := hide hT
  have HTr := hide ht
  have HKq := hide hKq
  have HpA := hide hpA
  obtain ⟨ty, hh⟩ := ht
  have c0 := cell_of_row w q 0 _ ty _ hh
  have c2 := cell_of_row w q 2 _ ty _ hh
  simp only [List.getElem?_toArray, List.getElem?_cons_zero, List.getElem?_cons_succ] at c0 c2
  unfold I64 at hdI hcI
  clear hw hT hh hKq hpA
  go_enter Tryz.func138, Tryz.ntmps138
  go_wp2_with fail
  refine (unhide HC).mono ?_
  rintro e w1 ⟨rfl, hw⟩; rw [hw]; clear hw w1
  have HU : Hid ((uN c : Int) = IntKind.u64.wrap c) := by
    show (uN c : Int) = IntKind.u64.wrap c
    rw [IntKind.wrap_u64]; unfold uN; omega
  have hkn : Hid (timeN c = List.replicate (kindN c) 1 ++ (if kindN c < 4 then [0] else []) ++ bitsN (uN c) (cw (kindN c))) := rfl
  have hck := (unhide HT).cwid (kindN c) (by omega)
  generalize kindN c = k at *
  go_wp2_with fail
  go_loopw [25] (fun z wr => ∃ j : Nat, j ≤ k ∧ z = .int .i64 j ∧ Wr (And1 K q) wr p (bs ++ List.replicate j 1) ∧ Kept (And1 K q) w wr) (fun z _ => 5 - (RowKit.intOf z).toNat)
  case atStart => exact ⟨0, by omega, rfl, by simpa using unhide HW, Kept.refl _ _⟩
  case round =>
    obtain ⟨j, hj, rfl, hwr, hkp⟩ := hrel
    by_cases hjk : j < k
    · go_wp2_with fail
      refine (write_any (And1 K q) p 1 1 _ wr (unhide HpA) (fun k hk => Nat.lt_of_lt_of_le (unhide HKq k hk) hkp.size) hwr (by simp; omega) (by omega) (by omega)).mono ?_
      rintro e w1 ⟨rfl, hw1, hk1⟩
      go_wp2_with fail
      go_roundw
      case rel =>
        refine ⟨j + 1, by omega, by go_num, ?_, hkp.trans hk1⟩
        have e : bs ++ List.replicate j 1 ++ bitsN 1 1 = bs ++ List.replicate (j + 1) 1 := by
          rw [show bitsN 1 1 = [1] from rfl, List.append_assoc, List.replicate_succ']
        exact e ▸ hw1
      case measure => simp [RowKit.intOf]; omega
    · have hjk2 : j = k := by omega
      subst hjk2
      have hck2 : wr.cell? ⟨1, j, none⟩ = some (.int .i64 (cw j)) := (hkp.cell (p := ⟨_, j, none⟩) (Or.inl hG.1)).trans hck
      have hU := unhide HU
      have hcw : cw j ≤ 64 := by unfold cw; split <;> omega
      have hul := uN_lt c
      by_cases hj4 : j < 4
      · have hj5 : (j : Int) < 4 := by omega
        go_wp2_with fail
        refine (write_any (And1 K q) p 0 1 _ wr (unhide HpA) (fun k hk => Nat.lt_of_lt_of_le (unhide HKq k hk) hkp.size) hwr (by simp; omega) (by omega) (by omega)).mono ?_
        rintro e w1 ⟨rfl, hw1, hk1⟩
        have hck3 : w1.cell? ⟨1, j, none⟩ = some (.int .i64 (cw j)) := (hk1.cell (p := ⟨_, j, none⟩) (Or.inl hG.1)).trans hck2
        clear hck hck2 c0 c2
        go_wp2_with fail
        rw [← hU]
        refine (write_any (And1 K q) p (uN c) (cw j) _ w1 (unhide HpA) (fun k hk => Nat.lt_of_lt_of_le (unhide HKq k hk) (hkp.trans hk1).size) hw1 (by simp [bitsN_length]; omega) hul hcw).mono ?_
        rintro e w2 ⟨rfl, hw2, hk2⟩
        have hk3 := (hkp.trans hk1).trans hk2
        obtain ⟨ty, hh⟩ := (unhide HTr).kept hk3
        have d0 := cell_of_row w2 q 0 _ ty _ hh
        have d2 := cell_of_row w2 q 2 _ ty _ hh
        simp only [List.getElem?_toArray, List.getElem?_cons_zero, List.getElem?_cons_succ] at d0 d2
        have f0 := frozen_of_row w2 q 0 _ ty hh
        have f2 := frozen_of_row w2 q 2 _ ty hh
        have Hh := hide hh
        have Hw2 := hide hw2
        clear hh hw2 hck3
        go_wp2_with fail
        go_end0
        have e : bs ++ List.replicate j 1 ++ bitsN 0 1 ++ bitsN (uN c) (cw j) = bs ++ timeN c := by
          rw [unhide hkn, if_pos hj4, show bitsN 0 1 = [0] from rfl]; simp
        exact ⟨rfl, time_end T d hpq hq (unhide Hh) (e ▸ unhide Hw2) hk3⟩
      · have hj5 : ¬ (j : Int) < 4 := by omega
        clear c0 c2 hck
        go_wp2_with fail
        rw [← hU]
        refine (write_any (And1 K q) p (uN c) (cw j) _ wr (unhide HpA) (fun k hk => Nat.lt_of_lt_of_le (unhide HKq k hk) hkp.size) hwr (by simp; omega) hul hcw).mono ?_
        rintro e w2 ⟨rfl, hw2, hk2⟩
        have hk3 := hkp.trans hk2
        obtain ⟨ty, hh⟩ := (unhide HTr).kept hk3
        have d0 := cell_of_row w2 q 0 _ ty _ hh
        have d2 := cell_of_row w2 q 2 _ ty _ hh
        simp only [List.getElem?_toArray, List.getElem?_cons_zero, List.getElem?_cons_succ] at d0 d2
        have f0 := frozen_of_row w2 q 0 _ ty hh
        have f2 := frozen_of_row w2 q 2 _ ty hh
        have Hh := hide hh
        have Hw2 := hide hw2
        clear hh hw2 hck2
        go_wp2_with fail
        go_end0
        have e : bs ++ List.replicate j 1 ++ bitsN (uN c) (cw j) = bs ++ timeN c := by
          rw [unhide hkn, if_neg hj4]; simp
        exact ⟨rfl, time_end T d hpq hq (unhide Hh) (e ▸ unhide Hw2) hk3⟩
end Go.Proofs.YtgekdmjneogdoaaGreatDoor

namespace Go.Proofs.YtgekdmjneogdoaaGreatDoor
open Go.RowKit

theorem Below.grownBy {w w' : World} (h : Below w.heap.size w w') : w.grownBy w' none := ⟨h.os, h.tape, h.output, h.size, fun k hk _ => h.block k hk⟩

theorem Wr.below {K : Nat → Prop} {w w' : World} {p : Nat} {bs : List Nat} (h : Wr K w p bs) (hb : Below w.heap.size w w') : Wr K w' p bs := by
  obtain ⟨u, t, h1, h2, h3⟩ := h
  refine ⟨u, t, (hb.block p (Array.getElem?_eq_some_iff.1 h1).1).trans h1, h2.kept (Below.grownBy hb) ?_, h3⟩
  cases u.ownBlock <;> simp

theorem Kept.ofBelow {K : Nat → Prop} {w w' : World} (hb : Below w.heap.size w w') (hK : ∀ k, K k → k < w.heap.size) : Kept K w w' :=
  ⟨hb.os, hb.tape, hb.output, hb.size, fun k hk => hb.block k (hK k hk)⟩

theorem TrAt.cells {w : World} {q : Nat} {t : Tr} (h : TrAt w q t) :
    (w.cell? ⟨q, 0, none⟩ = some (.int .i64 t.T) ∧ w.cell? ⟨q, 1, none⟩ = some (.int .u64 t.V) ∧ w.cell? ⟨q, 2, none⟩ = some (.int .i64 t.step) ∧ w.cell? ⟨q, 3, none⟩ = some (.int .i64 t.L) ∧ w.cell? ⟨q, 4, none⟩ = some (.int .i64 t.M)) ∧
      (∀ j, w.frozen? ⟨q, j, none⟩ = false) ∧ q < w.heap.size := by
  obtain ⟨ty, hh⟩ := h
  refine ⟨⟨?_, ?_, ?_, ?_, ?_⟩, fun j => frozen_of_row w q j _ ty hh, (Array.getElem?_eq_some_iff.1 hh).1⟩
  · rw [cell_of_row w q 0 _ ty _ hh]; rfl
  · rw [cell_of_row w q 1 _ ty _ hh]; rfl
  · rw [cell_of_row w q 2 _ ty _ hh]; rfl
  · rw [cell_of_row w q 3 _ ty _ hh]; rfl
  · rw [cell_of_row w q 4 _ ty _ hh]; rfl

theorem TrAt.setV {w : World} {q : Nat} {t : Tr} (h : TrAt w q t) (V : Nat) : TrAt (w.setCell ⟨q, 1, none⟩ (.int .u64 V)) q { t with V := V } := by
  obtain ⟨ty, hh⟩ := h
  have h1 := heap_setCell_same w q 1 _ ty (.int .u64 V) hh
  exact ⟨ty, by simpa using h1⟩

theorem TrAt.setLM {w : World} {q : Nat} {t : Tr} (h : TrAt w q t) (L M : Nat) : TrAt ((w.setCell ⟨q, 3, none⟩ (.int .i64 L)).setCell ⟨q, 4, none⟩ (.int .i64 M)) q { t with L := L, M := M } := by
  obtain ⟨ty, hh⟩ := h
  have h1 := heap_setCell_same w q 3 _ ty (.int .i64 L) hh
  have h2 := heap_setCell_same _ q 4 _ ty (.int .i64 M) h1
  exact ⟨ty, by simpa using h2⟩

/-- what stays as it is while samples are written -/
structure Fix (K : Nat → Prop) (w : World) (p q : Nat) : Prop where
  pq : p ≠ q
  np : ¬ K p
  nq : ¬ K q
  inK : ∀ k, K k → k < w.heap.size
  G : GK K

/-- how the writing stands: the writer's bits, the trail -/
structure St (K : Nat → Prop) (w w1 : World) (p q : Nat) (B : List Nat) (t : Tr) : Prop where
  wr : Wr (And1 K q) w1 p B
  tr : TrAt w1 q t
  kept : Kept K w w1
  tabs : CTabs w1

theorem St.size {K : Nat → Prop} {w w1 : World} {p q : Nat} {B : List Nat} {t : Tr} (h : St K w w1 p q B t) (F : Fix K w p q) : ∀ k, And1 K q k → k < w1.heap.size := by
  intro k hk
  rcases hk with hk | rfl
  · exact Nat.lt_of_lt_of_le (F.inK k hk) h.kept.size
  · exact h.tr.cells.2.2

theorem St.write {K : Nat → Prop} {w w1 : World} {p q : Nat} {B : List Nat} {t : Tr} (h : St K w w1 p q B t) (F : Fix K w p q) (x n : Nat) (hB : B.length ≤ 100000) (hx : x < 18446744073709551616) (hn : n ≤ 64) :
    Calls Tryz.prog 137 #[.pointer (some ⟨p, 0, none⟩), .int .u64 x, .int .i64 n] w1 fun e w' => e = .returned (.tuple #[]) ∧ St K w w' p q (B ++ bitsN x n) t := by
  refine (write_any (And1 K q) p x n B w1 ?_ (h.size F) h.wr hB hx hn).mono ?_
  · rintro (h | h)
    · exact F.np h
    · exact F.pq h
  · rintro e w' ⟨rfl, h1, h2⟩
    have h3 : Kept K w1 w' := h2.sub (fun k hk => Or.inl hk)
    exact ⟨rfl, h1, h.tr.kept h2, h.kept.trans h3, h.tabs.kept F.G h3⟩

theorem St.below {K : Nat → Prop} {w w1 w' : World} {p q : Nat} {B : List Nat} {t : Tr} (h : St K w w1 p q B t) (F : Fix K w p q) (hb : Below w1.heap.size w1 w') : St K w w' p q B t := by
  have h2 : Kept (And1 K q) w1 w' := Kept.ofBelow hb (h.size F)
  have h3 : Kept K w1 w' := h2.sub (fun k hk => Or.inl hk)
  exact ⟨h.wr.below hb, h.tr.kept h2, h.kept.trans h3, h.tabs.kept F.G h3⟩

theorem St.setV {K : Nat → Prop} {w w1 : World} {p q : Nat} {B : List Nat} {t : Tr} (h : St K w w1 p q B t) (F : Fix K w p q) (V : Nat) : St K w (w1.setCell ⟨q, 1, none⟩ (.int .u64 V)) p q B { t with V := V } := by
  have h3 : Kept K w1 (w1.setCell ⟨q, 1, none⟩ (.int .u64 V)) := (Kept.refl K w1).setCell F.nq _
  exact ⟨h.wr.setCell F.pq (Or.inr rfl) _, h.tr.setV V, h.kept.trans h3, h.tabs.kept F.G h3⟩

theorem St.setLM {K : Nat → Prop} {w w1 : World} {p q : Nat} {B : List Nat} {t : Tr} (h : St K w w1 p q B t) (F : Fix K w p q) (L M : Nat) : St K w ((w1.setCell ⟨q, 3, none⟩ (.int .i64 L)).setCell ⟨q, 4, none⟩ (.int .i64 M)) p q B { t with L := L, M := M } := by
  have h3 : Kept K w1 ((w1.setCell ⟨q, 3, none⟩ (.int .i64 L)).setCell ⟨q, 4, none⟩ (.int .i64 M)) := ((Kept.refl K w1).setCell F.nq _).setCell F.nq _
  exact ⟨(h.wr.setCell F.pq (Or.inr rfl) _).setCell F.pq (Or.inr rfl) _, h.tr.setLM L M, h.kept.trans h3, h.tabs.kept F.G h3⟩

theorem St.GK {K : Nat → Prop} {w w1 : World} {p q : Nat} {B : List Nat} {t : Tr} (h : St K w w1 p q B t) (F : Fix K w p q) : GK (fun k => k < w1.heap.size) :=
  ⟨h.size F _ (Or.inl F.G.1), h.size F _ (Or.inl F.G.2)⟩

theorem St.time {K : Nat → Prop} {w w1 : World} {p q : Nat} {B : List Nat} {t : Tr} (h : St K w w1 p q B t) (F : Fix K w p q) (T : Int) (hB : B.length ≤ 90000) :
    Calls Tryz.prog 138 #[.pointer (some ⟨q, 0, none⟩), .pointer (some ⟨p, 0, none⟩), .int .i64 T] w1 fun e w' => e = .returned (.tuple #[]) ∧ St K w w' p q (B ++ timeN (wI (wI (T - t.T) - t.step))) { t with T := T, step := wI (T - t.T) } := by
  refine (writeTime_any K p q B t T w1 F.pq F.np F.nq (fun k hk => h.size F k (Or.inl hk)) h.wr h.tr hB h.tabs F.G).mono ?_
  rintro e w' ⟨rfl, h1, h2, h3⟩
  exact ⟨rfl, h1, h2, h.kept.trans h3, h.tabs.kept F.G h3⟩

set_option maxRecDepth 20000 in
set_option maxHeartbeats 1600000 in
theorem value_zero {K : Nat → Prop} {w w1 : World} {p q : Nat} {B : List Nat} {t : Tr} (h : St K w w1 p q B t) (F : Fix K w p q) (V : Nat) (hB : B.length ≤ 90000) (ex : bits BinOp.xor IntKind.u64 (V : Int) (t.V : Int) = 0) :
    Calls Tryz.prog 139 #[.pointer (some ⟨q, 0, none⟩), .pointer (some ⟨p, 0, none⟩), .int .u64 V] w1 fun e w' => e = .returned (.tuple #[]) ∧ St K w w' p q (B ++ [0]) { t with V := V } := by
  have H0 := hide (h.setV F V)
  obtain ⟨⟨_, c1, _, c3, c4⟩, hfz, hqs⟩ := h.tr.cells
  have f1 := hfz 1
  clear hfz h
  have HF := hide F
  clear F
  go_enter Tryz.func139, Tryz.ntmps139
  go_wp2_with fail
  refine ((unhide H0).write (unhide HF) 0 1 (by omega) (by omega) (by omega)).mono ?_
  rintro e w2 ⟨rfl, hS⟩
  go_wp2_with fail
  first | go_end0 | refine bodyPost_ret (results_none rfl _ _ _) rfl ?_
  exact ⟨rfl, hS⟩

set_option maxRecDepth 20000 in
set_option maxHeartbeats 1600000 in
theorem value_fits {K : Nat → Prop} {w w1 : World} {p q : Nat} {B : List Nat} {t : Tr} (h : St K w w1 p q B t) (F : Fix K w p q) (V x : Nat) (hB : B.length ≤ 90000) (ex : bits BinOp.xor IntKind.u64 (V : Int) (t.V : Int) = (x : Int)) (h0 : x ≠ 0) (hx : x < 18446744073709551616)
    (b : Nat) (hLM : t.L + t.M + b = 64) (hf : t.L ≤ lzN x ∧ 64 - t.L - t.M ≤ tzN x) :
    Calls Tryz.prog 139 #[.pointer (some ⟨q, 0, none⟩), .pointer (some ⟨p, 0, none⟩), .int .u64 V] w1 fun e w' => e = .returned (.tuple #[]) ∧ St K w w' p q (B ++ bitsN 1 1 ++ bitsN 0 1 ++ bitsN (x / 2 ^ b) t.M) { t with V := V } := by
  have H0 := hide (h.setV F V)
  obtain ⟨⟨_, c1, _, c3, c4⟩, hfz, hqs⟩ := h.tr.cells
  have f1 := hfz 1
  clear hfz h
  have HF := hide F
  clear F
  have g0 : ((x : Int) == 0) = false := by rw [beq_eq_false_iff_ne]; omega
  have hfd := decide_eq_true hf
  have Hf := hide hfd
  clear hf hfd
  go_enter Tryz.func139, Tryz.ntmps139
  go_wp2_with fail
  refine ((unhide H0).write (unhide HF) 1 1 (by omega) (by omega) (by omega)).mono ?_
  rintro e w2 ⟨rfl, hS⟩
  have H1 := hide hS
  clear c1 c3 c4 f1 hqs H0
  obtain ⟨⟨_, _, _, c3, c4⟩, _, _⟩ := hS.tr.cells
  clear hS
  simp only at c3 c4
  go_wp2_with fail
  refine (fits_any t.L t.M x w2 (by omega) (by omega) hx h0 (unhide H1).tabs ((unhide H1).GK (unhide HF))).mono ?_
  rintro e w3 ⟨rfl, hb3⟩
  have hS3 := (unhide H1).below (unhide HF) hb3
  have H3 := hide hS3
  clear hS3 hb3 H1 c3 c4
  rw [unhide Hf]
  go_wp2_with fail
  refine ((unhide H3).write (unhide HF) 0 1 (by simp [bitsN_length]; omega) (by omega) (by omega)).mono ?_
  rintro e w4 ⟨rfl, hS⟩
  have H4 := hide hS
  obtain ⟨⟨_, _, _, c3, c4⟩, _, _⟩ := hS.tr.cells
  clear hS H3
  simp only at c3 c4
  have H5 : Hid (∀ o, St K w (w4.alloc o).drew p q (B ++ bitsN 1 1 ++ bitsN 0 1) { t with V := V }) := fun o => (unhide H4).below (unhide HF) ((Below.refl _ w4).alloc (Nat.le_refl _) o).drew
  have hb2 : 64 - (t.L : Int) - t.M = (b : Int) := by omega
  have HB := hide (fun w => behind_any t.L t.M w (by omega) (by omega))
  have hM : t.M ≤ 64 := by omega
  have hxb : x / 2 ^ b < 18446744073709551616 := Nat.lt_of_le_of_lt (Nat.div_le_self _ _) hx
  rw [hb2] at HB
  go_wp2_with fail
  go_region_with (first | (go_at_call 141; refine (unhide HB _).mono ?_; rintro e w' ⟨rfl, o, rfl⟩) | (go_at_call 137; rw [shr_nat]; refine ((unhide H5 _).write (unhide HF) (x / 2 ^ b) t.M (by simp [bitsN_length]; omega) hxb hM).mono ?_; rintro e w5 ⟨rfl, hS5⟩))
  all_goals
    go_wp2_with fail
    first | go_end0 | refine bodyPost_ret (results_none rfl _ _ _) rfl ?_
    exact ⟨rfl, hS5⟩
end Go.Proofs.YtgekdmjneogdoaaGreatDoor
