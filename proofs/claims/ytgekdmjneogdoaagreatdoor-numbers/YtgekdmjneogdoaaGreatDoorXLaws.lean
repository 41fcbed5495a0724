import Derived.Test.YtgekdmjneogdoaaGreatDoorProg
import Derived.WalkKit
import Derived.WalkSpells
import Derived.WalkLawsBesides
namespace Go.Proofs.YtgekdmjneogdoaaGreatDoor
open Go.RowKit

theorem hide {p : Prop} (h : p) : Hid p := h
theorem unhide {p : Prop} (h : Hid p) : p := h
theorem retU {a b : Int} (h : a = b) : Ending.returned (.int .u64 a) = .returned (.int .u64 b) := by rw [h]
theorem shr_nat (a s : Nat) : (a : Int) / 2 ^ s = ((a / 2 ^ s : Nat) : Int) := by norm_cast
theorem shl_nat (a s : Nat) : IntKind.u64.wrap ((a : Int) * 2 ^ s) = ((a * 2 ^ s % 18446744073709551616 : Nat) : Int) := by
  rw [IntKind.wrap_u64, Int.natCast_emod, Int.natCast_mul, Int.natCast_pow]; rfl

theorem and1 (u : Nat) (h : u < 18446744073709551616) : bits BinOp.and IntKind.u64 (u : Int) 1 = ((u % 2 : Nat) : Int) := by
  have := u64_and_nat u 1 h (by omega); rw [nat_mask1] at this; exact this

theorem or1 (u : Nat) (h : u < 18446744073709551616) : bits BinOp.or IntKind.u64 (u : Int) 1 = ((u ||| 1 : Nat) : Int) := u64_or_nat u 1 h (by omega)

theorem i64_and63 (s : Nat) (h : s < 64) : bits BinOp.and IntKind.i64 (s : Int) 63 = (s : Int) := by
  have : ∀ s : Fin 64, bits BinOp.and IntKind.i64 ((s.val : Nat) : Int) 63 = (s.val : Int) := by decide
  exact this ⟨s, h⟩

end Go.Proofs.YtgekdmjneogdoaaGreatDoor

namespace Go.Proofs.YtgekdmjneogdoaaGreatDoor

/-- what readFloat has gathered -/
structure RF where
  m : Nat
  tr : Bool
  sd : Bool
  sg : Bool
  nd : Nat
  nm : Nat
  dp : Int

def RF.start : RF := ⟨0, false, false, false, 0, 0, 0⟩

def RF.digit (st : RF) (c : Nat) : RF :=
  if c = 48 ∧ st.nd = 0 then { st with sg := true, dp := st.dp - 1 }
  else if st.nm < 19 then { st with sg := true, nd := st.nd + 1, nm := st.nm + 1, m := st.m * 10 + (c - 48) }
  else { st with sg := true, nd := st.nd + 1, tr := st.tr || decide (c ≠ 48) }

def RF.step (st : RF) (c : Nat) : Option RF :=
  if c = 46 then (if st.sd then none else some { st with sd := true, dp := st.nd })
  else if 48 ≤ c ∧ c ≤ 57 then some (st.digit c)
  else none

def RF.run : RF → List UInt8 → RF × List UInt8
  | st, [] => (st, [])
  | st, c :: r => match st.step c.toNat with
    | none => (st, c :: r)
    | some st' => RF.run st' r

/-- what holds of it behind k bytes -/
structure RF.Ok (st : RF) (k : Nat) : Prop where
  nm : st.nm ≤ 19
  nd : st.nd ≤ k
  lo : -(k : Int) ≤ st.dp
  hi : st.dp ≤ k
  m : st.m < 10 ^ st.nm

theorem RF.Ok.m19 {st : RF} {k : Nat} (h : st.Ok k) (h2 : st.nm < 19) : st.m < 1000000000000000000 := by
  have : 10 ^ st.nm ≤ 10 ^ 18 := Nat.pow_le_pow_right (by omega) (by omega)
  have := h.m
  omega

theorem RF.Ok.m20 {st : RF} {k : Nat} (h : st.Ok k) : st.m < 10000000000000000000 := by
  have : 10 ^ st.nm ≤ 10 ^ 19 := Nat.pow_le_pow_right (by omega) h.nm
  have := h.m
  omega

theorem RF.start_ok (k : Nat) : RF.start.Ok k := ⟨by simp [RF.start], by simp [RF.start], by simp [RF.start], by simp [RF.start], by simp [RF.start]⟩

theorem RF.Ok.digit {st : RF} {k c : Nat} (h : st.Ok k) (h1 : 48 ≤ c) (h2 : c ≤ 57) : (st.digit c).Ok (k + 1) := by
  have a := h.nm
  have b := h.nd
  have d := h.lo
  have e := h.hi
  have f := h.m
  unfold RF.digit
  split
  · exact ⟨a, by simp; omega, by simp; omega, by simp; omega, f⟩
  · split
    · refine ⟨by simp; omega, by simp; omega, by simp; omega, by simp; omega, ?_⟩
      simp only [Nat.pow_succ]
      omega
    · exact ⟨a, by simp; omega, by simp; omega, by simp; omega, f⟩

theorem RF.Ok.dot {st : RF} {k : Nat} (h : st.Ok k) : RF.Ok { st with sd := true, dp := st.nd } (k + 1) := by
  have a := h.nm
  have b := h.nd
  exact ⟨a, by simp; omega, by simp; omega, by simp; omega, h.m⟩

theorem exp_bound (v q j : Nat) (h : v < 10 ^ (q - j)) (hq : q - j ≤ 3) : v ≤ 999 := by
  have : 10 ^ (q - j) ≤ 10 ^ 3 := Nat.pow_le_pow_right (by omega) hq
  omega

theorem exp_step (v q j c : Nat) (h : v < 10 ^ (q - j)) (hq : j ≤ q) (hc : c ≤ 57) : v * 10 + (c - 48) < 10 ^ (q + 1 - j) := by
  have : q + 1 - j = (q - j) + 1 := by omega
  rw [this, Nat.pow_succ]; omega

theorem RF.run_stop {st : RF} {c : UInt8} {r : List UInt8} (h : st.step c.toNat = none) : RF.run st (c :: r) = (st, c :: r) := by
  simp [RF.run, h]
theorem RF.run_go {st st' : RF} {c : UInt8} {r : List UInt8} (h : st.step c.toNat = some st') : RF.run st (c :: r) = RF.run st' r := by
  simp [RF.run, h]

theorem RF.dot_go {st : RF} {c : UInt8} {r : List UInt8} {R : RF × List UInt8} (h : RF.run st (c :: r) = R) (hc : (c.toNat : Int) = 46) (hsd : st.sd = false) : RF.run { st with sd := true, dp := st.nd } r = R := by
  have : c.toNat = 46 := by omega
  rw [RF.run_go (st' := { st with sd := true, dp := st.nd }) (by rw [this]; simp [RF.step, hsd])] at h
  exact h

theorem RF.dot_no {st : RF} {c : UInt8} {r : List UInt8} {R : RF × List UInt8} (h : RF.run st (c :: r) = R) (hc : (c.toNat : Int) = 46) (hsd : st.sd = true) (hR : R.2 = [] ∨ ∃ r, R.2 = 101 :: r) : False := by
  have hc2 : c.toNat = 46 := by omega
  rw [RF.run_stop (by rw [hc2]; simp [RF.step, hsd])] at h
  rcases hR with h2 | ⟨r, h2⟩
  · rw [← h] at h2; simp at h2
  · rw [← h] at h2
    simp at h2
    rw [h2.1] at hc2; revert hc2; decide

theorem RF.digit_go {st : RF} {c : UInt8} {r : List UInt8} {R : RF × List UInt8} (h : RF.run st (c :: r) = R) (h1 : 48 ≤ (c.toNat : Int)) (h2 : (c.toNat : Int) ≤ 57) : RF.run (st.digit c.toNat) r = R := by
  rw [RF.run_go (st' := st.digit c.toNat) (by unfold RF.step; rw [if_neg (by omega), if_pos (by omega)])] at h
  exact h

theorem RF.stop {st : RF} {c : UInt8} {r : List UInt8} {R : RF × List UInt8} (h : RF.run st (c :: r) = R) (h0 : ¬ (c.toNat : Int) = 46) (h1 : ¬ (48 ≤ (c.toNat : Int) ∧ (c.toNat : Int) ≤ 57)) : R = (st, c :: r) := by
  rw [RF.run_stop (by unfold RF.step; rw [if_neg (by omega), if_neg (by omega)])] at h
  exact h.symm

/-- a power's digits -/
def expVal : Nat → List UInt8 → Nat
  | e, [] => e
  | e, c :: r => expVal (e * 10 + (c.toNat - 48)) r

/-- the power of ten of the last digit that was kept, where what stands behind the e says x -/
def RF.exp (st : RF) (x : Int) : Int := if st.m = 0 then 0 else (if st.sd then st.dp else st.nd) + x - st.nm

/-- what stands behind the e: perhaps a sign, one to four digits -/
structure ExpOk (r : List UInt8) (es : Int) (ds : List UInt8) : Prop where
  form : (r = 43 :: ds ∧ es = 1) ∨ (r = 45 :: ds ∧ es = -1) ∨ (r = ds ∧ es = 1)
  some : ds ≠ []
  len : ds.length ≤ 4
  dig : ∀ c, c ∈ ds → 48 ≤ c.toNat ∧ c.toNat ≤ 57

theorem expVal_lt : ∀ (l : List UInt8) (v : Nat), (∀ c, c ∈ l → c.toNat ≤ 57) → expVal v l < (v + 1) * 10 ^ l.length := by
  intro l
  induction l with
  | nil =>
    intro v _
    show v < (v + 1) * 1
    omega
  | cons c r ih =>
    intro v h
    have h1 := ih (v * 10 + (c.toNat - 48)) (fun c hc => h c (List.mem_cons_of_mem _ hc))
    have h2 := h c List.mem_cons_self
    show expVal (v * 10 + (c.toNat - 48)) r < (v + 1) * 10 ^ (r.length + 1)
    have h3 : (v * 10 + (c.toNat - 48) + 1) * 10 ^ r.length ≤ ((v + 1) * 10) * 10 ^ r.length := Nat.mul_le_mul_right _ (by omega)
    have h4 : (v + 1) * 10 ^ (r.length + 1) = ((v + 1) * 10) * 10 ^ r.length := by rw [Nat.pow_succ, Nat.mul_assoc, Nat.mul_comm (10 ^ r.length) 10]
    rw [h4]; exact Nat.lt_of_lt_of_le h1 h3

theorem ExpOk.bound {r : List UInt8} {es x : Int} {ds : List UInt8} (h : ExpOk r es ds) (hx : x = es * (expVal 0 ds : Int)) : -9999 ≤ x ∧ x ≤ 9999 := by
  have h1 := expVal_lt ds 0 (fun c hc => (h.dig c hc).2)
  have h2 : 10 ^ ds.length ≤ 10 ^ 4 := Nat.pow_le_pow_right (by omega) h.len
  rw [Nat.zero_add, Nat.one_mul] at h1
  have h3 : expVal 0 ds ≤ 9999 := by
    generalize 10 ^ ds.length = P at *
    omega
  have h4 : es = 1 ∨ es = -1 := by
    rcases h.form with ⟨_, h⟩ | ⟨_, h⟩ | ⟨_, h⟩
    · exact Or.inl h
    · exact Or.inr h
    · exact Or.inl h
  rcases h4 with rfl | rfl <;> omega

theorem drop_byte (s : ByteArray) (k : Nat) (h : k < s.size) : s.data.toList.drop k = s[k] :: s.data.toList.drop (k + 1) := by
  rw [List.drop_eq_getElem_cons (by simpa using h)]; rfl

theorem drop_ne {s : ByteArray} {k : Nat} {c : UInt8} {r : List UInt8} (h : s.data.toList.drop k = c :: r) : ∃ h : k < s.size, s[k] = c ∧ s.data.toList.drop (k + 1) = r := by
  by_cases hk : k < s.size
  · rw [drop_byte s k hk] at h
    simp only [List.cons.injEq] at h
    exact ⟨hk, h.1, h.2⟩
  · rw [List.drop_of_length_le (by simp; omega)] at h; simp at h

theorem exp_forms (s : ByteArray) (k : Nat) (es : Int) (ds : List UInt8) (h : ExpOk (s.data.toList.drop (k + 1)) es ds) :
    ∃ j, j < s.size ∧ s.size ≤ j + 4 ∧ (∀ (q : Nat) (h : q < s.size), j ≤ q → 48 ≤ (s[q].toNat : Int) ∧ (s[q].toNat : Int) ≤ 57) ∧ s.data.toList.drop j = ds ∧
      ((j = k + 1 + 1 ∧ (∃ h : k + 1 < s.size, (s[k + 1].toNat : Int) = 43) ∧ es = 1) ∨ (j = k + 1 + 1 ∧ (∃ h : k + 1 < s.size, (s[k + 1].toNat : Int) = 45) ∧ es = -1) ∨ (j = k + 1 ∧ es = 1)) := by
  have main : ∀ j, s.data.toList.drop j = ds → j < s.size ∧ s.size ≤ j + 4 ∧ (∀ (q : Nat) (h : q < s.size), j ≤ q → 48 ≤ (s[q].toNat : Int) ∧ (s[q].toNat : Int) ≤ 57) ∧ s.data.toList.drop j = ds := by
    intro j hj
    have h1 := h.some
    have h2 := h.len
    rw [← hj] at h1 h2
    have hl : (s.data.toList.drop j).length = s.size - j := by simp
    have hj1 : j < s.size := by
      by_cases hk : j < s.size
      · exact hk
      · rw [List.drop_of_length_le (by simp; omega)] at h1; exact absurd rfl h1
    refine ⟨hj1, by omega, ?_, hj⟩
    intro q hq hjq
    have hm : s[q] ∈ ds := by
      rw [← hj]
      have : s[q] = (s.data.toList.drop j)[q - j]'(by omega) := by
        rw [List.getElem_drop]
        have e : j + (q - j) = q := by omega
        simp only [e]; rfl
      rw [this]; exact List.getElem_mem _
    have := h.dig _ hm
    omega
  rcases h.form with ⟨hf, he⟩ | ⟨hf, he⟩ | ⟨hf, he⟩
  · obtain ⟨h1, h2, h3⟩ := drop_ne hf
    obtain ⟨a, b, c, d⟩ := main _ h3
    exact ⟨_, a, b, c, d, Or.inl ⟨rfl, ⟨h1, by rw [h2]; rfl⟩, he⟩⟩
  · obtain ⟨h1, h2, h3⟩ := drop_ne hf
    obtain ⟨a, b, c, d⟩ := main _ h3
    exact ⟨_, a, b, c, d, Or.inr (Or.inl ⟨rfl, ⟨h1, by rw [h2]; rfl⟩, he⟩)⟩
  · obtain ⟨a, b, c, d⟩ := main _ hf
    exact ⟨_, a, b, c, d, Or.inr (Or.inr ⟨rfl, he⟩)⟩

end Go.Proofs.YtgekdmjneogdoaaGreatDoor

namespace Go.Proofs.YtgekdmjneogdoaaGreatDoor

/-- the number that bits are -/
def bval (l : List Nat) : Nat := l.foldl (fun a b => 2 * a + b) 0

/-- the whole bytes of bits -/
def octs (l : List Nat) : List Nat := (List.range (l.length / 8)).map fun i => bval (l.take (8 * i + 8)) % 256

abbrev I64 (x : Int) : Prop := -9223372036854775808 ≤ x ∧ x ≤ 9223372036854775807

/-- how many bits the change of a step takes -/
def cw : Nat → Nat
  | 0 => 0
  | 1 => 7
  | 2 => 9
  | 3 => 12
  | _ => 64

/-- what writer and reader know of the samples ahead: time, value, step, window -/
structure Tr where
  T : Int
  V : Nat
  step : Int
  L : Nat
  M : Nat

/-! what is written is read -/

structure Tr.Ok (t : Tr) : Prop where
  T : I64 t.T
  V : t.V < 18446744073709551616
  step : I64 t.step
  LM : t.L + t.M ≤ 64
  L31 : t.L ≤ 31
  M0 : t.M = 0 → t.L = 0

/-! bits are below 2 -/
/-! what is read of some bits is read of more -/
/-! lengths -/
/-! samples that come evenly, with one value -/
end Go.Proofs.YtgekdmjneogdoaaGreatDoor
