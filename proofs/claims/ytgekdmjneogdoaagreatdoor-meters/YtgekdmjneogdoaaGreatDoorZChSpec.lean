import Derived.Test.YtgekdmjneogdoaaGreatDoorZLaws
namespace Go.Proofs.YtgekdmjneogdoaaGreatDoor

/-- a number's lowest bits, so many, the highest first -/
def bitsN : Nat → Nat → List Nat
  | _, 0 => []
  | x, n + 1 => (x / 2 ^ n % 2) :: bitsN x n

theorem bitsN_length (x : Nat) : ∀ n, (bitsN x n).length = n
  | 0 => rfl
  | n + 1 => by simp [bitsN, bitsN_length x n]

theorem bitsN_lt (x : Nat) : ∀ n, ∀ b ∈ bitsN x n, b < 2
  | 0 => by simp [bitsN]
  | n + 1 => by
    intro b hb
    rcases List.mem_cons.1 hb with rfl | hb
    · omega
    · exact bitsN_lt x n b hb

/-- the number that bits are -/
def bval (l : List Nat) : Nat := l.foldl (fun a b => 2 * a + b) 0

theorem bval_snoc (l : List Nat) (b : Nat) : bval (l ++ [b]) = 2 * bval l + b := by simp [bval]
theorem bval_foldl (m : List Nat) : ∀ a, m.foldl (fun a b => 2 * a + b) a = a * 2 ^ m.length + bval m := by
  unfold bval
  induction m with
  | nil => intro a; simp
  | cons x m ih =>
    intro a
    simp only [List.foldl_cons, List.length_cons, Nat.pow_succ]
    rw [ih, ih (2 * 0 + x), Nat.add_mul, Nat.mul_comm 2 a, Nat.mul_assoc, Nat.mul_comm 2 (2 ^ m.length)]
    simp; omega
theorem bval_append (l m : List Nat) : bval (l ++ m) = bval l * 2 ^ m.length + bval m := by
  rw [bval, List.foldl_append]
  exact bval_foldl m _
theorem bval_cons (x : Nat) (m : List Nat) : bval (x :: m) = x * 2 ^ m.length + bval m := by
  have := bval_append [x] m
  simpa [bval] using this
theorem bval_lt (l : List Nat) (h : ∀ b ∈ l, b < 2) : bval l < 2 ^ l.length := by
  induction l with
  | nil => simp [bval]
  | cons x l ih =>
    have h1 := ih (fun b hb => h b (by simp [hb]))
    have h2 : x < 2 := h x (by simp)
    rw [bval_cons, List.length_cons, Nat.pow_succ]
    have : x * 2 ^ l.length ≤ 1 * 2 ^ l.length := Nat.mul_le_mul_right _ (by omega)
    omega
/-- the whole bytes of bits -/
def octs (l : List Nat) : List Nat := (List.range (l.length / 8)).map fun i => bval (l.take (8 * i + 8)) % 256

theorem octs_length (l : List Nat) : (octs l).length = l.length / 8 := by simp [octs]
theorem octs_snoc (l : List Nat) (b : Nat) (h : (l.length + 1) % 8 ≠ 0) : octs (l ++ [b]) = octs l := by
  have h1 : (l ++ [b]).length / 8 = l.length / 8 := by simp; omega
  rw [octs, octs, h1]
  apply List.map_congr_left
  intro i hi
  have := List.mem_range.1 hi
  rw [List.take_append_of_le_length (by omega)]
theorem octs_full (l : List Nat) (b : Nat) (h : (l.length + 1) % 8 = 0) : octs (l ++ [b]) = octs l ++ [bval (l ++ [b]) % 256] := by
  have h1 : (l ++ [b]).length / 8 = l.length / 8 + 1 := by simp; omega
  rw [octs, octs, h1, List.range_succ, List.map_append]
  congr 1
  · apply List.map_congr_left
    intro i hi
    have := List.mem_range.1 hi
    rw [List.take_append_of_le_length (by omega)]
  · rw [List.map_singleton, List.take_of_length_le (by simp; omega)]

/-- the bits of bytes -/
def cbits (c : List Nat) : List Nat := c.flatMap fun b => bitsN b 8

theorem cbits_cons (b : Nat) (c : List Nat) : cbits (b :: c) = bitsN b 8 ++ cbits c := by simp [cbits]
theorem cbits_length (c : List Nat) : (cbits c).length = 8 * c.length := by
  induction c with
  | nil => rfl
  | cons b c ih => rw [cbits_cons, List.length_append, bitsN_length, ih, List.length_cons]; omega
theorem cbits_lt (c : List Nat) : ∀ b ∈ cbits c, b < 2 := by
  intro b hb
  simp only [cbits, List.mem_flatMap] at hb
  obtain ⟨x, _, h⟩ := hb
  exact bitsN_lt x 8 b h

theorem bitsN_get (x : Nat) : ∀ n i, i < n → (bitsN x n)[i]? = some (x / 2 ^ (n - 1 - i) % 2)
  | 0, i, h => by omega
  | n + 1, 0, _ => by simp [bitsN]
  | n + 1, i + 1, h => by
    rw [bitsN, List.getElem?_cons_succ, bitsN_get x n i (by omega)]
    congr 4
    omega

theorem cbits_get (c : List Nat) : ∀ i, i < 8 * c.length → (cbits c)[i]? = some (c.getD (i / 8) 0 / 2 ^ (7 - i % 8) % 2) := by
  induction c with
  | nil => intro i h; simp at h
  | cons b c ih =>
    intro i h
    rw [cbits_cons]
    by_cases h8 : i < 8
    · rw [List.getElem?_append_left (by rw [bitsN_length]; exact h8), bitsN_get b 8 i h8]
      have h0 : i / 8 = 0 := by omega
      have h1 : i % 8 = i := by omega
      rw [h0, h1]; rfl
    · rw [List.getElem?_append_right (by rw [bitsN_length]; omega), bitsN_length, ih (i - 8) (by simp at h; omega)]
      have h0 : i / 8 = (i - 8) / 8 + 1 := by omega
      have h1 : i % 8 = (i - 8) % 8 := by omega
      rw [h0, h1]; rfl

abbrev I64 (x : Int) : Prop := -9223372036854775808 ≤ x ∧ x ≤ 9223372036854775807

/-- how many bits the change of a step takes -/
def cw : Nat → Nat
  | 0 => 0
  | 1 => 7
  | 2 => 9
  | 3 => 12
  | _ => 64

/-- bits 0 ahead, and at the end, of a number of 64 bits -/
def lzN (x : Nat) : Nat := if x = 0 then 64 else 63 - x.log2
def tzN (x : Nat) : Nat := if x = 0 then 64 else (List.range 64).findIdx fun i => x / 2 ^ i % 2 == 1

theorem lzN_le {x L : Nat} (hL : L ≤ 64) (h : x < 18446744073709551616) : L ≤ lzN x ↔ x < 2 ^ (64 - L) := by
  unfold lzN
  by_cases h0 : x = 0
  · subst h0; simp [hL, Nat.two_pow_pos]
  · rw [if_neg h0]
    have h1 : x.log2 < 64 := (Nat.log2_lt h0).2 h
    by_cases h3 : L = 64
    · subst h3; simp; omega
    · have h2 := Nat.log2_lt (n := x) (k := 64 - L) h0
      omega

theorem dvd_of_low (x : Nat) : ∀ b, (∀ i, i < b → x / 2 ^ i % 2 = 0) → 2 ^ b ∣ x
  | 0, _ => by simp
  | b + 1, h => by
    obtain ⟨y, hy⟩ := dvd_of_low x b (fun i hi => h i (by omega))
    have h1 := h b (by omega)
    rw [hy, Nat.mul_div_cancel_left _ (Nat.two_pow_pos b)] at h1
    refine ⟨y / 2, ?_⟩
    rw [hy, Nat.pow_succ, Nat.mul_assoc]
    congr 1; omega

theorem tzN_spec {x : Nat} (h0 : x ≠ 0) (h : x < 18446744073709551616) : tzN x < 64 ∧ 2 ^ tzN x ∣ x ∧ x / 2 ^ tzN x % 2 = 1 := by
  unfold tzN
  rw [if_neg h0]
  generalize hf : (fun i => x / 2 ^ i % 2 == 1) = f
  have h1 : (List.range 64).findIdx f < (List.range 64).length := by
    rw [List.findIdx_lt_length]
    apply Classical.byContradiction
    intro hn
    have h2 : 2 ^ 64 ∣ x := dvd_of_low x 64 (fun i hi => by
      have h3 : ¬ f i = true := fun hc => hn ⟨i, List.mem_range.2 hi, hc⟩
      rw [← hf] at h3
      simp at h3
      omega)
    obtain ⟨y, rfl⟩ := h2
    have : 0 < y := by
      rcases Nat.eq_zero_or_pos y with rfl | h
      · simp at h0
      · exact h
    have := Nat.mul_le_mul_left (2 ^ 64) this
    omega
  have h2 := List.findIdx_getElem (p := f) (w := h1)
  rw [List.getElem_range] at h2
  refine ⟨by simpa using h1, ?_, ?_⟩
  · apply dvd_of_low
    intro i hi
    have h3 := List.not_of_lt_findIdx (p := f) hi
    rw [List.getElem_range, ← hf] at h3
    simp at h3
    omega
  · rw [← hf] at h2 ⊢
    simpa using h2

abbrev Smp := Int × Nat

/-- what writer and reader know of the samples ahead: time, value, step, window -/
structure Tr where
  T : Int
  V : Nat
  step : Int
  L : Nat
  M : Nat

/-- the value's part: its bits, the window behind it -/
def valN (L M x : Nat) : List Nat × Nat × Nat :=
  if x = 0 then ([0], L, M)
  else if L ≤ lzN x ∧ 64 - L - M ≤ tzN x then ([1, 0] ++ bitsN (x / 2 ^ (64 - L - M)) M, L, M)
  else
    let L' := min (lzN x) 31
    let M' := 64 - L' - tzN x
    ([1, 1] ++ bitsN L' 5 ++ bitsN (M' - 1) 6 ++ bitsN (x / 2 ^ (64 - L' - M')) M', L', M')

/-- the next bits as a number, and the bits behind them -/
def rdL (n : Nat) (B : List Nat) : Option (Nat × List Nat) := if n ≤ B.length then some (bval (B.take n), B.drop n) else none

def rdWin (L M : Nat) (B : List Nat) : Option ((Nat × Nat) × List Nat) :=
  (rdL 1 B).bind fun r => if r.1 = 1 then (rdL 5 r.2).bind fun l => (rdL 6 l.2).bind fun m => some ((l.1, m.1 + 1), m.2) else some ((L, M), r.2)

def rdVal (t : Tr) (B : List Nat) : Option (Tr × List Nat) :=
  (rdL 1 B).bind fun r => if r.1 = 0 then some (t, r.2) else
    (rdWin t.L t.M r.2).bind fun q => if 64 < q.1.1 + q.1.2 then none else
      (rdL q.1.2 q.2).bind fun x => some ({ t with V := t.V ^^^ (x.1 * 2 ^ (64 - q.1.1 - q.1.2) % 18446744073709551616), L := q.1.1, M := q.1.2 }, x.2)

/-! what is written is read -/

structure Tr.Ok (t : Tr) : Prop where
  T : I64 t.T
  V : t.V < 18446744073709551616
  step : I64 t.step
  LM : t.L + t.M ≤ 64
  L31 : t.L ≤ 31
  M0 : t.M = 0 → t.L = 0

theorem valN_ok {L M x : Nat} (hLM : L + M ≤ 64) (hL : L ≤ 31) (hM : M = 0 → L = 0) (hx : x < 18446744073709551616) :
    (valN L M x).2.1 + (valN L M x).2.2 ≤ 64 ∧ (valN L M x).2.1 ≤ 31 ∧ ((valN L M x).2.2 = 0 → (valN L M x).2.1 = 0) := by
  unfold valN
  by_cases h0 : x = 0
  · simp [h0]; exact ⟨hLM, hL, hM⟩
  · rw [if_neg h0]
    split
    · exact ⟨hLM, hL, hM⟩
    · obtain ⟨h1, h2, h3⟩ := tzN_spec h0 hx
      have h4 : lzN x ≤ 63 := by unfold lzN; rw [if_neg h0]; omega
      have h5 := (lzN_le (x := x) (L := lzN x) (by omega) hx).1 (Nat.le_refl _)
      have h6 : tzN x < 64 - lzN x := by
        obtain ⟨y, hy⟩ := h2
        have hy0 : 0 < y := by
          rcases Nat.eq_zero_or_pos y with rfl | h
          · simp at hy; exact absurd hy h0
          · exact h
        have : 2 ^ tzN x ≤ x := by
          have := Nat.mul_le_mul_left (2 ^ tzN x) hy0
          omega
        exact (Nat.pow_lt_pow_iff_right (by omega)).1 (Nat.lt_of_le_of_lt this h5)
      simp only
      omega

/-! bits are below 2 -/
/-! what is read of some bits is read of more -/
/-! lengths -/
/-! samples that come evenly, with one value -/
end Go.Proofs.YtgekdmjneogdoaaGreatDoor
