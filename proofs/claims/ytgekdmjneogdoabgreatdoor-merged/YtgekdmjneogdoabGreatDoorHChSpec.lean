import Derived.Test.YtgekdmjneogdoabGreatDoorHLaws
namespace Go.Proofs.YtgekdmjneogdoabGreatDoor

/-- a number's lowest bits, so many, the highest first -/
def bitsN : Nat → Nat → List Nat
  | _, 0 => []
  | x, n + 1 => (x / 2 ^ n % 2) :: bitsN x n

theorem bitsN_length (x : Nat) : ∀ n, (bitsN x n).length = n
  | 0 => rfl
  | n + 1 => by simp [bitsN, bitsN_length x n]

theorem bitsN_lt (x : Nat) : ∀ n, ∀ b ∈ bitsN x n, b < 2
  | 0 => by simp [bitsN]
  | n + 1 => by
    intro b hb
    rcases List.mem_cons.1 hb with rfl | hb
    · omega
    · exact bitsN_lt x n b hb

/-- the number that bits are -/
def bval (l : List Nat) : Nat := l.foldl (fun a b => 2 * a + b) 0

theorem bval_nil : bval [] = 0 := rfl
theorem bval_snoc (l : List Nat) (b : Nat) : bval (l ++ [b]) = 2 * bval l + b := by simp [bval]
theorem bval_foldl (m : List Nat) : ∀ a, m.foldl (fun a b => 2 * a + b) a = a * 2 ^ m.length + bval m := by
  unfold bval
  induction m with
  | nil => intro a; simp
  | cons x m ih =>
    intro a
    simp only [List.foldl_cons, List.length_cons, Nat.pow_succ]
    rw [ih, ih (2 * 0 + x), Nat.add_mul, Nat.mul_comm 2 a, Nat.mul_assoc, Nat.mul_comm 2 (2 ^ m.length)]
    simp; omega
theorem bval_append (l m : List Nat) : bval (l ++ m) = bval l * 2 ^ m.length + bval m := by
  rw [bval, List.foldl_append]
  exact bval_foldl m _
theorem bval_cons (x : Nat) (m : List Nat) : bval (x :: m) = x * 2 ^ m.length + bval m := by
  have := bval_append [x] m
  simpa [bval] using this
theorem bval_lt (l : List Nat) (h : ∀ b ∈ l, b < 2) : bval l < 2 ^ l.length := by
  induction l with
  | nil => simp [bval]
  | cons x l ih =>
    have h1 := ih (fun b hb => h b (by simp [hb]))
    have h2 : x < 2 := h x (by simp)
    rw [bval_cons, List.length_cons, Nat.pow_succ]
    have : x * 2 ^ l.length ≤ 1 * 2 ^ l.length := Nat.mul_le_mul_right _ (by omega)
    omega
theorem bval_bitsN (x : Nat) : ∀ n, bval (bitsN x n) = x % 2 ^ n
  | 0 => by simp [bitsN, bval]; omega
  | n + 1 => by
    rw [bitsN, bval_cons, bitsN_length, bval_bitsN x n, Nat.pow_succ, Nat.mod_mul, Nat.add_comm, Nat.mul_comm]
theorem bitsN_bval (l : List Nat) (h : ∀ b ∈ l, b < 2) : bitsN (bval l) l.length = l := by
  induction l with
  | nil => rfl
  | cons x l ih =>
    have hl := fun b hb => h b (List.mem_cons_of_mem _ hb)
    have h1 := bval_lt l hl
    have h2 : x < 2 := h x (by simp)
    have h3 : (bval (x :: l)) / 2 ^ l.length % 2 = x := by
      rw [bval_cons, Nat.add_comm, Nat.add_mul_div_right _ _ (Nat.two_pow_pos _), Nat.div_eq_of_lt h1]; omega
    rw [List.length_cons, bitsN, h3]
    congr 1
    have h4 : ∀ n a c, n ≤ l.length → c = a * 2 ^ l.length + bval l → bitsN c n = bitsN (bval l) n := by
      intro n
      induction n with
      | zero => intros; rfl
      | succ n ihn =>
        intro a c hn hc
        rw [bitsN, bitsN, ihn a c (by omega) hc]
        congr 1
        rw [hc, show l.length = n + 1 + (l.length - (n + 1)) by omega, Nat.pow_add, Nat.mul_comm (2 ^ (n + 1)), ← Nat.mul_assoc, Nat.pow_succ, ← Nat.mul_assoc, Nat.mul_right_comm, Nat.add_comm, Nat.add_mul_div_right _ _ (Nat.two_pow_pos _), Nat.add_mul_mod_self_right]
    rw [h4 l.length x _ (Nat.le_refl _) (bval_cons x l)]
    exact ih hl

/-- the whole bytes of bits -/
def octs (l : List Nat) : List Nat := (List.range (l.length / 8)).map fun i => bval (l.take (8 * i + 8)) % 256

theorem octs_length (l : List Nat) : (octs l).length = l.length / 8 := by simp [octs]
theorem octs_lt (l : List Nat) : ∀ b ∈ octs l, b < 256 := by
  intro b hb
  simp only [octs, List.mem_map] at hb
  obtain ⟨i, _, rfl⟩ := hb
  omega
theorem octs_snoc (l : List Nat) (b : Nat) (h : (l.length + 1) % 8 ≠ 0) : octs (l ++ [b]) = octs l := by
  have h1 : (l ++ [b]).length / 8 = l.length / 8 := by simp; omega
  rw [octs, octs, h1]
  apply List.map_congr_left
  intro i hi
  have := List.mem_range.1 hi
  rw [List.take_append_of_le_length (by omega)]
theorem octs_full (l : List Nat) (b : Nat) (h : (l.length + 1) % 8 = 0) : octs (l ++ [b]) = octs l ++ [bval (l ++ [b]) % 256] := by
  have h1 : (l ++ [b]).length / 8 = l.length / 8 + 1 := by simp; omega
  rw [octs, octs, h1, List.range_succ, List.map_append]
  congr 1
  · apply List.map_congr_left
    intro i hi
    have := List.mem_range.1 hi
    rw [List.take_append_of_le_length (by omega)]
  · rw [List.map_singleton, List.take_of_length_le (by simp; omega)]

/-- the bits of bytes -/
def cbits (c : List Nat) : List Nat := c.flatMap fun b => bitsN b 8

theorem cbits_nil : cbits [] = [] := rfl
theorem cbits_cons (b : Nat) (c : List Nat) : cbits (b :: c) = bitsN b 8 ++ cbits c := by simp [cbits]
theorem cbits_append (c d : List Nat) : cbits (c ++ d) = cbits c ++ cbits d := by simp [cbits]
theorem cbits_length (c : List Nat) : (cbits c).length = 8 * c.length := by
  induction c with
  | nil => rfl
  | cons b c ih => rw [cbits_cons, List.length_append, bitsN_length, ih, List.length_cons]; omega
theorem cbits_lt (c : List Nat) : ∀ b ∈ cbits c, b < 2 := by
  intro b hb
  simp only [cbits, List.mem_flatMap] at hb
  obtain ⟨x, _, h⟩ := hb
  exact bitsN_lt x 8 b h

theorem bitsN_get (x : Nat) : ∀ n i, i < n → (bitsN x n)[i]? = some (x / 2 ^ (n - 1 - i) % 2)
  | 0, i, h => by omega
  | n + 1, 0, _ => by simp [bitsN]
  | n + 1, i + 1, h => by
    rw [bitsN, List.getElem?_cons_succ, bitsN_get x n i (by omega)]
    congr 4
    omega

theorem cbits_get (c : List Nat) : ∀ i, i < 8 * c.length → (cbits c)[i]? = some (c.getD (i / 8) 0 / 2 ^ (7 - i % 8) % 2) := by
  induction c with
  | nil => intro i h; simp at h
  | cons b c ih =>
    intro i h
    rw [cbits_cons]
    by_cases h8 : i < 8
    · rw [List.getElem?_append_left (by rw [bitsN_length]; exact h8), bitsN_get b 8 i h8]
      have h0 : i / 8 = 0 := by omega
      have h1 : i % 8 = i := by omega
      rw [h0, h1]; rfl
    · rw [List.getElem?_append_right (by rw [bitsN_length]; omega), bitsN_length, ih (i - 8) (by simp at h; omega)]
      have h0 : i / 8 = (i - 8) / 8 + 1 := by omega
      have h1 : i % 8 = (i - 8) % 8 := by omega
      rw [h0, h1]; rfl

theorem octs_eight (l e : List Nat) (hl : l.length % 8 = 0) (he : e.length = 8) (h : ∀ b ∈ e, b < 2) : octs (l ++ e) = octs l ++ [bval e] := by
  have h1 : (l ++ e).length / 8 = l.length / 8 + 1 := by simp; omega
  rw [octs, octs, h1, List.range_succ, List.map_append]
  congr 1
  · apply List.map_congr_left
    intro i hi
    have := List.mem_range.1 hi
    rw [List.take_append_of_le_length (by omega)]
  · have h2 := bval_lt e h
    rw [he] at h2
    rw [List.map_singleton, List.take_of_length_le (by simp; omega), bval_append, he]
    congr 1; omega

theorem cbits_octs : ∀ n (l : List Nat), l.length = 8 * n → (∀ b ∈ l, b < 2) → cbits (octs l) = l
  | 0, l, h, _ => by
    have : l = [] := List.eq_nil_of_length_eq_zero (by omega)
    subst this; rfl
  | n + 1, l, h, hb => by
    have hs : l = l.take (8 * n) ++ l.drop (8 * n) := (List.take_append_drop _ _).symm
    have h1 : (l.take (8 * n)).length = 8 * n := by rw [List.length_take]; omega
    have h2 : (l.drop (8 * n)).length = 8 := by rw [List.length_drop]; omega
    have h3 : ∀ b ∈ l.drop (8 * n), b < 2 := fun b hb' => hb b (List.mem_of_mem_drop hb')
    have h4 := cbits_octs n (l.take (8 * n)) h1 (fun b hb' => hb b (List.mem_of_mem_take hb'))
    have h5 := bitsN_bval _ h3
    rw [h2] at h5
    rw [hs, octs_eight _ _ (by omega) h2 h3, cbits_append, h4, cbits_cons, h5]
    simp [cbits]

/-- bits filled up to whole bytes -/
def padN (l : List Nat) : List Nat := l ++ List.replicate ((8 - l.length % 8) % 8) 0

theorem padN_length (l : List Nat) : (padN l).length = 8 * ((l.length + 7) / 8) := by
  simp [padN]; omega
theorem padN_full (l : List Nat) (h : l.length % 8 = 0) : padN l = l := by simp [padN, h]
theorem padN_snoc (l : List Nat) (h : l.length % 8 ≠ 0) : padN (l ++ [0]) = padN l := by
  have h1 : (8 - l.length % 8) % 8 = (8 - (l.length + 1) % 8) % 8 + 1 := by omega
  rw [padN, padN, h1, List.replicate_succ]
  simp

/-- a number as Go's int holds it -/
def wI (x : Int) : Int := (x + 9223372036854775808) % 18446744073709551616 - 9223372036854775808
/-- uint64 of an int -/
def uN (x : Int) : Nat := (x % 18446744073709551616).toNat

abbrev I64 (x : Int) : Prop := -9223372036854775808 ≤ x ∧ x ≤ 9223372036854775807

theorem wI_in (x : Int) : I64 (wI x) := by unfold I64 wI; omega
theorem wI_id {x : Int} (h : I64 x) : wI x = x := by unfold I64 at h; unfold wI; omega
theorem uN_lt (x : Int) : uN x < 18446744073709551616 := by unfold uN; omega

/-- what a number's lowest bits are, if the highest of them is a sign -/
def sgnN (x w : Nat) : Int := wI ((x : Int) * 2 ^ (64 - w)) / 2 ^ (64 - w)

theorem sgnN_0 (x : Nat) : sgnN x 0 = 0 := by unfold sgnN wI; simp
theorem sgnN_7 (x : Nat) : sgnN x 7 = ((x : Int) + 64) % 128 - 64 := by unfold sgnN wI; simp; omega
theorem sgnN_9 (x : Nat) : sgnN x 9 = ((x : Int) + 256) % 512 - 256 := by unfold sgnN wI; simp; omega
theorem sgnN_12 (x : Nat) : sgnN x 12 = ((x : Int) + 2048) % 4096 - 2048 := by unfold sgnN wI; simp; omega
theorem sgnN_64 (x : Nat) : sgnN x 64 = wI x := by unfold sgnN; simp

/-- how many bits the change of a step takes -/
def cw : Nat → Nat
  | 0 => 0
  | 1 => 7
  | 2 => 9
  | 3 => 12
  | _ => 64

def kindN (c : Int) : Nat := if c = 0 then 0 else if -64 ≤ c ∧ c ≤ 63 then 1 else if -256 ≤ c ∧ c ≤ 255 then 2 else if -2048 ≤ c ∧ c ≤ 2047 then 3 else 4

theorem kindN_le (c : Int) : kindN c ≤ 4 := by unfold kindN; split <;> (try omega); split <;> (try omega); split <;> (try omega); split <;> omega

def timeN (c : Int) : List Nat := List.replicate (kindN c) 1 ++ (if kindN c < 4 then [0] else []) ++ bitsN (uN c) (cw (kindN c))

theorem sgnN_kind {c : Int} (h : I64 c) : sgnN (uN c % 2 ^ cw (kindN c)) (cw (kindN c)) = c := by
  unfold I64 at h
  unfold kindN
  split
  · rw [show cw 0 = 0 from rfl, sgnN_0]; omega
  · split
    · rw [show cw 1 = 7 from rfl, sgnN_7]; unfold uN; omega
    · split
      · rw [show cw 2 = 9 from rfl, sgnN_9]; unfold uN; omega
      · split
        · rw [show cw 3 = 12 from rfl, sgnN_12]; unfold uN; omega
        · rw [show cw 4 = 64 from rfl, sgnN_64]; unfold uN wI; omega

/-- bits 0 ahead, and at the end, of a number of 64 bits -/
def lzN (x : Nat) : Nat := if x = 0 then 64 else 63 - x.log2
def tzN (x : Nat) : Nat := if x = 0 then 64 else (List.range 64).findIdx fun i => x / 2 ^ i % 2 == 1

theorem lzN_le {x L : Nat} (hL : L ≤ 64) (h : x < 18446744073709551616) : L ≤ lzN x ↔ x < 2 ^ (64 - L) := by
  unfold lzN
  by_cases h0 : x = 0
  · subst h0; simp [hL, Nat.two_pow_pos]
  · rw [if_neg h0]
    have h1 : x.log2 < 64 := (Nat.log2_lt h0).2 h
    by_cases h3 : L = 64
    · subst h3; simp; omega
    · have h2 := Nat.log2_lt (n := x) (k := 64 - L) h0
      omega

theorem dvd_of_low (x : Nat) : ∀ b, (∀ i, i < b → x / 2 ^ i % 2 = 0) → 2 ^ b ∣ x
  | 0, _ => by simp
  | b + 1, h => by
    obtain ⟨y, hy⟩ := dvd_of_low x b (fun i hi => h i (by omega))
    have h1 := h b (by omega)
    rw [hy, Nat.mul_div_cancel_left _ (Nat.two_pow_pos b)] at h1
    refine ⟨y / 2, ?_⟩
    rw [hy, Nat.pow_succ, Nat.mul_assoc]
    congr 1; omega

theorem low_of_dvd {x b : Nat} (h : 2 ^ b ∣ x) : ∀ i, i < b → x / 2 ^ i % 2 = 0 := by
  intro i hi
  obtain ⟨y, rfl⟩ := h
  rw [show b = i + (b - i - 1 + 1) by omega, Nat.pow_add, Nat.mul_assoc, Nat.mul_div_cancel_left _ (Nat.two_pow_pos i), Nat.pow_succ, Nat.mul_right_comm]
  simp

theorem tzN_spec {x : Nat} (h0 : x ≠ 0) (h : x < 18446744073709551616) : tzN x < 64 ∧ 2 ^ tzN x ∣ x ∧ x / 2 ^ tzN x % 2 = 1 := by
  unfold tzN
  rw [if_neg h0]
  generalize hf : (fun i => x / 2 ^ i % 2 == 1) = f
  have h1 : (List.range 64).findIdx f < (List.range 64).length := by
    rw [List.findIdx_lt_length]
    apply Classical.byContradiction
    intro hn
    have h2 : 2 ^ 64 ∣ x := dvd_of_low x 64 (fun i hi => by
      have h3 : ¬ f i = true := fun hc => hn ⟨i, List.mem_range.2 hi, hc⟩
      rw [← hf] at h3
      simp at h3
      omega)
    obtain ⟨y, rfl⟩ := h2
    have : 0 < y := by
      rcases Nat.eq_zero_or_pos y with rfl | h
      · simp at h0
      · exact h
    have := Nat.mul_le_mul_left (2 ^ 64) this
    omega
  have h2 := List.findIdx_getElem (p := f) (w := h1)
  rw [List.getElem_range] at h2
  refine ⟨by simpa using h1, ?_, ?_⟩
  · apply dvd_of_low
    intro i hi
    have h3 := List.not_of_lt_findIdx (p := f) hi
    rw [List.getElem_range, ← hf] at h3
    simp at h3
    omega
  · rw [← hf] at h2 ⊢
    simpa using h2

theorem tzN_le {x b : Nat} (h0 : x ≠ 0) (h : x < 18446744073709551616) : b ≤ tzN x ↔ 2 ^ b ∣ x := by
  obtain ⟨_, h2, h3⟩ := tzN_spec h0 h
  constructor
  · intro hb
    exact Nat.dvd_trans (Nat.pow_dvd_pow 2 hb) h2
  · intro hd
    apply Classical.byContradiction
    intro hn
    have := low_of_dvd hd (tzN x) (by omega)
    omega

abbrev Smp := Int × Nat

/-- what writer and reader know of the samples ahead: time, value, step, window -/
structure Tr where
  T : Int
  V : Nat
  step : Int
  L : Nat
  M : Nat

/-- the value's part: its bits, the window behind it -/
def valN (L M x : Nat) : List Nat × Nat × Nat :=
  if x = 0 then ([0], L, M)
  else if L ≤ lzN x ∧ 64 - L - M ≤ tzN x then ([1, 0] ++ bitsN (x / 2 ^ (64 - L - M)) M, L, M)
  else
    let L' := min (lzN x) 31
    let M' := 64 - L' - tzN x
    ([1, 1] ++ bitsN L' 5 ++ bitsN (M' - 1) 6 ++ bitsN (x / 2 ^ (64 - L' - M')) M', L', M')

def wrN (t : Tr) (s : Smp) : List Nat × Tr :=
  (timeN (wI (wI (s.1 - t.T) - t.step)) ++ (valN t.L t.M (s.2 ^^^ t.V)).1,
    { T := s.1, V := s.2, step := wI (s.1 - t.T), L := (valN t.L t.M (s.2 ^^^ t.V)).2.1, M := (valN t.L t.M (s.2 ^^^ t.V)).2.2 })

def restN : Tr → List Smp → List Nat
  | _, [] => []
  | t, s :: r => (wrN t s).1 ++ restN (wrN t s).2 r

def packN : List Smp → List Nat
  | [] => bitsN 0 16
  | s :: r => bitsN (r.length + 1) 16 ++ bitsN (uN s.1) 64 ++ bitsN s.2 64 ++ restN ⟨s.1, s.2, 0, 0, 0⟩ r

/-- a chunk's bytes -/
def chunkN (l : List Smp) : List Nat := octs (padN (packN l))

/-- the next bits as a number, and the bits behind them -/
def rdL (n : Nat) (B : List Nat) : Option (Nat × List Nat) := if n ≤ B.length then some (bval (B.take n), B.drop n) else none

def rdKind : Nat → Nat → List Nat → Option (Nat × List Nat)
  | 0, k, B => some (k, B)
  | f + 1, k, B => (rdL 1 B).bind fun r => if r.1 = 1 then rdKind f (k + 1) r.2 else some (k, r.2)

def rdTime (t : Tr) (B : List Nat) : Option (Tr × List Nat) :=
  (rdKind 4 0 B).bind fun k => (rdL (cw k.1) k.2).bind fun x =>
    some ({ t with T := wI (t.T + wI (t.step + sgnN x.1 (cw k.1))), step := wI (t.step + sgnN x.1 (cw k.1)) }, x.2)

def rdWin (L M : Nat) (B : List Nat) : Option ((Nat × Nat) × List Nat) :=
  (rdL 1 B).bind fun r => if r.1 = 1 then (rdL 5 r.2).bind fun l => (rdL 6 l.2).bind fun m => some ((l.1, m.1 + 1), m.2) else some ((L, M), r.2)

def rdVal (t : Tr) (B : List Nat) : Option (Tr × List Nat) :=
  (rdL 1 B).bind fun r => if r.1 = 0 then some (t, r.2) else
    (rdWin t.L t.M r.2).bind fun q => if 64 < q.1.1 + q.1.2 then none else
      (rdL q.1.2 q.2).bind fun x => some ({ t with V := t.V ^^^ (x.1 * 2 ^ (64 - q.1.1 - q.1.2) % 18446744073709551616), L := q.1.1, M := q.1.2 }, x.2)

def rdSmp (t : Tr) (B : List Nat) : Option (Tr × List Nat) := (rdTime t B).bind fun r => rdVal r.1 r.2

def rdRest : Nat → Tr → List Nat → Option (List Smp)
  | 0, _, _ => some []
  | n + 1, t, B => (rdSmp t B).bind fun r => (rdRest n r.1 r.2).bind fun l => some ((r.1.T, r.1.V) :: l)

def readN (B : List Nat) : Option (List Smp) :=
  (rdL 16 B).bind fun n => if 40 < n.1 then none else if n.1 = 0 then some [] else
    (rdL 64 n.2).bind fun a => (rdL 64 a.2).bind fun v =>
      (rdRest (n.1 - 1) ⟨wI a.1, v.1, 0, 0, 0⟩ v.2).bind fun l => some ((wI a.1, v.1) :: l)

/-! what is written is read -/

theorem rdL_bitsN (x n : Nat) (R : List Nat) : rdL n (bitsN x n ++ R) = some (x % 2 ^ n, R) := by
  have h := bitsN_length x n
  rw [rdL, if_pos (by rw [List.length_append]; omega), List.take_append_of_le_length (by omega), List.take_of_length_le (by omega), bval_bitsN, List.drop_append_of_le_length (by omega), List.drop_of_length_le (by omega)]
  rfl

theorem rdL_one (b : Nat) (R : List Nat) : rdL 1 (b :: R) = some (b, R) := by
  simp [rdL, bval]

theorem rdKind_time (c : Int) (R : List Nat) : rdKind 4 0 (timeN c ++ R) = some (kindN c, bitsN (uN c) (cw (kindN c)) ++ R) := by
  have h := kindN_le c
  unfold timeN
  generalize kindN c = k at h
  have hk : k = 0 ∨ k = 1 ∨ k = 2 ∨ k = 3 ∨ k = 4 := by omega
  rcases hk with rfl | rfl | rfl | rfl | rfl <;> simp [rdKind, rdL_one, List.replicate]

structure Tr.Ok (t : Tr) : Prop where
  T : I64 t.T
  V : t.V < 18446744073709551616
  step : I64 t.step
  LM : t.L + t.M ≤ 64
  L31 : t.L ≤ 31
  M0 : t.M = 0 → t.L = 0

theorem rdTime_wr (t : Tr) (ht : t.Ok) (T : Int) (hT : I64 T) (R : List Nat) :
    rdTime t (timeN (wI (wI (T - t.T) - t.step)) ++ R) = some ({ t with T := T, step := wI (T - t.T) }, R) := by
  have hc := wI_in (wI (T - t.T) - t.step)
  rw [rdTime, rdKind_time, Option.bind_some, rdL_bitsN, Option.bind_some, sgnN_kind hc]
  obtain ⟨h1, _, h3, _⟩ := ht
  have e1 : wI (t.step + wI (wI (T - t.T) - t.step)) = wI (T - t.T) := by unfold wI; omega
  have e2 : wI (t.T + wI (T - t.T)) = T := by unfold I64 at *; unfold wI; omega
  simp only [e1, e2]

theorem valN_ok {L M x : Nat} (hLM : L + M ≤ 64) (hL : L ≤ 31) (hM : M = 0 → L = 0) (hx : x < 18446744073709551616) :
    (valN L M x).2.1 + (valN L M x).2.2 ≤ 64 ∧ (valN L M x).2.1 ≤ 31 ∧ ((valN L M x).2.2 = 0 → (valN L M x).2.1 = 0) := by
  unfold valN
  by_cases h0 : x = 0
  · simp [h0]; exact ⟨hLM, hL, hM⟩
  · rw [if_neg h0]
    split
    · exact ⟨hLM, hL, hM⟩
    · obtain ⟨h1, h2, h3⟩ := tzN_spec h0 hx
      have h4 : lzN x ≤ 63 := by unfold lzN; rw [if_neg h0]; omega
      have h5 := (lzN_le (x := x) (L := lzN x) (by omega) hx).1 (Nat.le_refl _)
      have h6 : tzN x < 64 - lzN x := by
        obtain ⟨y, hy⟩ := h2
        have hy0 : 0 < y := by
          rcases Nat.eq_zero_or_pos y with rfl | h
          · simp at hy; exact absurd hy h0
          · exact h
        have : 2 ^ tzN x ≤ x := by
          have := Nat.mul_le_mul_left (2 ^ tzN x) hy0
          omega
        exact (Nat.pow_lt_pow_iff_right (by omega)).1 (Nat.lt_of_le_of_lt this h5)
      simp only
      omega

theorem rdVal_wr (t : Tr) (ht : t.Ok) (V : Nat) (hV : V < 18446744073709551616) (R : List Nat) :
    rdVal t ((valN t.L t.M (V ^^^ t.V)).1 ++ R) = some ({ t with V := V, L := (valN t.L t.M (V ^^^ t.V)).2.1, M := (valN t.L t.M (V ^^^ t.V)).2.2 }, R) := by
  obtain ⟨_, hv, _, hLM, hL, hM⟩ := ht
  have hx : V ^^^ t.V < 18446744073709551616 := Nat.xor_lt_two_pow (n := 64) hV hv
  have hback : t.V ^^^ (V ^^^ t.V) = V := by rw [Nat.xor_comm V, ← Nat.xor_assoc, Nat.xor_self, Nat.zero_xor]
  have hok := valN_ok hLM hL hM hx
  generalize V ^^^ t.V = x at hx hback hok
  by_cases h0 : x = 0
  · subst h0
    have hVV : t.V = V := by simpa using hback
    have e : valN t.L t.M 0 = ([0], t.L, t.M) := rfl
    rw [e, ← hVV]
    simp [rdVal, rdL_one]
  · have key : ∀ L M, L ≤ 64 → L + M ≤ 64 → L ≤ lzN x → 64 - L - M ≤ tzN x → x / 2 ^ (64 - L - M) % 2 ^ M * 2 ^ (64 - L - M) % 18446744073709551616 = x := by
      intro L M hL hLM h1 h2
      have h3 := (lzN_le hL hx).1 h1
      have h4 := (tzN_le h0 hx).1 h2
      have h5 : x / 2 ^ (64 - L - M) < 2 ^ M := by
        rw [Nat.div_lt_iff_lt_mul (Nat.two_pow_pos _), ← Nat.pow_add]
        rw [show M + (64 - L - M) = 64 - L by omega]; exact h3
      rw [Nat.mod_eq_of_lt h5, Nat.div_mul_cancel h4, Nat.mod_eq_of_lt hx]
    unfold valN at hok ⊢
    rw [if_neg h0] at hok ⊢
    split
    · rename_i hf
      rw [if_pos hf] at hok
      simp only [List.cons_append, List.nil_append]
      rw [rdVal, rdL_one, Option.bind_some, if_neg (by simp), rdWin, rdL_one, Option.bind_some, if_neg (by simp), Option.bind_some, if_neg (by simp only; omega), rdL_bitsN, Option.bind_some]
      simp only
      rw [key t.L t.M (by omega) hLM hf.1 hf.2, hback]
    · rename_i hf
      rw [if_neg hf] at hok
      simp only at hok
      have hM1 : 1 ≤ 64 - min (lzN x) 31 - tzN x := by
        have := (tzN_spec h0 hx).1
        omega
      have hk := key (min (lzN x) 31) (64 - min (lzN x) 31 - tzN x) (by omega) hok.1 (by omega) (by omega)
      generalize min (lzN x) 31 = L at *
      generalize hMM : 64 - L - tzN x = M at *
      simp only [List.cons_append, List.nil_append, List.append_assoc, hMM]
      rw [rdVal, rdL_one, Option.bind_some, if_neg (by simp), rdWin, rdL_one, Option.bind_some, if_pos rfl, rdL_bitsN, Option.bind_some, rdL_bitsN, Option.bind_some, Option.bind_some]
      have e1 : L % 2 ^ 5 = L := by rw [Nat.mod_eq_of_lt]; omega
      have e2 : (M - 1) % 2 ^ 6 + 1 = M := by rw [Nat.mod_eq_of_lt (by omega)]; omega
      simp only [e1, e2]
      rw [if_neg (by omega), rdL_bitsN, Option.bind_some]
      simp only [hk, hback]

def SOk (s : Smp) : Prop := I64 s.1 ∧ s.2 < 18446744073709551616

theorem wrN_ok (t : Tr) (ht : t.Ok) (s : Smp) (hs : SOk s) : (wrN t s).2.Ok := by
  have hx : s.2 ^^^ t.V < 18446744073709551616 := Nat.xor_lt_two_pow (n := 64) hs.2 ht.V
  obtain ⟨h1, h2, h3⟩ := valN_ok ht.LM ht.L31 ht.M0 hx
  exact ⟨hs.1, hs.2, wI_in _, h1, h2, h3⟩

theorem rdSmp_wr (t : Tr) (ht : t.Ok) (s : Smp) (hs : SOk s) (R : List Nat) : rdSmp t ((wrN t s).1 ++ R) = some ((wrN t s).2, R) := by
  have h1 : (wrN t s).1 = timeN (wI (wI (s.1 - t.T) - t.step)) ++ (valN t.L t.M (s.2 ^^^ t.V)).1 := rfl
  rw [rdSmp, h1, List.append_assoc, rdTime_wr t ht s.1 hs.1, Option.bind_some]
  exact rdVal_wr { t with T := s.1, step := wI (s.1 - t.T) } ⟨hs.1, ht.V, wI_in _, ht.LM, ht.L31, ht.M0⟩ s.2 hs.2 R

theorem rdRest_wr (R : List Nat) : ∀ (l : List Smp) (t : Tr), t.Ok → (∀ s ∈ l, SOk s) → rdRest l.length t (restN t l ++ R) = some l
  | [], _, _, _ => rfl
  | s :: l, t, ht, h => by
    have hs := h s (by simp)
    rw [List.length_cons, rdRest, restN, List.append_assoc, rdSmp_wr t ht s hs, Option.bind_some]
    simp only
    rw [rdRest_wr R l _ (wrN_ok t ht s hs) (fun x hx => h x (by simp [hx])), Option.bind_some]
    rfl

theorem readN_pack (l : List Smp) (hl : l.length ≤ 40) (h : ∀ s ∈ l, SOk s) (R : List Nat) : readN (packN l ++ R) = some l := by
  cases l with
  | nil =>
    rw [packN, readN, rdL_bitsN, Option.bind_some]
    simp
  | cons s r =>
    have hs := h s (by simp)
    have hlen : (r.length + 1) % 2 ^ 16 = r.length + 1 := Nat.mod_eq_of_lt (by simp at hl; omega)
    have e1 : uN s.1 % 2 ^ 64 = uN s.1 := Nat.mod_eq_of_lt (uN_lt _)
    have e2 : s.2 % 2 ^ 64 = s.2 := Nat.mod_eq_of_lt hs.2
    have e3 : wI (uN s.1 : Int) = s.1 := by have := hs.1; unfold I64 at this; unfold wI uN; omega
    rw [packN, readN, List.append_assoc, List.append_assoc, List.append_assoc, rdL_bitsN, Option.bind_some, hlen]
    simp only
    rw [if_neg (by simp at hl; omega), if_neg (by omega), rdL_bitsN, Option.bind_some, rdL_bitsN, Option.bind_some, e1, e2]
    simp only [e3, Nat.add_sub_cancel]
    rw [rdRest_wr R r ⟨s.1, s.2, 0, 0, 0⟩ ⟨hs.1, hs.2, (by unfold I64; omega : I64 0), by simp, by simp, fun _ => rfl⟩ (fun x hx => h x (by simp [hx])), Option.bind_some]

/-! bits are below 2 -/
theorem timeN_lt (c : Int) : ∀ b ∈ timeN c, b < 2 := by
  intro b hb
  unfold timeN at hb
  rcases List.mem_append.1 hb with hb | hb
  · rcases List.mem_append.1 hb with hb | hb
    · have := List.eq_of_mem_replicate hb; omega
    · split at hb <;> simp at hb
      omega
  · exact bitsN_lt _ _ b hb

theorem valN_lt (L M x : Nat) : ∀ b ∈ (valN L M x).1, b < 2 := by
  intro b hb
  unfold valN at hb
  split at hb
  · simp at hb; omega
  · split at hb
    · rcases List.mem_append.1 hb with hb | hb
      · simp at hb; omega
      · exact bitsN_lt _ _ b hb
    · simp only at hb
      rcases List.mem_append.1 hb with hb | hb
      · rcases List.mem_append.1 hb with hb | hb
        · rcases List.mem_append.1 hb with hb | hb
          · simp at hb; omega
          · exact bitsN_lt _ _ b hb
        · exact bitsN_lt _ _ b hb
      · exact bitsN_lt _ _ b hb

theorem wrN_lt (t : Tr) (s : Smp) : ∀ b ∈ (wrN t s).1, b < 2 := by
  intro b hb
  rcases List.mem_append.1 hb with hb | hb
  · exact timeN_lt _ b hb
  · exact valN_lt _ _ _ b hb

theorem restN_lt : ∀ (l : List Smp) (t : Tr), ∀ b ∈ restN t l, b < 2
  | [], _ => by simp [restN]
  | s :: l, t => by
    intro b hb
    rw [restN] at hb
    rcases List.mem_append.1 hb with hb | hb
    · exact wrN_lt t s b hb
    · exact restN_lt l _ b hb

theorem packN_lt (l : List Smp) : ∀ b ∈ packN l, b < 2 := by
  intro b hb
  cases l with
  | nil => exact bitsN_lt _ _ b hb
  | cons s r =>
    rw [packN] at hb
    rcases List.mem_append.1 hb with hb | hb
    · rcases List.mem_append.1 hb with hb | hb
      · rcases List.mem_append.1 hb with hb | hb
        · exact bitsN_lt _ _ b hb
        · exact bitsN_lt _ _ b hb
      · exact bitsN_lt _ _ b hb
    · exact restN_lt _ _ b hb

theorem cbits_chunkN (l : List Smp) : cbits (chunkN l) = packN l ++ List.replicate ((8 - (packN l).length % 8) % 8) 0 := by
  rw [chunkN, cbits_octs _ _ (padN_length _)]
  · rfl
  · intro b hb
    rcases List.mem_append.1 hb with hb | hb
    · exact packN_lt l b hb
    · have := List.eq_of_mem_replicate hb; omega

theorem chunkN_length (l : List Smp) : (chunkN l).length = ((packN l).length + 7) / 8 := by
  rw [chunkN, octs_length, padN_length]; omega

theorem readN_chunk (l : List Smp) (hl : l.length ≤ 40) (h : ∀ s ∈ l, SOk s) (c : List Nat) : readN (cbits (chunkN l ++ c)) = some l := by
  rw [cbits_append, cbits_chunkN, List.append_assoc]
  exact readN_pack l hl h _

/-! what is read of some bits is read of more -/
theorem rdL_more {n : Nat} {B R : List Nat} {x : Nat × List Nat} (h : rdL n B = some x) : rdL n (B ++ R) = some (x.1, x.2 ++ R) := by
  unfold rdL at h ⊢
  split at h
  · rename_i hn
    cases h
    rw [if_pos (by rw [List.length_append]; omega), List.take_append_of_le_length hn, List.drop_append_of_le_length hn]
  · cases h

theorem rdKind_more (R : List Nat) : ∀ (f k : Nat) (B : List Nat) (x : Nat × List Nat), rdKind f k B = some x → rdKind f k (B ++ R) = some (x.1, x.2 ++ R)
  | 0, k, B, x, h => by cases h; rfl
  | f + 1, k, B, x, h => by
    rw [rdKind] at h ⊢
    obtain ⟨r, h1, h2⟩ := Option.bind_eq_some_iff.1 h
    rw [rdL_more h1, Option.bind_some]
    simp only at h2 ⊢
    split at h2
    · rw [if_pos (by assumption)]; exact rdKind_more R f (k + 1) r.2 x h2
    · rw [if_neg (by assumption)]; cases h2; rfl

theorem rdTime_more {t : Tr} {B R : List Nat} {x : Tr × List Nat} (h : rdTime t B = some x) : rdTime t (B ++ R) = some (x.1, x.2 ++ R) := by
  rw [rdTime] at h ⊢
  obtain ⟨k, h1, h2⟩ := Option.bind_eq_some_iff.1 h
  obtain ⟨y, h3, h4⟩ := Option.bind_eq_some_iff.1 h2
  rw [rdKind_more R _ _ _ _ h1, Option.bind_some, rdL_more h3, Option.bind_some]
  cases h4; rfl

theorem rdWin_more {L M : Nat} {B R : List Nat} {x : (Nat × Nat) × List Nat} (h : rdWin L M B = some x) : rdWin L M (B ++ R) = some (x.1, x.2 ++ R) := by
  rw [rdWin] at h ⊢
  obtain ⟨r, h1, h2⟩ := Option.bind_eq_some_iff.1 h
  rw [rdL_more h1, Option.bind_some]
  simp only at h2 ⊢
  split at h2
  · rw [if_pos (by assumption)]
    obtain ⟨l, h3, h4⟩ := Option.bind_eq_some_iff.1 h2
    obtain ⟨m, h5, h6⟩ := Option.bind_eq_some_iff.1 h4
    rw [rdL_more h3, Option.bind_some, rdL_more h5, Option.bind_some]
    cases h6; rfl
  · rw [if_neg (by assumption)]; cases h2; rfl

theorem rdVal_more {t : Tr} {B R : List Nat} {x : Tr × List Nat} (h : rdVal t B = some x) : rdVal t (B ++ R) = some (x.1, x.2 ++ R) := by
  rw [rdVal] at h ⊢
  obtain ⟨r, h1, h2⟩ := Option.bind_eq_some_iff.1 h
  rw [rdL_more h1, Option.bind_some]
  simp only at h2 ⊢
  split at h2
  · rw [if_pos (by assumption)]; cases h2; rfl
  · rw [if_neg (by assumption)]
    obtain ⟨q, h3, h4⟩ := Option.bind_eq_some_iff.1 h2
    rw [rdWin_more h3, Option.bind_some]
    simp only at h4 ⊢
    split at h4
    · cases h4
    · rw [if_neg (by assumption)]
      obtain ⟨y, h5, h6⟩ := Option.bind_eq_some_iff.1 h4
      rw [rdL_more h5, Option.bind_some]
      cases h6; rfl

theorem rdSmp_more {t : Tr} {B R : List Nat} {x : Tr × List Nat} (h : rdSmp t B = some x) : rdSmp t (B ++ R) = some (x.1, x.2 ++ R) := by
  rw [rdSmp] at h ⊢
  obtain ⟨r, h1, h2⟩ := Option.bind_eq_some_iff.1 h
  rw [rdTime_more h1, Option.bind_some]
  exact rdVal_more h2

theorem rdRest_more (R : List Nat) : ∀ (n : Nat) (t : Tr) (B : List Nat) (l : List Smp), rdRest n t B = some l → rdRest n t (B ++ R) = some l
  | 0, _, _, _, h => h
  | n + 1, t, B, l, h => by
    rw [rdRest] at h ⊢
    obtain ⟨r, h1, h2⟩ := Option.bind_eq_some_iff.1 h
    obtain ⟨m, h3, h4⟩ := Option.bind_eq_some_iff.1 h2
    rw [rdSmp_more h1, Option.bind_some]
    simp only
    rw [rdRest_more R n _ _ _ h3, Option.bind_some]
    exact h4

theorem readN_more (R : List Nat) {B : List Nat} {l : List Smp} (h : readN B = some l) : readN (B ++ R) = some l := by
  rw [readN] at h ⊢
  obtain ⟨n, h1, h2⟩ := Option.bind_eq_some_iff.1 h
  rw [rdL_more h1, Option.bind_some]
  simp only at h2 ⊢
  split at h2
  · cases h2
  · rw [if_neg (by assumption)]
    split at h2
    · rw [if_pos (by assumption)]; exact h2
    · rw [if_neg (by assumption)]
      obtain ⟨a, h3, h4⟩ := Option.bind_eq_some_iff.1 h2
      obtain ⟨v, h5, h6⟩ := Option.bind_eq_some_iff.1 h4
      obtain ⟨m, h7, h8⟩ := Option.bind_eq_some_iff.1 h6
      rw [rdL_more h3, Option.bind_some, rdL_more h5, Option.bind_some]
      simp only
      rw [rdRest_more R _ _ _ _ h7, Option.bind_some]
      exact h8

/-- what Unpack answers -/
def unpackN (c : List Nat) : Option (List Smp) := (readN (cbits c)).bind fun l => if chunkN l = c then some l else none

theorem unpackN_chunk (l : List Smp) (hl : l.length ≤ 40) (h : ∀ s ∈ l, SOk s) : unpackN (chunkN l) = some l := by
  have := readN_chunk l hl h []
  rw [List.append_nil] at this
  rw [unpackN, this, Option.bind_some, if_pos rfl]

theorem unpackN_byte_more (l : List Smp) (hl : l.length ≤ 40) (h : ∀ s ∈ l, SOk s) (b : Nat) : unpackN (chunkN l ++ [b]) = none := by
  rw [unpackN, readN_chunk l hl h [b], Option.bind_some, if_neg]
  intro e
  have := congrArg List.length e
  simp at this

theorem unpackN_byte_less (l : List Smp) (hl : l.length ≤ 40) (h : ∀ s ∈ l, SOk s) (c d : List Nat) (hc : chunkN l = c ++ d) (hd : d ≠ []) : unpackN c = none := by
  rw [unpackN]
  cases hr : readN (cbits c) with
  | none => rfl
  | some m =>
    have h1 := readN_more (cbits d) hr
    rw [← cbits_append, ← hc] at h1
    have h2 := readN_chunk l hl h []
    rw [List.append_nil, h1] at h2
    cases h2
    rw [Option.bind_some, if_neg]
    rw [hc]
    intro e
    have := congrArg List.length e
    simp at this
    exact hd this

/-! lengths -/
theorem timeN_length (c : Int) : (timeN c).length ≤ 68 := by
  have h := kindN_le c
  unfold timeN
  generalize kindN c = k at h
  have hk : k = 0 ∨ k = 1 ∨ k = 2 ∨ k = 3 ∨ k = 4 := by omega
  rcases hk with rfl | rfl | rfl | rfl | rfl <;> simp [cw, bitsN_length]

theorem valN_length {L M x : Nat} (hLM : L + M ≤ 64) : (valN L M x).1.length ≤ 77 := by
  unfold valN
  split
  · simp
  · split
    · simp [bitsN_length]; omega
    · simp only [List.length_append, bitsN_length, List.length_cons, List.length_nil]; omega

theorem restN_snoc (s : Smp) : ∀ (l : List Smp) (t : Tr), t.Ok → (∀ s ∈ l, SOk s) → ∃ e, restN t (l ++ [s]) = restN t l ++ e ∧ e.length ≤ 145
  | [], t, ht, _ => ⟨(wrN t s).1, by simp [restN], by
      have h1 := timeN_length (wI (wI (s.1 - t.T) - t.step))
      have h2 := valN_length (L := t.L) (M := t.M) (x := s.2 ^^^ t.V) ht.LM
      have h3 : (wrN t s).1 = timeN (wI (wI (s.1 - t.T) - t.step)) ++ (valN t.L t.M (s.2 ^^^ t.V)).1 := rfl
      rw [h3, List.length_append]; omega⟩
  | x :: l, t, ht, h => by
    obtain ⟨e, h1, h2⟩ := restN_snoc s l (wrN t x).2 (wrN_ok t ht x (h x (by simp))) (fun y hy => h y (by simp [hy]))
    exact ⟨e, by rw [List.cons_append, restN, h1, restN, List.append_assoc], h2⟩

theorem chunkN_snoc (l : List Smp) (s : Smp) (h0 : l ≠ []) (h : ∀ s ∈ l, SOk s) : (chunkN l).length ≤ (chunkN (l ++ [s])).length ∧ (chunkN (l ++ [s])).length ≤ (chunkN l).length + 19 := by
  cases l with
  | nil => exact absurd rfl h0
  | cons a r =>
    have hs := h a (by simp)
    obtain ⟨e, h1, h2⟩ := restN_snoc s r ⟨a.1, a.2, 0, 0, 0⟩ ⟨hs.1, hs.2, (by unfold I64; omega : I64 0), by simp, by simp, fun _ => rfl⟩ (fun y hy => h y (by simp [hy]))
    rw [chunkN_length, chunkN_length, List.cons_append, packN, packN, h1]
    simp only [List.length_append, bitsN_length, List.length_cons, List.length_nil]
    omega

theorem chunkN_two (l : List Smp) : 2 ≤ (chunkN l).length := by
  rw [chunkN_length]
  cases l with
  | nil => simp [packN, bitsN_length]
  | cons a r => simp only [packN, List.length_append, bitsN_length]; omega

theorem chunkN_lt (l : List Smp) : ∀ b ∈ chunkN l, b < 256 := octs_lt _

theorem chunkN_nil : chunkN [] = [0, 0] := by decide

/-! samples that come evenly, with one value -/
theorem restN_even (v : Nat) (d : Int) (hd : I64 d) : ∀ (n : Nat) (t : Tr) (T : Int), t.V = v → t.step = d → T = t.T → (restN t ((List.range n).map fun (i : Nat) => (wI (T + (i + 1 : Int) * d), v))).length = 2 * n
  | 0, _, _, _, _, _ => rfl
  | n + 1, t, T, hV, hs, hT => by
    rw [List.range_succ_eq_map, List.map_cons, List.map_map, restN, List.length_append]
    have e1 : wI (wI (wI (T + (((0 : Nat) : Int) + 1) * d) - t.T) - t.step) = 0 := by
      rw [hs, ← hT]; unfold wI I64 at *; omega
    have e2 : (wrN t (wI (T + (((0 : Nat) : Int) + 1) * d), v)).1 = [0, 0] := by
      rw [wrN]
      simp only
      rw [e1, hV, Nat.xor_self]; rfl
    rw [e2]
    have e3 : (wrN t (wI (T + (((0 : Nat) : Int) + 1) * d), v)).2.V = v := rfl
    have e4 : (wrN t (wI (T + (((0 : Nat) : Int) + 1) * d), v)).2.step = d := by
      show wI (wI (T + (((0 : Nat) : Int) + 1) * d) - t.T) = d
      rw [← hT]; unfold wI I64 at *; omega
    have e5 : (wrN t (wI (T + (((0 : Nat) : Int) + 1) * d), v)).2.T = wI (T + d) := by
      show wI (T + (((0 : Nat) : Int) + 1) * d) = wI (T + d)
      congr 1; omega
    have ih := restN_even v d hd n _ (wI (T + d)) e3 e4 e5.symm
    have e6 : (List.map ((fun (i : Nat) => (wI (T + (i + 1 : Int) * d), v)) ∘ Nat.succ) (List.range n)) = (List.range n).map fun (i : Nat) => (wI (wI (T + d) + (i + 1 : Int) * d), v) := by
      apply List.map_congr_left
      intro i _
      simp only [Function.comp]
      congr 1
      have : ((Nat.succ i : Nat) + 1 : Int) * d = d + (i + 1 : Int) * d := by
        rw [show ((Nat.succ i : Nat) + 1 : Int) = 1 + (i + 1 : Int) by omega, Int.add_mul, Int.one_mul]
      rw [this]
      unfold wI; omega
    rw [e6, ih]
    simp; omega

end Go.Proofs.YtgekdmjneogdoabGreatDoor
