import Derived.Test.YtgekdmjneogdoaaGreatDoorProg
import Derived.WalkKit
import Derived.WalkSpells
import Derived.WalkLawsBesides
namespace Go.Proofs.YtgekdmjneogdoaaGreatDoor
open Go.RowKit

theorem hide {p : Prop} (h : p) : Hid p := h
theorem unhide {p : Prop} (h : Hid p) : p := h
theorem retU {a b : Int} (h : a = b) : Ending.returned (.int .u64 a) = .returned (.int .u64 b) := by rw [h]
theorem retI {a b : Int} (h : a = b) : Ending.returned (.int .i64 a) = .returned (.int .i64 b) := by rw [h]

theorem shr_nat (a s : Nat) : (a : Int) / 2 ^ s = ((a / 2 ^ s : Nat) : Int) := by norm_cast
theorem shl_nat (a s : Nat) : IntKind.u64.wrap ((a : Int) * 2 ^ s) = ((a * 2 ^ s % 18446744073709551616 : Nat) : Int) := by
  rw [IntKind.wrap_u64, Int.natCast_emod, Int.natCast_mul, Int.natCast_pow]; rfl

theorem and1 (u : Nat) (h : u < 18446744073709551616) : bits BinOp.and IntKind.u64 (u : Int) 1 = ((u % 2 : Nat) : Int) := by
  have := u64_and_nat u 1 h (by omega); rw [nat_mask1] at this; exact this

theorem or1 (u : Nat) (h : u < 18446744073709551616) : bits BinOp.or IntKind.u64 (u : Int) 1 = ((u ||| 1 : Nat) : Int) := u64_or_nat u 1 h (by omega)

theorem i64_and63 (s : Nat) (h : s < 64) : bits BinOp.and IntKind.i64 (s : Int) 63 = (s : Int) := by
  have : ∀ s : Fin 64, bits BinOp.and IntKind.i64 ((s.val : Nat) : Int) 63 = (s.val : Int) := by decide
  exact this ⟨s, h⟩

end Go.Proofs.YtgekdmjneogdoaaGreatDoor

namespace Go.Proofs.YtgekdmjneogdoaaGreatDoor

/-- a number's lowest bits, so many, the highest first -/
def bitsN : Nat → Nat → List Nat
  | _, 0 => []
  | x, n + 1 => (x / 2 ^ n % 2) :: bitsN x n

theorem bitsN_length (x : Nat) : ∀ n, (bitsN x n).length = n
  | 0 => rfl
  | n + 1 => by simp [bitsN, bitsN_length x n]

theorem bitsN_lt (x : Nat) : ∀ n, ∀ b ∈ bitsN x n, b < 2
  | 0 => by simp [bitsN]
  | n + 1 => by
    intro b hb
    rcases List.mem_cons.1 hb with rfl | hb
    · omega
    · exact bitsN_lt x n b hb

/-- the number that bits are -/
def bval (l : List Nat) : Nat := l.foldl (fun a b => 2 * a + b) 0

theorem bval_snoc (l : List Nat) (b : Nat) : bval (l ++ [b]) = 2 * bval l + b := by simp [bval]
theorem bval_foldl (m : List Nat) : ∀ a, m.foldl (fun a b => 2 * a + b) a = a * 2 ^ m.length + bval m := by
  unfold bval
  induction m with
  | nil => intro a; simp
  | cons x m ih =>
    intro a
    simp only [List.foldl_cons, List.length_cons, Nat.pow_succ]
    rw [ih, ih (2 * 0 + x), Nat.add_mul, Nat.mul_comm 2 a, Nat.mul_assoc, Nat.mul_comm 2 (2 ^ m.length)]
    simp; omega
theorem bval_append (l m : List Nat) : bval (l ++ m) = bval l * 2 ^ m.length + bval m := by
  rw [bval, List.foldl_append]
  exact bval_foldl m _
theorem bval_cons (x : Nat) (m : List Nat) : bval (x :: m) = x * 2 ^ m.length + bval m := by
  have := bval_append [x] m
  simpa [bval] using this
theorem bval_lt (l : List Nat) (h : ∀ b ∈ l, b < 2) : bval l < 2 ^ l.length := by
  induction l with
  | nil => simp [bval]
  | cons x l ih =>
    have h1 := ih (fun b hb => h b (by simp [hb]))
    have h2 : x < 2 := h x (by simp)
    rw [bval_cons, List.length_cons, Nat.pow_succ]
    have : x * 2 ^ l.length ≤ 1 * 2 ^ l.length := Nat.mul_le_mul_right _ (by omega)
    omega
/-- the whole bytes of bits -/
def octs (l : List Nat) : List Nat := (List.range (l.length / 8)).map fun i => bval (l.take (8 * i + 8)) % 256

theorem octs_length (l : List Nat) : (octs l).length = l.length / 8 := by simp [octs]
theorem octs_lt (l : List Nat) : ∀ b ∈ octs l, b < 256 := by
  intro b hb
  simp only [octs, List.mem_map] at hb
  obtain ⟨i, _, rfl⟩ := hb
  omega
theorem octs_snoc (l : List Nat) (b : Nat) (h : (l.length + 1) % 8 ≠ 0) : octs (l ++ [b]) = octs l := by
  have h1 : (l ++ [b]).length / 8 = l.length / 8 := by simp; omega
  rw [octs, octs, h1]
  apply List.map_congr_left
  intro i hi
  have := List.mem_range.1 hi
  rw [List.take_append_of_le_length (by omega)]
theorem octs_full (l : List Nat) (b : Nat) (h : (l.length + 1) % 8 = 0) : octs (l ++ [b]) = octs l ++ [bval (l ++ [b]) % 256] := by
  have h1 : (l ++ [b]).length / 8 = l.length / 8 + 1 := by simp; omega
  rw [octs, octs, h1, List.range_succ, List.map_append]
  congr 1
  · apply List.map_congr_left
    intro i hi
    have := List.mem_range.1 hi
    rw [List.take_append_of_le_length (by omega)]
  · rw [List.map_singleton, List.take_of_length_le (by simp; omega)]

/-- the bits of bytes -/
def cbits (c : List Nat) : List Nat := c.flatMap fun b => bitsN b 8

theorem cbits_cons (b : Nat) (c : List Nat) : cbits (b :: c) = bitsN b 8 ++ cbits c := by simp [cbits]
theorem cbits_length (c : List Nat) : (cbits c).length = 8 * c.length := by
  induction c with
  | nil => rfl
  | cons b c ih => rw [cbits_cons, List.length_append, bitsN_length, ih, List.length_cons]; omega
theorem cbits_lt (c : List Nat) : ∀ b ∈ cbits c, b < 2 := by
  intro b hb
  simp only [cbits, List.mem_flatMap] at hb
  obtain ⟨x, _, h⟩ := hb
  exact bitsN_lt x 8 b h

theorem bitsN_get (x : Nat) : ∀ n i, i < n → (bitsN x n)[i]? = some (x / 2 ^ (n - 1 - i) % 2)
  | 0, i, h => by omega
  | n + 1, 0, _ => by simp [bitsN]
  | n + 1, i + 1, h => by
    rw [bitsN, List.getElem?_cons_succ, bitsN_get x n i (by omega)]
    congr 4
    omega

theorem cbits_get (c : List Nat) : ∀ i, i < 8 * c.length → (cbits c)[i]? = some (c.getD (i / 8) 0 / 2 ^ (7 - i % 8) % 2) := by
  induction c with
  | nil => intro i h; simp at h
  | cons b c ih =>
    intro i h
    rw [cbits_cons]
    by_cases h8 : i < 8
    · rw [List.getElem?_append_left (by rw [bitsN_length]; exact h8), bitsN_get b 8 i h8]
      have h0 : i / 8 = 0 := by omega
      have h1 : i % 8 = i := by omega
      rw [h0, h1]; rfl
    · rw [List.getElem?_append_right (by rw [bitsN_length]; omega), bitsN_length, ih (i - 8) (by simp at h; omega)]
      have h0 : i / 8 = (i - 8) / 8 + 1 := by omega
      have h1 : i % 8 = (i - 8) % 8 := by omega
      rw [h0, h1]; rfl

/-- bits filled up to whole bytes -/
def padN (l : List Nat) : List Nat := l ++ List.replicate ((8 - l.length % 8) % 8) 0

theorem padN_length (l : List Nat) : (padN l).length = 8 * ((l.length + 7) / 8) := by
  simp [padN]; omega
theorem padN_full (l : List Nat) (h : l.length % 8 = 0) : padN l = l := by simp [padN, h]
theorem padN_snoc (l : List Nat) (h : l.length % 8 ≠ 0) : padN (l ++ [0]) = padN l := by
  have h1 : (8 - l.length % 8) % 8 = (8 - (l.length + 1) % 8) % 8 + 1 := by omega
  rw [padN, padN, h1, List.replicate_succ]
  simp

/-- a number as Go's int holds it -/
def wI (x : Int) : Int := (x + 9223372036854775808) % 18446744073709551616 - 9223372036854775808
/-- uint64 of an int -/
def uN (x : Int) : Nat := (x % 18446744073709551616).toNat

abbrev I64 (x : Int) : Prop := -9223372036854775808 ≤ x ∧ x ≤ 9223372036854775807

theorem wI_in (x : Int) : I64 (wI x) := by unfold I64 wI; omega
theorem uN_lt (x : Int) : uN x < 18446744073709551616 := by unfold uN; omega

/-- what a number's lowest bits are, if the highest of them is a sign -/
def sgnN (x w : Nat) : Int := wI ((x : Int) * 2 ^ (64 - w)) / 2 ^ (64 - w)

theorem sgnN_0 (x : Nat) : sgnN x 0 = 0 := by unfold sgnN wI; simp
theorem sgnN_7 (x : Nat) : sgnN x 7 = ((x : Int) + 64) % 128 - 64 := by unfold sgnN wI; simp; omega
theorem sgnN_9 (x : Nat) : sgnN x 9 = ((x : Int) + 256) % 512 - 256 := by unfold sgnN wI; simp; omega
theorem sgnN_12 (x : Nat) : sgnN x 12 = ((x : Int) + 2048) % 4096 - 2048 := by unfold sgnN wI; simp; omega
theorem sgnN_64 (x : Nat) : sgnN x 64 = wI x := by unfold sgnN; simp

/-- how many bits the change of a step takes -/
def cw : Nat → Nat
  | 0 => 0
  | 1 => 7
  | 2 => 9
  | 3 => 12
  | _ => 64

def kindN (c : Int) : Nat := if c = 0 then 0 else if -64 ≤ c ∧ c ≤ 63 then 1 else if -256 ≤ c ∧ c ≤ 255 then 2 else if -2048 ≤ c ∧ c ≤ 2047 then 3 else 4

theorem kindN_le (c : Int) : kindN c ≤ 4 := by unfold kindN; split <;> (try omega); split <;> (try omega); split <;> (try omega); split <;> omega

def timeN (c : Int) : List Nat := List.replicate (kindN c) 1 ++ (if kindN c < 4 then [0] else []) ++ bitsN (uN c) (cw (kindN c))

/-- bits 0 ahead, and at the end, of a number of 64 bits -/
def lzN (x : Nat) : Nat := if x = 0 then 64 else 63 - x.log2
def tzN (x : Nat) : Nat := if x = 0 then 64 else (List.range 64).findIdx fun i => x / 2 ^ i % 2 == 1

theorem lzN_le {x L : Nat} (hL : L ≤ 64) (h : x < 18446744073709551616) : L ≤ lzN x ↔ x < 2 ^ (64 - L) := by
  unfold lzN
  by_cases h0 : x = 0
  · subst h0; simp [hL, Nat.two_pow_pos]
  · rw [if_neg h0]
    have h1 : x.log2 < 64 := (Nat.log2_lt h0).2 h
    by_cases h3 : L = 64
    · subst h3; simp; omega
    · have h2 := Nat.log2_lt (n := x) (k := 64 - L) h0
      omega

theorem dvd_of_low (x : Nat) : ∀ b, (∀ i, i < b → x / 2 ^ i % 2 = 0) → 2 ^ b ∣ x
  | 0, _ => by simp
  | b + 1, h => by
    obtain ⟨y, hy⟩ := dvd_of_low x b (fun i hi => h i (by omega))
    have h1 := h b (by omega)
    rw [hy, Nat.mul_div_cancel_left _ (Nat.two_pow_pos b)] at h1
    refine ⟨y / 2, ?_⟩
    rw [hy, Nat.pow_succ, Nat.mul_assoc]
    congr 1; omega

theorem tzN_spec {x : Nat} (h0 : x ≠ 0) (h : x < 18446744073709551616) : tzN x < 64 ∧ 2 ^ tzN x ∣ x ∧ x / 2 ^ tzN x % 2 = 1 := by
  unfold tzN
  rw [if_neg h0]
  generalize hf : (fun i => x / 2 ^ i % 2 == 1) = f
  have h1 : (List.range 64).findIdx f < (List.range 64).length := by
    rw [List.findIdx_lt_length]
    apply Classical.byContradiction
    intro hn
    have h2 : 2 ^ 64 ∣ x := dvd_of_low x 64 (fun i hi => by
      have h3 : ¬ f i = true := fun hc => hn ⟨i, List.mem_range.2 hi, hc⟩
      rw [← hf] at h3
      simp at h3
      omega)
    obtain ⟨y, rfl⟩ := h2
    have : 0 < y := by
      rcases Nat.eq_zero_or_pos y with rfl | h
      · simp at h0
      · exact h
    have := Nat.mul_le_mul_left (2 ^ 64) this
    omega
  have h2 := List.findIdx_getElem (p := f) (w := h1)
  rw [List.getElem_range] at h2
  refine ⟨by simpa using h1, ?_, ?_⟩
  · apply dvd_of_low
    intro i hi
    have h3 := List.not_of_lt_findIdx (p := f) hi
    rw [List.getElem_range, ← hf] at h3
    simp at h3
    omega
  · rw [← hf] at h2 ⊢
    simpa using h2

abbrev Smp := Int × Nat

/-- what writer and reader know of the samples ahead: time, value, step, window -/
structure Tr where
  T : Int
  V : Nat
  step : Int
  L : Nat
  M : Nat

/-- the value's part: its bits, the window behind it -/
def valN (L M x : Nat) : List Nat × Nat × Nat :=
  if x = 0 then ([0], L, M)
  else if L ≤ lzN x ∧ 64 - L - M ≤ tzN x then ([1, 0] ++ bitsN (x / 2 ^ (64 - L - M)) M, L, M)
  else
    let L' := min (lzN x) 31
    let M' := 64 - L' - tzN x
    ([1, 1] ++ bitsN L' 5 ++ bitsN (M' - 1) 6 ++ bitsN (x / 2 ^ (64 - L' - M')) M', L', M')

def wrN (t : Tr) (s : Smp) : List Nat × Tr :=
  (timeN (wI (wI (s.1 - t.T) - t.step)) ++ (valN t.L t.M (s.2 ^^^ t.V)).1,
    { T := s.1, V := s.2, step := wI (s.1 - t.T), L := (valN t.L t.M (s.2 ^^^ t.V)).2.1, M := (valN t.L t.M (s.2 ^^^ t.V)).2.2 })

def restN : Tr → List Smp → List Nat
  | _, [] => []
  | t, s :: r => (wrN t s).1 ++ restN (wrN t s).2 r

def packN : List Smp → List Nat
  | [] => bitsN 0 16
  | s :: r => bitsN (r.length + 1) 16 ++ bitsN (uN s.1) 64 ++ bitsN s.2 64 ++ restN ⟨s.1, s.2, 0, 0, 0⟩ r

/-- a chunk's bytes -/
def chunkN (l : List Smp) : List Nat := octs (padN (packN l))

/-- the next bits as a number, and the bits behind them -/
def rdL (n : Nat) (B : List Nat) : Option (Nat × List Nat) := if n ≤ B.length then some (bval (B.take n), B.drop n) else none

def rdKind : Nat → Nat → List Nat → Option (Nat × List Nat)
  | 0, k, B => some (k, B)
  | f + 1, k, B => (rdL 1 B).bind fun r => if r.1 = 1 then rdKind f (k + 1) r.2 else some (k, r.2)

def rdTime (t : Tr) (B : List Nat) : Option (Tr × List Nat) :=
  (rdKind 4 0 B).bind fun k => (rdL (cw k.1) k.2).bind fun x =>
    some ({ t with T := wI (t.T + wI (t.step + sgnN x.1 (cw k.1))), step := wI (t.step + sgnN x.1 (cw k.1)) }, x.2)

def rdWin (L M : Nat) (B : List Nat) : Option ((Nat × Nat) × List Nat) :=
  (rdL 1 B).bind fun r => if r.1 = 1 then (rdL 5 r.2).bind fun l => (rdL 6 l.2).bind fun m => some ((l.1, m.1 + 1), m.2) else some ((L, M), r.2)

def rdVal (t : Tr) (B : List Nat) : Option (Tr × List Nat) :=
  (rdL 1 B).bind fun r => if r.1 = 0 then some (t, r.2) else
    (rdWin t.L t.M r.2).bind fun q => if 64 < q.1.1 + q.1.2 then none else
      (rdL q.1.2 q.2).bind fun x => some ({ t with V := t.V ^^^ (x.1 * 2 ^ (64 - q.1.1 - q.1.2) % 18446744073709551616), L := q.1.1, M := q.1.2 }, x.2)

def rdSmp (t : Tr) (B : List Nat) : Option (Tr × List Nat) := (rdTime t B).bind fun r => rdVal r.1 r.2

def rdRest : Nat → Tr → List Nat → Option (List Smp)
  | 0, _, _ => some []
  | n + 1, t, B => (rdSmp t B).bind fun r => (rdRest n r.1 r.2).bind fun l => some ((r.1.T, r.1.V) :: l)

def readN (B : List Nat) : Option (List Smp) :=
  (rdL 16 B).bind fun n => if 40 < n.1 then none else if n.1 = 0 then some [] else
    (rdL 64 n.2).bind fun a => (rdL 64 a.2).bind fun v =>
      (rdRest (n.1 - 1) ⟨wI a.1, v.1, 0, 0, 0⟩ v.2).bind fun l => some ((wI a.1, v.1) :: l)

/-! what is written is read -/

structure Tr.Ok (t : Tr) : Prop where
  T : I64 t.T
  V : t.V < 18446744073709551616
  step : I64 t.step
  LM : t.L + t.M ≤ 64
  L31 : t.L ≤ 31
  M0 : t.M = 0 → t.L = 0

theorem valN_ok {L M x : Nat} (hLM : L + M ≤ 64) (hL : L ≤ 31) (hM : M = 0 → L = 0) (hx : x < 18446744073709551616) :
    (valN L M x).2.1 + (valN L M x).2.2 ≤ 64 ∧ (valN L M x).2.1 ≤ 31 ∧ ((valN L M x).2.2 = 0 → (valN L M x).2.1 = 0) := by
  unfold valN
  by_cases h0 : x = 0
  · simp [h0]; exact ⟨hLM, hL, hM⟩
  · rw [if_neg h0]
    split
    · exact ⟨hLM, hL, hM⟩
    · obtain ⟨h1, h2, h3⟩ := tzN_spec h0 hx
      have h4 : lzN x ≤ 63 := by unfold lzN; rw [if_neg h0]; omega
      have h5 := (lzN_le (x := x) (L := lzN x) (by omega) hx).1 (Nat.le_refl _)
      have h6 : tzN x < 64 - lzN x := by
        obtain ⟨y, hy⟩ := h2
        have hy0 : 0 < y := by
          rcases Nat.eq_zero_or_pos y with rfl | h
          · simp at hy; exact absurd hy h0
          · exact h
        have : 2 ^ tzN x ≤ x := by
          have := Nat.mul_le_mul_left (2 ^ tzN x) hy0
          omega
        exact (Nat.pow_lt_pow_iff_right (by omega)).1 (Nat.lt_of_le_of_lt this h5)
      simp only
      omega

def SOk (s : Smp) : Prop := I64 s.1 ∧ s.2 < 18446744073709551616

theorem wrN_ok (t : Tr) (ht : t.Ok) (s : Smp) (hs : SOk s) : (wrN t s).2.Ok := by
  have hx : s.2 ^^^ t.V < 18446744073709551616 := Nat.xor_lt_two_pow (n := 64) hs.2 ht.V
  obtain ⟨h1, h2, h3⟩ := valN_ok ht.LM ht.L31 ht.M0 hx
  exact ⟨hs.1, hs.2, wI_in _, h1, h2, h3⟩

/-! bits are below 2 -/
theorem chunkN_length (l : List Smp) : (chunkN l).length = ((packN l).length + 7) / 8 := by
  rw [chunkN, octs_length, padN_length]; omega

/-! what is read of some bits is read of more -/
/-- what Unpack answers -/
def unpackN (c : List Nat) : Option (List Smp) := (readN (cbits c)).bind fun l => if chunkN l = c then some l else none

/-! lengths -/
theorem timeN_length (c : Int) : (timeN c).length ≤ 68 := by
  have h := kindN_le c
  unfold timeN
  generalize kindN c = k at h
  have hk : k = 0 ∨ k = 1 ∨ k = 2 ∨ k = 3 ∨ k = 4 := by omega
  rcases hk with rfl | rfl | rfl | rfl | rfl <;> simp [cw, bitsN_length]

theorem valN_length {L M x : Nat} (hLM : L + M ≤ 64) : (valN L M x).1.length ≤ 77 := by
  unfold valN
  split
  · simp
  · split
    · simp [bitsN_length]; omega
    · simp only [List.length_append, bitsN_length, List.length_cons, List.length_nil]; omega

theorem chunkN_two (l : List Smp) : 2 ≤ (chunkN l).length := by
  rw [chunkN_length]
  cases l with
  | nil => simp [packN, bitsN_length]
  | cons a r => simp only [packN, List.length_append, bitsN_length]; omega

theorem chunkN_lt (l : List Smp) : ∀ b ∈ chunkN l, b < 256 := octs_lt _

/-! samples that come evenly, with one value -/
end Go.Proofs.YtgekdmjneogdoaaGreatDoor

namespace Go.Proofs.YtgekdmjneogdoaaGreatDoor

/-- what readFloat has gathered -/
structure RF where
  m : Nat
  tr : Bool
  sd : Bool
  sg : Bool
  nd : Nat
  nm : Nat
  dp : Int

def RF.start : RF := ⟨0, false, false, false, 0, 0, 0⟩

def RF.digit (st : RF) (c : Nat) : RF :=
  if c = 48 ∧ st.nd = 0 then { st with sg := true, dp := st.dp - 1 }
  else if st.nm < 19 then { st with sg := true, nd := st.nd + 1, nm := st.nm + 1, m := st.m * 10 + (c - 48) }
  else { st with sg := true, nd := st.nd + 1, tr := st.tr || decide (c ≠ 48) }

def RF.step (st : RF) (c : Nat) : Option RF :=
  if c = 46 then (if st.sd then none else some { st with sd := true, dp := st.nd })
  else if 48 ≤ c ∧ c ≤ 57 then some (st.digit c)
  else none

def RF.run : RF → List UInt8 → RF × List UInt8
  | st, [] => (st, [])
  | st, c :: r => match st.step c.toNat with
    | none => (st, c :: r)
    | some st' => RF.run st' r

/-- what holds of it behind k bytes -/
structure RF.Ok (st : RF) (k : Nat) : Prop where
  nm : st.nm ≤ 19
  nd : st.nd ≤ k
  lo : -(k : Int) ≤ st.dp
  hi : st.dp ≤ k
  m : st.m < 10 ^ st.nm

theorem RF.Ok.m19 {st : RF} {k : Nat} (h : st.Ok k) (h2 : st.nm < 19) : st.m < 1000000000000000000 := by
  have : 10 ^ st.nm ≤ 10 ^ 18 := Nat.pow_le_pow_right (by omega) (by omega)
  have := h.m
  omega

theorem RF.Ok.m20 {st : RF} {k : Nat} (h : st.Ok k) : st.m < 10000000000000000000 := by
  have : 10 ^ st.nm ≤ 10 ^ 19 := Nat.pow_le_pow_right (by omega) h.nm
  have := h.m
  omega

theorem RF.start_ok (k : Nat) : RF.start.Ok k := ⟨by simp [RF.start], by simp [RF.start], by simp [RF.start], by simp [RF.start], by simp [RF.start]⟩

theorem RF.Ok.digit {st : RF} {k c : Nat} (h : st.Ok k) (h1 : 48 ≤ c) (h2 : c ≤ 57) : (st.digit c).Ok (k + 1) := by
  have a := h.nm
  have b := h.nd
  have d := h.lo
  have e := h.hi
  have f := h.m
  unfold RF.digit
  split
  · exact ⟨a, by simp; omega, by simp; omega, by simp; omega, f⟩
  · split
    · refine ⟨by simp; omega, by simp; omega, by simp; omega, by simp; omega, ?_⟩
      simp only [Nat.pow_succ]
      omega
    · exact ⟨a, by simp; omega, by simp; omega, by simp; omega, f⟩

theorem RF.Ok.dot {st : RF} {k : Nat} (h : st.Ok k) : RF.Ok { st with sd := true, dp := st.nd } (k + 1) := by
  have a := h.nm
  have b := h.nd
  exact ⟨a, by simp; omega, by simp; omega, by simp; omega, h.m⟩

theorem exp_bound (v q j : Nat) (h : v < 10 ^ (q - j)) (hq : q - j ≤ 3) : v ≤ 999 := by
  have : 10 ^ (q - j) ≤ 10 ^ 3 := Nat.pow_le_pow_right (by omega) hq
  omega

theorem exp_step (v q j c : Nat) (h : v < 10 ^ (q - j)) (hq : j ≤ q) (hc : c ≤ 57) : v * 10 + (c - 48) < 10 ^ (q + 1 - j) := by
  have : q + 1 - j = (q - j) + 1 := by omega
  rw [this, Nat.pow_succ]; omega

theorem RF.run_stop {st : RF} {c : UInt8} {r : List UInt8} (h : st.step c.toNat = none) : RF.run st (c :: r) = (st, c :: r) := by
  simp [RF.run, h]
theorem RF.run_go {st st' : RF} {c : UInt8} {r : List UInt8} (h : st.step c.toNat = some st') : RF.run st (c :: r) = RF.run st' r := by
  simp [RF.run, h]

theorem RF.dot_go {st : RF} {c : UInt8} {r : List UInt8} {R : RF × List UInt8} (h : RF.run st (c :: r) = R) (hc : (c.toNat : Int) = 46) (hsd : st.sd = false) : RF.run { st with sd := true, dp := st.nd } r = R := by
  have : c.toNat = 46 := by omega
  rw [RF.run_go (st' := { st with sd := true, dp := st.nd }) (by rw [this]; simp [RF.step, hsd])] at h
  exact h

theorem RF.dot_no {st : RF} {c : UInt8} {r : List UInt8} {R : RF × List UInt8} (h : RF.run st (c :: r) = R) (hc : (c.toNat : Int) = 46) (hsd : st.sd = true) (hR : R.2 = [] ∨ ∃ r, R.2 = 101 :: r) : False := by
  have hc2 : c.toNat = 46 := by omega
  rw [RF.run_stop (by rw [hc2]; simp [RF.step, hsd])] at h
  rcases hR with h2 | ⟨r, h2⟩
  · rw [← h] at h2; simp at h2
  · rw [← h] at h2
    simp at h2
    rw [h2.1] at hc2; revert hc2; decide

theorem RF.digit_go {st : RF} {c : UInt8} {r : List UInt8} {R : RF × List UInt8} (h : RF.run st (c :: r) = R) (h1 : 48 ≤ (c.toNat : Int)) (h2 : (c.toNat : Int) ≤ 57) : RF.run (st.digit c.toNat) r = R := by
  rw [RF.run_go (st' := st.digit c.toNat) (by unfold RF.step; rw [if_neg (by omega), if_pos (by omega)])] at h
  exact h

theorem RF.stop {st : RF} {c : UInt8} {r : List UInt8} {R : RF × List UInt8} (h : RF.run st (c :: r) = R) (h0 : ¬ (c.toNat : Int) = 46) (h1 : ¬ (48 ≤ (c.toNat : Int) ∧ (c.toNat : Int) ≤ 57)) : R = (st, c :: r) := by
  rw [RF.run_stop (by unfold RF.step; rw [if_neg (by omega), if_neg (by omega)])] at h
  exact h.symm

/-- a power's digits -/
def expVal : Nat → List UInt8 → Nat
  | e, [] => e
  | e, c :: r => expVal (e * 10 + (c.toNat - 48)) r

/-- the power of ten of the last digit that was kept, where what stands behind the e says x -/
def RF.exp (st : RF) (x : Int) : Int := if st.m = 0 then 0 else (if st.sd then st.dp else st.nd) + x - st.nm

/-- what stands behind the e: perhaps a sign, one to four digits -/
structure ExpOk (r : List UInt8) (es : Int) (ds : List UInt8) : Prop where
  form : (r = 43 :: ds ∧ es = 1) ∨ (r = 45 :: ds ∧ es = -1) ∨ (r = ds ∧ es = 1)
  some : ds ≠ []
  len : ds.length ≤ 4
  dig : ∀ c, c ∈ ds → 48 ≤ c.toNat ∧ c.toNat ≤ 57

theorem expVal_lt : ∀ (l : List UInt8) (v : Nat), (∀ c, c ∈ l → c.toNat ≤ 57) → expVal v l < (v + 1) * 10 ^ l.length := by
  intro l
  induction l with
  | nil =>
    intro v _
    show v < (v + 1) * 1
    omega
  | cons c r ih =>
    intro v h
    have h1 := ih (v * 10 + (c.toNat - 48)) (fun c hc => h c (List.mem_cons_of_mem _ hc))
    have h2 := h c List.mem_cons_self
    show expVal (v * 10 + (c.toNat - 48)) r < (v + 1) * 10 ^ (r.length + 1)
    have h3 : (v * 10 + (c.toNat - 48) + 1) * 10 ^ r.length ≤ ((v + 1) * 10) * 10 ^ r.length := Nat.mul_le_mul_right _ (by omega)
    have h4 : (v + 1) * 10 ^ (r.length + 1) = ((v + 1) * 10) * 10 ^ r.length := by rw [Nat.pow_succ, Nat.mul_assoc, Nat.mul_comm (10 ^ r.length) 10]
    rw [h4]; exact Nat.lt_of_lt_of_le h1 h3

theorem ExpOk.bound {r : List UInt8} {es x : Int} {ds : List UInt8} (h : ExpOk r es ds) (hx : x = es * (expVal 0 ds : Int)) : -9999 ≤ x ∧ x ≤ 9999 := by
  have h1 := expVal_lt ds 0 (fun c hc => (h.dig c hc).2)
  have h2 : 10 ^ ds.length ≤ 10 ^ 4 := Nat.pow_le_pow_right (by omega) h.len
  rw [Nat.zero_add, Nat.one_mul] at h1
  have h3 : expVal 0 ds ≤ 9999 := by
    generalize 10 ^ ds.length = P at *
    omega
  have h4 : es = 1 ∨ es = -1 := by
    rcases h.form with ⟨_, h⟩ | ⟨_, h⟩ | ⟨_, h⟩
    · exact Or.inl h
    · exact Or.inr h
    · exact Or.inl h
  rcases h4 with rfl | rfl <;> omega

theorem drop_byte (s : ByteArray) (k : Nat) (h : k < s.size) : s.data.toList.drop k = s[k] :: s.data.toList.drop (k + 1) := by
  rw [List.drop_eq_getElem_cons (by simpa using h)]; rfl

theorem drop_ne {s : ByteArray} {k : Nat} {c : UInt8} {r : List UInt8} (h : s.data.toList.drop k = c :: r) : ∃ h : k < s.size, s[k] = c ∧ s.data.toList.drop (k + 1) = r := by
  by_cases hk : k < s.size
  · rw [drop_byte s k hk] at h
    simp only [List.cons.injEq] at h
    exact ⟨hk, h.1, h.2⟩
  · rw [List.drop_of_length_le (by simp; omega)] at h; simp at h

theorem exp_forms (s : ByteArray) (k : Nat) (es : Int) (ds : List UInt8) (h : ExpOk (s.data.toList.drop (k + 1)) es ds) :
    ∃ j, j < s.size ∧ s.size ≤ j + 4 ∧ (∀ (q : Nat) (h : q < s.size), j ≤ q → 48 ≤ (s[q].toNat : Int) ∧ (s[q].toNat : Int) ≤ 57) ∧ s.data.toList.drop j = ds ∧
      ((j = k + 1 + 1 ∧ (∃ h : k + 1 < s.size, (s[k + 1].toNat : Int) = 43) ∧ es = 1) ∨ (j = k + 1 + 1 ∧ (∃ h : k + 1 < s.size, (s[k + 1].toNat : Int) = 45) ∧ es = -1) ∨ (j = k + 1 ∧ es = 1)) := by
  have main : ∀ j, s.data.toList.drop j = ds → j < s.size ∧ s.size ≤ j + 4 ∧ (∀ (q : Nat) (h : q < s.size), j ≤ q → 48 ≤ (s[q].toNat : Int) ∧ (s[q].toNat : Int) ≤ 57) ∧ s.data.toList.drop j = ds := by
    intro j hj
    have h1 := h.some
    have h2 := h.len
    rw [← hj] at h1 h2
    have hl : (s.data.toList.drop j).length = s.size - j := by simp
    have hj1 : j < s.size := by
      by_cases hk : j < s.size
      · exact hk
      · rw [List.drop_of_length_le (by simp; omega)] at h1; exact absurd rfl h1
    refine ⟨hj1, by omega, ?_, hj⟩
    intro q hq hjq
    have hm : s[q] ∈ ds := by
      rw [← hj]
      have : s[q] = (s.data.toList.drop j)[q - j]'(by omega) := by
        rw [List.getElem_drop]
        have e : j + (q - j) = q := by omega
        simp only [e]; rfl
      rw [this]; exact List.getElem_mem _
    have := h.dig _ hm
    omega
  rcases h.form with ⟨hf, he⟩ | ⟨hf, he⟩ | ⟨hf, he⟩
  · obtain ⟨h1, h2, h3⟩ := drop_ne hf
    obtain ⟨a, b, c, d⟩ := main _ h3
    exact ⟨_, a, b, c, d, Or.inl ⟨rfl, ⟨h1, by rw [h2]; rfl⟩, he⟩⟩
  · obtain ⟨h1, h2, h3⟩ := drop_ne hf
    obtain ⟨a, b, c, d⟩ := main _ h3
    exact ⟨_, a, b, c, d, Or.inr (Or.inl ⟨rfl, ⟨h1, by rw [h2]; rfl⟩, he⟩)⟩
  · obtain ⟨a, b, c, d⟩ := main _ hf
    exact ⟨_, a, b, c, d, Or.inr (Or.inr ⟨rfl, he⟩)⟩

end Go.Proofs.YtgekdmjneogdoaaGreatDoor
