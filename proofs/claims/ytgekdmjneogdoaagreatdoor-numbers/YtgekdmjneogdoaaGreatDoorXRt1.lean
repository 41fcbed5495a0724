import Derived.Test.YtgekdmjneogdoaaGreatDoorXNear
import Derived.Test.YtgekdmjneogdoaaGreatDoorXNw1
import Derived.Test.YtgekdmjneogdoaaGreatDoorXRn4
import Derived.Test.YtgekdmjneogdoaaGreatDoorXRn5
import Derived.Deep.RegionHeld
namespace Go.Proofs.YtgekdmjneogdoaaGreatDoor
open Go.RowKit

/-! the document's text and told -/
theorem bs_app (a b : List UInt8) : bs a ++ bs b = bs (a ++ b) := by
  apply ByteArray.ext
  simp [bs, ByteArray.data_append]

theorem dec_one {n : Nat} (h : n ≤ 9) : Lib.decDigits n = [UInt8.ofNat (48 + n)] := by rw [Lib.decDigits, dif_pos (by omega)]
theorem dec_step {n : Nat} (h : 9 < n) : Lib.decDigits n = Lib.decDigits (n / 10) ++ [UInt8.ofNat (48 + n % 10)] := by
  conv => lhs; rw [Lib.decDigits, dif_neg (by omega)]

theorem dec_len : ∀ (k n : Nat), n < 10 ^ (k + 1) → (Lib.decDigits n).length ≤ k + 1 := by
  intro k
  induction k with
  | zero => intro n h; rw [dec_one (by omega)]; simp
  | succ k ih =>
    intro n h
    by_cases h9 : n ≤ 9
    · rw [dec_one h9]; simp
    · rw [dec_step (by omega), List.length_append]
      have := ih (n / 10) (by rw [Nat.pow_succ] at h; omega)
      simp; omega

def oneB (x : Int) : UInt8 := UInt8.ofNat x.toNat
theorem oneB_size (x : Int) : (bs [oneB x]).size = 1 := rfl

theorem conv_one (w : World) (x : Int) :
    (convert 135 9 (.slice (some ⟨w.heap.size, 0, none⟩) 1 1)).run Tryz.prog (w.alloc (.cells #[.int .u8 x] 5)) = .ok (.string (bs [oneB x])) (w.alloc (.cells #[.int .u8 x] 5)) := by
  rw [run_convert_bytes_string (w.alloc (.cells #[.int .u8 x] 5)) _ _ 5 _ _ _ Tryz.underlying135 Tryz.underlying5 Tryz.underlying9]
  have h1 := run_loadCells_list (P := Tryz.prog) (w := w.alloc (.cells #[.int .u8 x] 5)) ⟨w.heap.size, 0, none⟩ [.int .u8 x] (by
    intro j v hj
    rw [Addr.add_lit]
    have e := Joins.cell_alloc_mark_at w #[.int .u8 x] 5 (0, 0) w.heap.size (0 + j) rfl
    refine Eq.trans e ?_
    rw [Nat.zero_add]
    simpa using hj)
  exact (run_bytesToString _ _ 1 1 [x] h1).trans rfl

set_option maxRecDepth 20000 in
set_option maxHeartbeats 800000 in
theorem rtext_pos (n : Nat) (w : World) (hn : n < 1000000000000000000) :
    Calls Tryz.prog 203 #[.int .i64 n] w fun e w' => e = .returned (.string (bs (Lib.decDigits n))) ∧ Below w.heap.size w w' := by
  go_enter Tryz.func203, Tryz.ntmps203
  go_wp2_with fail
  go_loopw [0, 3] (fun iv sv wr => ∃ (m : Nat) (s : List UInt8), m ≤ n ∧ s.length ≤ 30 ∧ Hid (Lib.decDigits m ++ s = Lib.decDigits n) ∧ iv = .int .i64 (m : Int) ∧ sv = .string (bs s) ∧ Hid (Below w.heap.size w wr)) (fun iv _ _ => (intOf iv).toNat)
  case atStart => exact ⟨n, [], by omega, by simp, by rw [List.append_nil]; exact hide rfl, rfl, rfl, Below.refl _ _⟩
  case round =>
    obtain ⟨m, s, hm, hs, HT, rfl, rfl, HB⟩ := hrel
    have hbs := bs_size s
    by_cases h9 : 9 < m
    · have HS := hide (dec_step h9)
      have h10 : m % 10 < 10 := Nat.mod_lt _ (by omega)
      have kc := fun (w : World) (x : Int) => conv_one w x
      have ks := fun (x : Int) => oneB_size x
      have HL := hide (dec_len 18 n (by omega))
      go_wp2_with fail
      have e1 : oneB (48 + (m : Int) % 10) = UInt8.ofNat (48 + m % 10) := by
        unfold oneB
        congr 1 <;> omega
      have e2 : Lib.decDigits (m / 10) ++ oneB (48 + (m : Int) % 10) :: s = Lib.decDigits n := by
        rw [← unhide HT, unhide HS, List.append_assoc, e1]
        rfl
      have e3 : (oneB (48 + (m : Int) % 10) :: s).length ≤ 30 := by
        have h1 := unhide HL
        rw [← e2, List.length_append] at h1
        omega
      refine ⟨⟨m / 10, oneB (48 + (m : Int) % 10) :: s, by omega, e3, hide e2, by go_num, congrArg Value.string (bs_app [_] s), (unhide HB).alloc (unhide HB).size _⟩, ?_⟩
      simp [intOf]
      omega
    · have kc := fun (w : World) (x : Int) => conv_one w x
      have ks := fun (x : Int) => oneB_size x
      go_wp2_with fail
      go_ret
      have e1 : oneB (48 + (m : Int)) = UInt8.ofNat (48 + m) := by
        unfold oneB
        congr 1
      refine ⟨congrArg (fun z => Ending.returned (Value.string z)) ?_, (unhide HB).alloc (unhide HB).size _⟩
      rw [bs_app, ← unhide HT, dec_one (by omega), e1]

set_option maxRecDepth 20000 in
set_option maxHeartbeats 800000 in
theorem rtext_any (n : Int) (w : World) (hn1 : -1000000 ≤ n) (hn2 : n < 1000000000000000000) :
    Calls Tryz.prog 203 #[.int .i64 n] w fun e w' => e = .returned (.string (bs (Lib.itoa n))) ∧ Below w.heap.size w w' := by
  by_cases h : n < 0
  · obtain ⟨m, hm⟩ : ∃ m : Nat, n = -(m : Int) := ⟨(-n).toNat, by omega⟩
    subst hm
    have e1 : Lib.itoa (-(m : Int)) = 45 :: Lib.decDigits m := by unfold Lib.itoa; rw [if_pos h, Int.natAbs_neg, Int.natAbs_natCast]
    have h1 : 0 < m := by omega
    have h2 : m ≤ 1000000 := by omega
    have HT := fun u => hide (rtext_pos m u (by omega))
    have hl := dec_len 7 m (by omega)
    have hs : (bs (Lib.decDigits m)).size = (Lib.decDigits m).length := bs_size _
    rw [e1]
    clear h hn1 hn2 e1
    generalize Lib.decDigits m = T at *
    go_enter Tryz.func203, Tryz.ntmps203
    go_wp2_with fail
    refine (unhide (HT _)).mono ?_
    rintro e w1 ⟨rfl, hb⟩
    go_wp2_with fail
    go_ret
    exact ⟨congrArg (fun z => Ending.returned (Value.string z)) (bs_app [45] T), hb⟩
  · obtain ⟨m, rfl⟩ : ∃ m : Nat, n = (m : Int) := ⟨n.toNat, by omega⟩
    have e1 : Lib.itoa (m : Int) = Lib.decDigits m := by unfold Lib.itoa; rw [if_neg h, Int.toNat_natCast]
    rw [e1]
    exact rtext_pos m w (by omega)

/-- a number without noughts behind it, as a short text -/
def toldT (d : Nat) (q : Int) : List UInt8 := (Lib.decDigits d).take 1 ++ (if 1 < (Lib.decDigits d).length then 46 :: (Lib.decDigits d).drop 1 else []) ++ 101 :: Lib.itoa (q + ((Lib.decDigits d).length : Int) - 1)

theorem ten_small {z : Nat} (h : 10 ^ z < 1000000000000000000) : z < 18 := by
  rcases Nat.lt_or_ge z 18 with q | q
  · exact q
  · have : 10 ^ 18 ≤ 10 ^ z := Nat.pow_le_pow_right (by omega) q
    omega

theorem dec_some (n : Nat) : 1 ≤ (Lib.decDigits n).length := by
  by_cases h : n ≤ 9
  · rw [dec_one h]; simp
  · rw [dec_step (by omega)]; simp

theorem itoa_len (q : Int) (h1 : -100000 ≤ q) (h2 : q ≤ 100000) : (Lib.itoa q).length ≤ 10 := by
  unfold Lib.itoa
  by_cases h : q < 0
  · rw [if_pos h, List.length_cons]
    have := dec_len 6 q.natAbs (by omega)
    omega
  · rw [if_neg h]
    have := dec_len 6 q.toNat (by omega)
    omega

theorem ext_one (l : List UInt8) : (bs l).extract 0 1 = bs (l.take 1) := by
  apply ByteArray.ext
  simp [bs, ByteArray.data_extract]
theorem ext_rest (l : List UInt8) : (bs l).extract 1 l.length = bs l.tail := by
  apply ByteArray.ext
  simp [bs, ByteArray.data_extract]
  rw [List.take_of_length_le (by simp)]

set_option maxRecDepth 20000 in
set_option maxHeartbeats 800000 in
theorem told_any (d : Nat) (p : Int) (w : World) (hd1 : 1 ≤ d) (hd : d < 1000000000000000000) (h1 : -1000 ≤ p) (h2 : p ≤ 1000) :
    Calls Tryz.prog 159 #[.int .i64 d, .int .i64 p] w fun e w' => ∃ m z : Nat, d = m * 10 ^ z ∧ m % 10 ≠ 0 ∧ e = .returned (.string (bs (toldT m (p + z)))) ∧ Below w.heap.size w w' := by
  have TX := hide rtext_any
  go_enter Tryz.func159, Tryz.ntmps159
  go_wp2_with fail
  go_loopw [0, 1] (fun dv pv wr => ∃ (m z : Nat), 1 ≤ m ∧ Hid (d = m * 10 ^ z) ∧ dv = .int .i64 (m : Int) ∧ pv = .int .i64 (p + (z : Int)) ∧ wr = w) (fun dv _ _ => (intOf dv).toNat)
  case atStart => exact ⟨d, 0, hd1, by rw [Nat.pow_zero, Nat.mul_one]; exact hide rfl, rfl, by simp, rfl⟩
  case round =>
    obtain ⟨m, z, hm1, HD, rfl, rfl, hw⟩ := hrel
    rw [hw]
    clear hw
    have hz : z < 18 := ten_small (by
      have := unhide HD
      have h3 : 1 * 10 ^ z ≤ m * 10 ^ z := Nat.mul_le_mul_right _ hm1
      omega)
    have hmd : m ≤ d := by
      have := unhide HD
      have h3 : m * 1 ≤ m * 10 ^ z := Nat.mul_le_mul_left _ (Nat.pow_pos (by omega))
      omega
    by_cases h0 : m % 10 = 0
    · have HD2 : Hid (d = m / 10 * 10 ^ (z + 1)) := by
        have := unhide HD
        have e : m = m / 10 * 10 := by omega
        rw [Nat.pow_succ, Nat.mul_comm (10 ^ z) 10, ← Nat.mul_assoc, ← e]
        exact this
      have hb0 : (((m : Int) % 10) == 0) = true := by rw [beq_iff_eq]; omega
      go_wp2_with fail
      refine ⟨⟨m / 10, z + 1, by omega, HD2, by go_num, by go_num, by first | rfl | trivial⟩, ?_⟩
      simp [intOf]
      omega
    · have hb0 : (((m : Int) % 10) == 0) = false := by rw [beq_eq_false_iff_ne]; omega
      have hl1 := dec_some m
      have hl2 := dec_len 18 m (by omega)
      have hi := itoa_len (p + z + ((Lib.decDigits m).length : Int) - 1) (by omega) (by omega)
      have it : Lib.itoa (m : Int) = Lib.decDigits m := by unfold Lib.itoa; rw [if_neg (by omega), Int.toNat_natCast]
      have T1 := hide (rtext_any (m : Int) w (by omega) (by omega))
      have T2 := fun u => hide (rtext_any (p + z + ((Lib.decDigits m).length : Int) - 1) u (by omega) (by omega))
      have HT : Hid (toldT m (p + z) = (Lib.decDigits m).take 1 ++ (if 1 < (Lib.decDigits m).length then 46 :: (Lib.decDigits m).drop 1 else []) ++ 101 :: Lib.itoa (p + z + ((Lib.decDigits m).length : Int) - 1)) := rfl
      rw [it] at T1
      clear it TX
      generalize Lib.decDigits m = D at *
      generalize Lib.itoa (p + z + (D.length : Int) - 1) = I at *
      have s1 := bs_size D
      have s2 := bs_size I
      have s3 := bs_size (D.take 1)
      have s4 := bs_size D.tail
      rw [List.length_take] at s3
      rw [List.length_tail] at s4
      have hcat : ¬ 9223372036854775807 < 2 + (D.length - 1) := by omega
      go_wp2_with fail
      refine (unhide T1).mono ?_
      rintro e w1 ⟨rfl, hb1⟩
      have B1 := hide hb1
      clear hb1
      by_cases hlen : 1 < D.length
      · have x1 := ext_one D
        have x2 := ext_rest D
        have hmin : min 1 D.length = 1 := by omega
        have q1 : 1 ≤ D.length := by omega
        have q2 : (1 : Int) ≤ (D.length : Int) := by omega
        have q3 : ¬ D.length < 1 := by omega
        have q5 : ¬ D = [] := by intro h; rw [h] at hlen; simp at hlen
        have q6 : 0 < D.length := by omega
        have q7 : (1 : Int) ≤ ((bs D).size : Int) := by rw [s1]; omega
        go_wp2_with fail
        go_quiet (fail)
        go_wp2_with fail
        have B2 : Hid (Below w.heap.size w (w1.drewN nq)) := below_dn (unhide B1)
        refine (unhide (T2 _)).mono ?_
        rintro e w2 ⟨rfl, hb2⟩
        go_wp2_with fail
        go_ret
        refine ⟨m, z, unhide HD, h0, ?_, (unhide B2).trans (hb2.mono (unhide B2).size)⟩
        rw [unhide HT, if_pos hlen]
        refine congrArg (fun z => Ending.returned (Value.string z)) ?_
        have c1 : bs (List.take 1 D) ++ ByteArray.mk #[46] ++ bs D.tail = bs (List.take 1 D ++ 46 :: D.tail) := by
          refine Eq.trans (congrArg (fun z => z ++ bs D.tail) (bs_app (List.take 1 D) [46])) ?_
          rw [bs_app, List.append_assoc]
          rfl
        rw [c1]
        refine Eq.trans (congrArg (fun z => z ++ bs I) (bs_app (List.take 1 D ++ 46 :: D.tail) [101])) ?_
        rw [bs_app, List.drop_one, List.append_assoc (List.take 1 D ++ 46 :: D.tail)]
        rfl
      · go_wp2_with fail
        refine (unhide (T2 w1)).mono ?_
        rintro e w2 ⟨rfl, hb2⟩
        go_wp2_with fail
        go_ret
        refine ⟨m, z, unhide HD, h0, ?_, (unhide B1).trans (hb2.mono (unhide B1).size)⟩
        rw [unhide HT, if_neg hlen, List.append_nil, List.take_of_length_le (by omega)]
        refine congrArg (fun z => Ending.returned (Value.string z)) ?_
        refine Eq.trans (congrArg (fun z => z ++ bs I) (bs_app D [101])) ?_
        rw [bs_app, List.append_assoc]
        rfl
end Go.Proofs.YtgekdmjneogdoaaGreatDoor

namespace Go.Proofs.YtgekdmjneogdoaaGreatDoor
open Go.RowKit

/-! fractions that lie in memory -/
structure FrA (w : World) (b : Nat) (vn vm : Value) (N M : Nat) : Prop where
  row : w.heap[b]? = some (Obj.cells #[vn, vm] 218)
  rn : Rd w vn (digs N)
  rm : Rd w vm (digs M)
  lt : b < w.heap.size

theorem FrA.c0 {w : World} {b : Nat} {vn vm : Value} {N M : Nat} (h : FrA w b vn vm N M) : w.cell? ⟨b, 0, none⟩ = some vn := by
  rw [Go.cell_of_row w b 0 _ _ _ h.row]; rfl
theorem FrA.c1 {w : World} {b : Nat} {vn vm : Value} {N M : Nat} (h : FrA w b vn vm N M) : w.cell? ⟨b, 1, none⟩ = some vm := by
  rw [Go.cell_of_row w b 1 _ _ _ h.row]; rfl
theorem FrA.below {w w' : World} {b : Nat} {vn vm : Value} {N M : Nat} (h : FrA w b vn vm N M) (hb : Below w.heap.size w w') : FrA w' b vn vm N M :=
  ⟨(hb.block b h.lt).trans h.row, h.rn.below (Nat.le_refl _) hb, h.rm.below (Nat.le_refl _) hb, Nat.lt_of_lt_of_le h.lt hb.size⟩
theorem FrA.make {w : World} {vn vm : Value} {N M : Nat} (h1 : Rd w vn (digs N)) (h2 : Rd w vm (digs M)) : FrA (w.alloc (Obj.cells #[vn, vm] 218)) w.heap.size vn vm N M := by
  have hb : Below w.heap.size w (w.alloc (Obj.cells #[vn, vm] 218)) := (Below.refl _ _).alloc (Nat.le_refl _) _
  exact ⟨heap_alloc_new w _, h1.below (Nat.le_refl _) hb, h2.below (Nat.le_refl _) hb, by simp⟩

theorem below_up {w a b : World} (h1 : Below w.heap.size w a) (h2 : Below a.heap.size a b) : Below w.heap.size w b := h1.trans (h2.mono h1.size)
theorem below_new {w : World} (o : Obj) : Below w.heap.size w (w.alloc o) := (Below.refl _ _).alloc (Nat.le_refl _) _

theorem FrA.set {w : World} {U N M N' M' : Nat} {a a1 a2 : Option Addr} {n c n1 c1 n2 c2 : Nat} {um : Value} (h : FrA w U (.slice a n c) um N M) (h1 : Rd w (.slice a1 n1 c1) (digs N')) (h2 : Rd w (.slice a2 n2 c2) (digs M')) :
    FrA ((w.setCell ⟨U, 0, none⟩ (.slice a1 n1 c1)).setCell ⟨U, 1, none⟩ (.slice a2 n2 c2)) U (.slice a1 n1 c1) (.slice a2 n2 c2) N' M' := by
  have hc := h.c0
  have hc' : (w.setCell ⟨U, 0, none⟩ (.slice a1 n1 c1)).cell? ⟨U, 0, none⟩ = some (.slice a1 n1 c1) := by rw [Go.cell_of_row _ U 0 _ _ _ (heap_setCell_same _ _ _ _ _ _ h.row)]; rfl
  refine ⟨?_, rd_set (rd_set h1 hc 0 _) hc' 1 _, rd_set (rd_set h2 hc 0 _) hc' 1 _, by simpa using h.lt⟩
  rw [heap_setCell_same _ _ _ _ _ _ (heap_setCell_same _ _ _ _ _ _ h.row)]; rfl

theorem FrA.other {w : World} {U X N M N' M' : Nat} {a : Option Addr} {n c : Nat} {um xn xm : Value} (hX : FrA w X xn xm N' M') (h : FrA w U (.slice a n c) um N M) (hne : X ≠ U) (a1 a2 : Option Addr) (n1 c1 n2 c2 : Nat) :
    FrA ((w.setCell ⟨U, 0, none⟩ (.slice a1 n1 c1)).setCell ⟨U, 1, none⟩ (.slice a2 n2 c2)) X xn xm N' M' := by
  have hc := h.c0
  have hc' : (w.setCell ⟨U, 0, none⟩ (.slice a1 n1 c1)).cell? ⟨U, 0, none⟩ = some (.slice a1 n1 c1) := by rw [Go.cell_of_row _ U 0 _ _ _ (heap_setCell_same _ _ _ _ _ _ h.row)]; rfl
  refine ⟨?_, rd_set (rd_set hX.rn hc 0 _) hc' 1 _, rd_set (rd_set hX.rm hc 0 _) hc' 1 _, by simpa using hX.lt⟩
  rw [heap_setCell_other _ ⟨U, 1, none⟩ X _ hne, heap_setCell_other _ ⟨U, 0, none⟩ X _ hne]
  exact hX.row

theorem mid_prev (v : Nat) (hv : 1 ≤ v) : Mid (v - 1) = if fpM v = 4503599627370496 ∧ 1 < v / 4503599627370496 then 18014398509481983 * 2 ^ (fpE v - 1) else (2 * fpM v - 1) * 2 ^ fpE v := by
  rcases fp_cases v with h | ⟨m, e, h1, h2, rfl⟩
  · rw [if_neg (by omega), fpM_sub h, fpE_sub h, mid_sub (by omega), Nat.pow_zero] <;> omega
  · have ed : (m - 4503599627370496 + (e + 1) * 4503599627370496) / 4503599627370496 = e + 1 := by omega
    rw [fpM_bits h1 h2, fpE_bits h1 h2, ed]
    by_cases hm : m = 4503599627370496
    · cases e with
      | zero =>
        rw [if_neg (by omega), mid_sub (by omega), hm, Nat.pow_zero] <;> omega
      | succ e =>
        have ev : m - 4503599627370496 + (e + 1 + 1) * 4503599627370496 - 1 = 9007199254740991 - 4503599627370496 + (e + 1) * 4503599627370496 := by omega
        rw [if_pos ⟨hm, by omega⟩, ev, mid_bits (by omega) (by omega), Nat.add_sub_cancel]
    · have ev : m - 4503599627370496 + (e + 1) * 4503599627370496 - 1 = (m - 1) - 4503599627370496 + (e + 1) * 4503599627370496 := by omega
      rw [if_neg (by omega), ev, mid_bits (by omega) (by omega), show 2 * (m - 1) + 1 = 2 * m - 1 by omega]

theorem lims2 {d N M A B m : Nat} {p k : Int} (hd : d < 10 ^ 50) (p1 : -400 ≤ p) (p2 : p ≤ 400) (hm : m < 18446744073709551616) (k1 : -1100 ≤ k) (k2 : k ≤ 1100) (eN : N = d * 10 ^ p.toNat) (eM : M = 10 ^ (-p).toNat) (eA : bnum m k = A) (eB : bden k = B) :
    Lim (N * B) ∧ Lim (A * M) ∧ Lim N ∧ Lim M ∧ Lim A ∧ Lim B := by
  subst eN eM eA eB
  exact lims_of (fun j hj => lim_dec hd (by omega) (by omega)) (fun m j hm hj => lim_mul hm (by omega) (by omega)) m k hm k1 k2

/-- what gives answers -/
def GivP (d : Nat) (p : Int) (v : Nat) (e : Ending) : Prop := ∃ r : Bool, e = .returned (.bool r) ∧ (r = true ↔ NearV (d * 10 ^ p.toNat) (10 ^ (-p).toNat) v)

theorem givP_no {d N M v : Nat} {p : Int} (eN : N = d * 10 ^ p.toNat) (eM : M = 10 ^ (-p).toNat) (h : ¬ NearV N M v) : GivP d p v (.returned (.bool false)) := by
  subst eN eM
  exact ⟨false, rfl, ⟨fun q => (by cases q), fun q => absurd q h⟩⟩
theorem givP_yes {d N M v : Nat} {p : Int} (eN : N = d * 10 ^ p.toNat) (eM : M = 10 ^ (-p).toNat) (h : NearV N M v) : GivP d p v (.returned (.bool true)) := by
  subst eN eM
  exact ⟨true, rfl, ⟨fun _ => h, fun _ => rfl⟩⟩
theorem giv_no1 {N M v : Nat} (hv0 : 1 ≤ v) (h : N * tw < Mid (v - 1) * M) : ¬ NearV N M v := fun q => by
  rcases q.lo (by omega) with a | ⟨a, _⟩ <;> omega
theorem giv_no2 {N M v : Nat} (hv : v < 9218868437227405312) (h : Mid v * M < N * tw) : ¬ NearV N M v := fun q => by
  rcases q.hi (by omega) with a | ⟨a, _⟩ <;> omega
theorem giv_even {N M v : Nat} (hv : v < 9218868437227405312) (h1 : ¬ N * tw < Mid (v - 1) * M) (h2 : ¬ Mid v * M < N * tw) (he : v % 2 = 0) : NearV N M v :=
  ⟨by omega, fun _ => by
    by_cases q : Mid (v - 1) * M < N * tw
    · exact Or.inl q
    · exact Or.inr ⟨by omega, he⟩, fun _ => by
    by_cases q : N * tw < Mid v * M
    · exact Or.inl q
    · exact Or.inr ⟨by omega, he⟩⟩
theorem giv_odd {N M v : Nat} (hv0 : 1 ≤ v) (hv : v < 9218868437227405312) (he : ¬ v % 2 = 0) : (Mid (v - 1) * M < N * tw ∧ N * tw < Mid v * M) ↔ NearV N M v := by
  constructor
  · rintro ⟨a, b⟩
    exact ⟨by omega, fun _ => Or.inl a, fun _ => Or.inl b⟩
  · intro q
    refine ⟨?_, ?_⟩
    · rcases q.lo (by omega) with a | ⟨_, a⟩
      · exact a
      · exact absurd a he
    · rcases q.hi (by omega) with a | ⟨_, a⟩
      · exact a
      · exact absurd a he

set_option maxRecDepth 20000 in
set_option maxHeartbeats 1600000 in
theorem gives_any (d : Nat) (p : Int) (v : Nat) (w : World) (hd : d < 1000000000000000000) (h1 : -400 ≤ p) (h2 : p ≤ 400) (hv0 : 1 ≤ v) (hv : v < 9218868437227405312) :
    Calls Tryz.prog 158 #[.int .i64 d, .int .i64 p, .int .u64 v] w fun e w' => GivP d p v e ∧ Below w.heap.size w w' := by
  have OF := hide of_rd
  have DC := hide ref_near
  have BI := hide ref_binary
  have BE := hide ref_below
  have PA := hide parts_rd
  have hpm := pm_lt v
  have hpk := pk_le v hv
  go_enter Tryz.func158, Tryz.ntmps158
  go_wp2_with fail
  refine (unhide OF d w (by omega)).mono ?_
  rintro e w1 ⟨v1, rfl, r1, hb1⟩
  have B1 := hide hb1
  have R1 := hide r1
  clear hb1 r1
  go_wp2_with fail
  refine (unhide DC v1 d p w1 (unhide R1) (by have : (10 : Nat) ^ 50 = 100000000000000000000000000000000000000000000000000 := by decide
                                              omega) h1 h2).mono ?_
  rintro e w2 ⟨xn, xm, N, M, rfl, r1, r2, hb2, eN, eM⟩
  have XN := hide r1
  have XM := hide r2
  have B2 := hide (below_up (unhide B1) hb2)
  have EN := hide eN
  have EM := hide eM
  obtain ⟨o1, c1, rfl, _⟩ := r1
  obtain ⟨o2, c2, rfl, _⟩ := r2
  rename_i q1 q2
  clear q1 q2 hb2 eN eM R1 B1
  have FX := hide (FrA.make (unhide XN) (unhide XM))
  have B3 := hide (below_up (unhide B2) (below_new (Obj.cells #[.slice o1 (digs N).length c1, .slice o2 (digs M).length c2] 218)))
  go_upto_region 2 with fail
  generalize hw3 : w2.alloc (Obj.cells #[.slice o1 (digs N).length c1, .slice o2 (digs M).length c2] 218) = w3 at *
  generalize hX : w2.heap.size = X at *
  generalize Value.slice o1 (digs N).length c1 = xn at *
  generalize Value.slice o2 (digs M).length c2 = xm at *
  clear hw3 hX XN XM B2
  go_wp2_with fail
  refine (unhide PA v _ hv).mono ?_
  rintro e w4 ⟨rfl, hw⟩
  rw [hw]
  clear hw
  have hm1 : 1 ≤ pm v := by rw [pm_fp]; unfold fpM; split <;> omega
  generalize hmv : pm v = mm at *
  generalize hkv : pk v = kk at *
  have hmv2 := hide hmv
  have hkv2 := hide hkv
  clear hmv hkv
  go_wp2_with fail
  rw [show (2 * (mm : Int) + 1) = ((2 * mm + 1 : Nat) : Int) by omega]
  refine (unhide BI (2 * mm + 1) (kk - 1) _ (by omega) (by omega) (by omega)).mono ?_
  rintro e w5 ⟨on, om, rfl, r1, r2, hb5⟩
  have ON := hide r1
  have OM := hide r2
  have FX5 := hide ((unhide FX).below hb5)
  have B5 := hide (below_up (unhide B3) hb5)
  obtain ⟨o1, c1, rfl, _⟩ := r1
  obtain ⟨o2, c2, rfl, _⟩ := r2
  rename_i q1 q2
  clear q1 q2 hb5 FX B3
  generalize hAO : bnum (2 * mm + 1) (kk - 1) = AO at *
  generalize hBO : bden (kk - 1) = BO at *
  have EAO := hide hAO
  have EBO := hide hBO
  clear hAO hBO
  have FO := hide (FrA.make (unhide ON) (unhide OM))
  have nb := below_new (w := w5) (Obj.cells #[.slice o1 (digs AO).length c1, .slice o2 (digs BO).length c2] 218)
  have FX6 := hide ((unhide FX5).below nb)
  have B6 := hide (below_up (unhide B5) nb)
  clear nb
  go_upto_region 4 with fail
  generalize hw6 : w5.alloc (Obj.cells #[.slice o1 (digs AO).length c1, .slice o2 (digs BO).length c2] 218) = w6 at *
  generalize hO : w5.heap.size = O at *
  generalize Value.slice o1 (digs AO).length c1 = on at *
  generalize Value.slice o2 (digs BO).length c2 = om at *
  clear hw6 hO ON OM B5 FX5
  go_wp2_with fail
  rw [show (2 * (mm : Int) - 1) = ((2 * mm - 1 : Nat) : Int) by omega]
  refine (unhide BI (2 * mm - 1) (kk - 1) _ (by omega) (by omega) (by omega)).mono ?_
  rintro e w7 ⟨un, um, rfl, r1, r2, hb7⟩
  rw [unhide EBO] at r2
  have UN := hide r1
  have UM := hide r2
  have FX7 := hide ((unhide FX6).below hb7)
  have FO7 := hide ((unhide FO).below hb7)
  have B7 := hide (below_up (unhide B6) hb7)
  obtain ⟨o1, c1, rfl, _⟩ := r1
  obtain ⟨o2, c2, rfl, _⟩ := r2
  rename_i q1 q2
  clear q1 q2 hb7 FX6 FO B6
  generalize hAU : bnum (2 * mm - 1) (kk - 1) = AU at *
  have EAU := hide hAU
  clear hAU
  have FU := hide (FrA.make (unhide UN) (unhide UM))
  have nb := below_new (w := w7) (Obj.cells #[.slice o1 (digs AU).length c1, .slice o2 (digs BO).length c2] 218)
  have FX8 := hide ((unhide FX7).below nb)
  have FO8 := hide ((unhide FO7).below nb)
  have B8 := hide (below_up (unhide B7) nb)
  have hU : Hid (X ≠ w7.heap.size ∧ O ≠ w7.heap.size ∧ w.heap.size ≤ w7.heap.size) := ⟨Nat.ne_of_lt (unhide FX7).lt, Nat.ne_of_lt (unhide FO7).lt, (unhide B7).size⟩
  clear nb
  go_upto_region 5 with fail
  generalize hw8 : w7.alloc (Obj.cells #[.slice o1 (digs AU).length c1, .slice o2 (digs BO).length c2] 218) = w8 at *
  generalize hUU : w7.heap.size = U at *
  clear hw8 hUU UN UM B7 FX7 FO7
  have hd50 : d < 10 ^ 50 := by
    have h50 : (10 : Nat) ^ 50 = 100000000000000000000000000000000000000000000000000 := by decide
    omega
  have LO := hide (lims2 (m := 2 * mm + 1) (k := kk - 1) hd50 h1 h2 (by omega) (by omega) (by omega) (unhide EN) (unhide EM) (unhide EAO) (unhide EBO))
  have kf : kk = (fpE v : Int) - 1074 := by rw [← unhide hkv2]; exact pk_fp v
  have mf : mm = fpM v := by rw [← unhide hmv2]; exact pm_fp v
  have CO : Hid ((N * BO < AO * M ↔ N * tw < Mid v * M) ∧ (AO * M < N * BO ↔ Mid v * M < N * tw)) := by
    have h := cmp_b (2 * mm + 1) (fpE v) N M (kk - 1) (by omega)
    rw [unhide EAO, unhide EBO, mf] at h
    exact h
  have KF := hide kf
  have MF := hide mf
  clear kf mf hd50
  by_cases hc : mm = 4503599627370496 ∧ 1 < v / 4503599627370496
  · obtain ⟨hc1, hc2⟩ := hc
    have hc3 : ((mm : Int) == 4503599627370496) = true := by rw [beq_iff_eq]; omega
    have u0 := (unhide FU).c0
    have u1 := (unhide FU).c1
    go_wp2_with fail
    refine (unhide BI 18014398509481983 (kk - 2) _ (by omega) (by omega) (by omega)).mono ?_
    rintro e w9 ⟨un, um, rfl, r1, r2, hb9⟩
    have VN := hide r1
    have VM := hide r2
    have FX9 := hide ((unhide FX8).below hb9)
    have FO9 := hide ((unhide FO8).below hb9)
    have FU9 := hide ((unhide FU).below hb9)
    have B9 := hide (below_up (unhide B8) hb9)
    clear u0 u1
    have u0 := (unhide FU9).c0
    have u1 := (unhide FU9).c1
    have z0 := frozen_of_row w9 U 0 _ _ (unhide FU9).row
    have z1 := frozen_of_row w9 U 1 _ _ (unhide FU9).row
    obtain ⟨p1, d1, rfl, _⟩ := r1
    obtain ⟨p2, d2, rfl, _⟩ := r2
    rename_i q1 q2
    clear q1 q2 hb9 FX8 FO8 B8 FU
    have hd50 : d < 10 ^ 50 := by
      have h50 : (10 : Nat) ^ 50 = 100000000000000000000000000000000000000000000000000 := by decide
      omega
    generalize hA2 : bnum 18014398509481983 (kk - 2) = A2 at *
    generalize hB2 : bden (kk - 2) = D2 at *
    have LU := hide (lims2 hd50 h1 h2 (by omega) (by omega) (by omega) (unhide EN) (unhide EM) hA2 hB2)
    have CU : Hid ((N * D2 < A2 * M ↔ N * tw < Mid (v - 1) * M) ∧ (A2 * M < N * D2 ↔ Mid (v - 1) * M < N * tw)) := by
      have kf := unhide KF
      have hE : fpE v = v / 4503599627370496 - 1 := rfl
      have h := cmp_b 18014398509481983 (fpE v - 1) N M (kk - 2) (by omega)
      rw [hA2, hB2] at h
      rw [mid_prev v hv0, if_pos ⟨by rw [← unhide MF]; exact hc1, hc2⟩]
      exact h
    clear hA2 hB2 hd50
    have GU := hide ((unhide FU9).set (unhide VN) (unhide VM))
    have GX := hide ((unhide FX9).other (unhide FU9) (unhide hU).1 p1 p2 (digs A2).length d1 (digs D2).length d2)
    have GO := hide ((unhide FO9).other (unhide FU9) (unhide hU).2.1 p1 p2 (digs A2).length d1 (digs D2).length d2)
    have GB := hide (((unhide B9).setCell (p := ⟨U, 0, none⟩) (unhide hU).2.2 (.slice p1 (digs A2).length d1)).setCell (p := ⟨U, 1, none⟩) (unhide hU).2.2 (.slice p2 (digs D2).length d2))
    go_upto_region 7 with fail
    generalize (w9.setCell ⟨U, 0, none⟩ (.slice p1 (digs A2).length d1)).setCell ⟨U, 1, none⟩ (.slice p2 (digs D2).length d2) = w10 at *
    clear FU9 FX9 FO9 B9 VN VM u0 u1 z0 z1
    have GX0 := GX
    have GO0 := GO
    have GU0 := GU
    have HB0 := GB
    clear GX GO GU GB
    have qia := (unhide GX0).c0
    have qib := (unhide GX0).c1
    have qic := (unhide GO0).c0
    have qid := (unhide GO0).c1
    have qie := (unhide GU0).c0
    have qif := (unhide GU0).c1
    go_wp2_with fail
    refine (unhide BE _ _ _ _ N M A2 D2 _ (unhide GX0).rn (unhide GX0).rm (unhide GU0).rn (unhide GU0).rm (unhide LU).1 (unhide LU).2.2.1 (unhide LU).2.2.2.1 (unhide LU).2.2.2.2.1 (unhide LU).2.2.2.2.2).mono ?_
    rintro e wa ⟨rfl, hba⟩
    have GX1 := hide ((unhide GX0).below hba)
    have GO1 := hide ((unhide GO0).below hba)
    have GU1 := hide ((unhide GU0).below hba)
    have HB1 := hide (below_up (unhide HB0) hba)
    clear hba GX0 GO0 GU0 HB0
    clear qia qib qic qid qie qif
    have qja := (unhide GX1).c0
    have qjb := (unhide GX1).c1
    have qjc := (unhide GO1).c0
    have qjd := (unhide GO1).c1
    have qje := (unhide GU1).c0
    have qjf := (unhide GU1).c1
    go_wp2_with fail
    refine (unhide BE _ _ _ _ AO BO N M _ (unhide GO1).rn (unhide GO1).rm (unhide GX1).rn (unhide GX1).rm (unhide LO).2.1 (unhide LO).2.2.2.2.1 (unhide LO).2.2.2.2.2 (unhide LO).2.2.1 (unhide LO).2.2.2.1).mono ?_
    rintro e wb ⟨rfl, hbb⟩
    have GX2 := hide ((unhide GX1).below hbb)
    have GO2 := hide ((unhide GO1).below hbb)
    have GU2 := hide ((unhide GU1).below hbb)
    have HB2 := hide (below_up (unhide HB1) hbb)
    clear hbb GX1 GO1 GU1 HB1
    clear qja qjb qjc qjd qje qjf
    by_cases a1 : N * D2 < A2 * M
    · rw [decide_eq_true a1]
      have R : Hid (GivP d p v (.returned (.bool false))) := givP_no (unhide EN) (unhide EM) (giv_no1 hv0 ((unhide CU).1.1 a1))
      clear a1
      generalize decide (AO * M < N * BO) = bb
      cases bb
      · go_wp2_with fail
        go_ret
        exact ⟨unhide R, unhide HB2⟩
      · go_wp2_with fail
        go_ret
        exact ⟨unhide R, unhide HB2⟩
    · rw [decide_eq_false a1]
      by_cases b1 : AO * M < N * BO
      · rw [decide_eq_true b1]
        have R : Hid (GivP d p v (.returned (.bool false))) := givP_no (unhide EN) (unhide EM) (giv_no2 hv ((unhide CO).2.1 b1))
        clear a1 b1
        go_wp2_with fail
        go_ret
        exact ⟨unhide R, unhide HB2⟩
      · rw [decide_eq_false b1]
        have c1 : ¬ N * tw < Mid (v - 1) * M := fun h => a1 ((unhide CU).1.2 h)
        have c2 : ¬ Mid v * M < N * tw := fun h => b1 ((unhide CO).2.2 h)
        have C1 := hide c1
        have C2 := hide c2
        clear a1 b1 c1 c2
        by_cases hev : v % 2 = 0
        · have R : Hid (GivP d p v (.returned (.bool true))) := givP_yes (unhide EN) (unhide EM) (giv_even hv (unhide C1) (unhide C2) hev)
          have hev2 : (v : Int) % 2 = 0 := by omega
          go_wp2_with fail
          go_ret
          exact ⟨unhide R, unhide HB2⟩
        · have hev2 : ¬ (v : Int) % 2 = 0 := by omega
          have hev3 : (((v : Int) % 2) == 0) = false := by rw [beq_eq_false_iff_ne]; omega
          have qka := (unhide GX2).c0
          have qkb := (unhide GX2).c1
          have qkc := (unhide GO2).c0
          have qkd := (unhide GO2).c1
          have qke := (unhide GU2).c0
          have qkf := (unhide GU2).c1
          go_wp2_with fail
          refine (unhide BE _ _ _ _ A2 D2 N M _ (unhide GU2).rn (unhide GU2).rm (unhide GX2).rn (unhide GX2).rm (unhide LU).2.1 (unhide LU).2.2.2.2.1 (unhide LU).2.2.2.2.2 (unhide LU).2.2.1 (unhide LU).2.2.2.1).mono ?_
          rintro e wc ⟨rfl, hbc⟩
          have GX3 := hide ((unhide GX2).below hbc)
          have GO3 := hide ((unhide GO2).below hbc)
          have GU3 := hide ((unhide GU2).below hbc)
          have HB3 := hide (below_up (unhide HB2) hbc)
          clear hbc GX2 GO2 GU2 HB2
          clear qka qkb qkc qkd qke qkf
          have qla := (unhide GX3).c0
          have qlb := (unhide GX3).c1
          have qlc := (unhide GO3).c0
          have qld := (unhide GO3).c1
          have qle := (unhide GU3).c0
          have qlf := (unhide GU3).c1
          go_wp2_with fail
          refine (unhide BE _ _ _ _ N M AO BO _ (unhide GX3).rn (unhide GX3).rm (unhide GO3).rn (unhide GO3).rm (unhide LO).1 (unhide LO).2.2.1 (unhide LO).2.2.2.1 (unhide LO).2.2.2.2.1 (unhide LO).2.2.2.2.2).mono ?_
          rintro e wd ⟨rfl, hbd⟩
          have HB4 := hide (below_up (unhide HB3) hbd)
          clear hbd HB3
          have R : Hid (GivP d p v (.returned (.bool (decide (A2 * M < N * D2) && decide (N * BO < AO * M))))) := by
            refine ⟨_, rfl, ?_⟩
            rw [← unhide EN, ← unhide EM, ← giv_odd hv0 hv hev, Bool.and_eq_true, decide_eq_true_eq, decide_eq_true_eq, (unhide CU).2, (unhide CO).1]
          generalize decide (A2 * M < N * D2) = b1 at *
          generalize decide (N * BO < AO * M) = b2 at *
          cases b1 <;> cases b2
          all_goals
            go_wp2_with fail
            go_ret
            exact ⟨unhide R, unhide HB4⟩
  · by_cases hm52 : mm = 4503599627370496
    · have hv52 : ¬ 1 < v / 4503599627370496 := fun h => hc ⟨hm52, h⟩
      have hc3 : ((mm : Int) == 4503599627370496) = true := by rw [beq_iff_eq]; omega
      have hv53 : ¬ (1 : Int) < (v : Int) / 4503599627370496 := by omega
      have hd50 : d < 10 ^ 50 := by
        have h50 : (10 : Nat) ^ 50 = 100000000000000000000000000000000000000000000000000 := by decide
        omega
      have LU := hide (lims2 (m := 2 * mm - 1) (k := kk - 1) hd50 h1 h2 (by omega) (by omega) (by omega) (unhide EN) (unhide EM) (unhide EAU) (unhide EBO))
      have CU : Hid ((N * BO < AU * M ↔ N * tw < Mid (v - 1) * M) ∧ (AU * M < N * BO ↔ Mid (v - 1) * M < N * tw)) := by
        have kf := unhide KF
        have h := cmp_b (2 * mm - 1) (fpE v) N M (kk - 1) (by omega)
        rw [unhide EAU, unhide EBO] at h
        rw [mid_prev v hv0, if_neg (by rw [← unhide MF]; exact hc), ← unhide MF]
        exact h
      clear hd50
      clear hc
      have GX0 := FX8
      have GO0 := FO8
      have GU0 := FU
      have HB0 := B8
      clear FX8 FO8 FU B8
      have qia := (unhide GX0).c0
      have qib := (unhide GX0).c1
      have qic := (unhide GO0).c0
      have qid := (unhide GO0).c1
      have qie := (unhide GU0).c0
      have qif := (unhide GU0).c1
      go_wp2_with fail
      refine (unhide BE _ _ _ _ N M AU BO _ (unhide GX0).rn (unhide GX0).rm (unhide GU0).rn (unhide GU0).rm (unhide LU).1 (unhide LU).2.2.1 (unhide LU).2.2.2.1 (unhide LU).2.2.2.2.1 (unhide LU).2.2.2.2.2).mono ?_
      rintro e wa ⟨rfl, hba⟩
      have GX1 := hide ((unhide GX0).below hba)
      have GO1 := hide ((unhide GO0).below hba)
      have GU1 := hide ((unhide GU0).below hba)
      have HB1 := hide (below_up (unhide HB0) hba)
      clear hba GX0 GO0 GU0 HB0
      clear qia qib qic qid qie qif
      have qja := (unhide GX1).c0
      have qjb := (unhide GX1).c1
      have qjc := (unhide GO1).c0
      have qjd := (unhide GO1).c1
      have qje := (unhide GU1).c0
      have qjf := (unhide GU1).c1
      go_wp2_with fail
      refine (unhide BE _ _ _ _ AO BO N M _ (unhide GO1).rn (unhide GO1).rm (unhide GX1).rn (unhide GX1).rm (unhide LO).2.1 (unhide LO).2.2.2.2.1 (unhide LO).2.2.2.2.2 (unhide LO).2.2.1 (unhide LO).2.2.2.1).mono ?_
      rintro e wb ⟨rfl, hbb⟩
      have GX2 := hide ((unhide GX1).below hbb)
      have GO2 := hide ((unhide GO1).below hbb)
      have GU2 := hide ((unhide GU1).below hbb)
      have HB2 := hide (below_up (unhide HB1) hbb)
      clear hbb GX1 GO1 GU1 HB1
      clear qja qjb qjc qjd qje qjf
      by_cases a1 : N * BO < AU * M
      · rw [decide_eq_true a1]
        have R : Hid (GivP d p v (.returned (.bool false))) := givP_no (unhide EN) (unhide EM) (giv_no1 hv0 ((unhide CU).1.1 a1))
        clear a1
        generalize decide (AO * M < N * BO) = bb
        cases bb
        · go_wp2_with fail
          go_ret
          exact ⟨unhide R, unhide HB2⟩
        · go_wp2_with fail
          go_ret
          exact ⟨unhide R, unhide HB2⟩
      · rw [decide_eq_false a1]
        by_cases b1 : AO * M < N * BO
        · rw [decide_eq_true b1]
          have R : Hid (GivP d p v (.returned (.bool false))) := givP_no (unhide EN) (unhide EM) (giv_no2 hv ((unhide CO).2.1 b1))
          clear a1 b1
          go_wp2_with fail
          go_ret
          exact ⟨unhide R, unhide HB2⟩
        · rw [decide_eq_false b1]
          have c1 : ¬ N * tw < Mid (v - 1) * M := fun h => a1 ((unhide CU).1.2 h)
          have c2 : ¬ Mid v * M < N * tw := fun h => b1 ((unhide CO).2.2 h)
          have C1 := hide c1
          have C2 := hide c2
          clear a1 b1 c1 c2
          by_cases hev : v % 2 = 0
          · have R : Hid (GivP d p v (.returned (.bool true))) := givP_yes (unhide EN) (unhide EM) (giv_even hv (unhide C1) (unhide C2) hev)
            have hev2 : (v : Int) % 2 = 0 := by omega
            go_wp2_with fail
            go_ret
            exact ⟨unhide R, unhide HB2⟩
          · have hev2 : ¬ (v : Int) % 2 = 0 := by omega
            have hev3 : (((v : Int) % 2) == 0) = false := by rw [beq_eq_false_iff_ne]; omega
            have qka := (unhide GX2).c0
            have qkb := (unhide GX2).c1
            have qkc := (unhide GO2).c0
            have qkd := (unhide GO2).c1
            have qke := (unhide GU2).c0
            have qkf := (unhide GU2).c1
            go_wp2_with fail
            refine (unhide BE _ _ _ _ AU BO N M _ (unhide GU2).rn (unhide GU2).rm (unhide GX2).rn (unhide GX2).rm (unhide LU).2.1 (unhide LU).2.2.2.2.1 (unhide LU).2.2.2.2.2 (unhide LU).2.2.1 (unhide LU).2.2.2.1).mono ?_
            rintro e wc ⟨rfl, hbc⟩
            have GX3 := hide ((unhide GX2).below hbc)
            have GO3 := hide ((unhide GO2).below hbc)
            have GU3 := hide ((unhide GU2).below hbc)
            have HB3 := hide (below_up (unhide HB2) hbc)
            clear hbc GX2 GO2 GU2 HB2
            clear qka qkb qkc qkd qke qkf
            have qla := (unhide GX3).c0
            have qlb := (unhide GX3).c1
            have qlc := (unhide GO3).c0
            have qld := (unhide GO3).c1
            have qle := (unhide GU3).c0
            have qlf := (unhide GU3).c1
            go_wp2_with fail
            refine (unhide BE _ _ _ _ N M AO BO _ (unhide GX3).rn (unhide GX3).rm (unhide GO3).rn (unhide GO3).rm (unhide LO).1 (unhide LO).2.2.1 (unhide LO).2.2.2.1 (unhide LO).2.2.2.2.1 (unhide LO).2.2.2.2.2).mono ?_
            rintro e wd ⟨rfl, hbd⟩
            have HB4 := hide (below_up (unhide HB3) hbd)
            clear hbd HB3
            have R : Hid (GivP d p v (.returned (.bool (decide (AU * M < N * BO) && decide (N * BO < AO * M))))) := by
              refine ⟨_, rfl, ?_⟩
              rw [← unhide EN, ← unhide EM, ← giv_odd hv0 hv hev, Bool.and_eq_true, decide_eq_true_eq, decide_eq_true_eq, (unhide CU).2, (unhide CO).1]
            generalize decide (AU * M < N * BO) = b1 at *
            generalize decide (N * BO < AO * M) = b2 at *
            cases b1 <;> cases b2
            all_goals
              go_wp2_with fail
              go_ret
              exact ⟨unhide R, unhide HB4⟩
    · have hc3 : ((mm : Int) == 4503599627370496) = false := by rw [beq_eq_false_iff_ne]; omega
      have hd50 : d < 10 ^ 50 := by
        have h50 : (10 : Nat) ^ 50 = 100000000000000000000000000000000000000000000000000 := by decide
        omega
      have LU := hide (lims2 (m := 2 * mm - 1) (k := kk - 1) hd50 h1 h2 (by omega) (by omega) (by omega) (unhide EN) (unhide EM) (unhide EAU) (unhide EBO))
      have CU : Hid ((N * BO < AU * M ↔ N * tw < Mid (v - 1) * M) ∧ (AU * M < N * BO ↔ Mid (v - 1) * M < N * tw)) := by
        have kf := unhide KF
        have h := cmp_b (2 * mm - 1) (fpE v) N M (kk - 1) (by omega)
        rw [unhide EAU, unhide EBO] at h
        rw [mid_prev v hv0, if_neg (by rw [← unhide MF]; exact hc), ← unhide MF]
        exact h
      clear hd50
      clear hc
      have GX0 := FX8
      have GO0 := FO8
      have GU0 := FU
      have HB0 := B8
      clear FX8 FO8 FU B8
      have qia := (unhide GX0).c0
      have qib := (unhide GX0).c1
      have qic := (unhide GO0).c0
      have qid := (unhide GO0).c1
      have qie := (unhide GU0).c0
      have qif := (unhide GU0).c1
      go_wp2_with fail
      refine (unhide BE _ _ _ _ N M AU BO _ (unhide GX0).rn (unhide GX0).rm (unhide GU0).rn (unhide GU0).rm (unhide LU).1 (unhide LU).2.2.1 (unhide LU).2.2.2.1 (unhide LU).2.2.2.2.1 (unhide LU).2.2.2.2.2).mono ?_
      rintro e wa ⟨rfl, hba⟩
      have GX1 := hide ((unhide GX0).below hba)
      have GO1 := hide ((unhide GO0).below hba)
      have GU1 := hide ((unhide GU0).below hba)
      have HB1 := hide (below_up (unhide HB0) hba)
      clear hba GX0 GO0 GU0 HB0
      clear qia qib qic qid qie qif
      have qja := (unhide GX1).c0
      have qjb := (unhide GX1).c1
      have qjc := (unhide GO1).c0
      have qjd := (unhide GO1).c1
      have qje := (unhide GU1).c0
      have qjf := (unhide GU1).c1
      go_wp2_with fail
      refine (unhide BE _ _ _ _ AO BO N M _ (unhide GO1).rn (unhide GO1).rm (unhide GX1).rn (unhide GX1).rm (unhide LO).2.1 (unhide LO).2.2.2.2.1 (unhide LO).2.2.2.2.2 (unhide LO).2.2.1 (unhide LO).2.2.2.1).mono ?_
      rintro e wb ⟨rfl, hbb⟩
      have GX2 := hide ((unhide GX1).below hbb)
      have GO2 := hide ((unhide GO1).below hbb)
      have GU2 := hide ((unhide GU1).below hbb)
      have HB2 := hide (below_up (unhide HB1) hbb)
      clear hbb GX1 GO1 GU1 HB1
      clear qja qjb qjc qjd qje qjf
      by_cases a1 : N * BO < AU * M
      · rw [decide_eq_true a1]
        have R : Hid (GivP d p v (.returned (.bool false))) := givP_no (unhide EN) (unhide EM) (giv_no1 hv0 ((unhide CU).1.1 a1))
        clear a1
        generalize decide (AO * M < N * BO) = bb
        cases bb
        · go_wp2_with fail
          go_ret
          exact ⟨unhide R, unhide HB2⟩
        · go_wp2_with fail
          go_ret
          exact ⟨unhide R, unhide HB2⟩
      · rw [decide_eq_false a1]
        by_cases b1 : AO * M < N * BO
        · rw [decide_eq_true b1]
          have R : Hid (GivP d p v (.returned (.bool false))) := givP_no (unhide EN) (unhide EM) (giv_no2 hv ((unhide CO).2.1 b1))
          clear a1 b1
          go_wp2_with fail
          go_ret
          exact ⟨unhide R, unhide HB2⟩
        · rw [decide_eq_false b1]
          have c1 : ¬ N * tw < Mid (v - 1) * M := fun h => a1 ((unhide CU).1.2 h)
          have c2 : ¬ Mid v * M < N * tw := fun h => b1 ((unhide CO).2.2 h)
          have C1 := hide c1
          have C2 := hide c2
          clear a1 b1 c1 c2
          by_cases hev : v % 2 = 0
          · have R : Hid (GivP d p v (.returned (.bool true))) := givP_yes (unhide EN) (unhide EM) (giv_even hv (unhide C1) (unhide C2) hev)
            have hev2 : (v : Int) % 2 = 0 := by omega
            go_wp2_with fail
            go_ret
            exact ⟨unhide R, unhide HB2⟩
          · have hev2 : ¬ (v : Int) % 2 = 0 := by omega
            have hev3 : (((v : Int) % 2) == 0) = false := by rw [beq_eq_false_iff_ne]; omega
            have qka := (unhide GX2).c0
            have qkb := (unhide GX2).c1
            have qkc := (unhide GO2).c0
            have qkd := (unhide GO2).c1
            have qke := (unhide GU2).c0
            have qkf := (unhide GU2).c1
            go_wp2_with fail
            refine (unhide BE _ _ _ _ AU BO N M _ (unhide GU2).rn (unhide GU2).rm (unhide GX2).rn (unhide GX2).rm (unhide LU).2.1 (unhide LU).2.2.2.2.1 (unhide LU).2.2.2.2.2 (unhide LU).2.2.1 (unhide LU).2.2.2.1).mono ?_
            rintro e wc ⟨rfl, hbc⟩
            have GX3 := hide ((unhide GX2).below hbc)
            have GO3 := hide ((unhide GO2).below hbc)
            have GU3 := hide ((unhide GU2).below hbc)
            have HB3 := hide (below_up (unhide HB2) hbc)
            clear hbc GX2 GO2 GU2 HB2
            clear qka qkb qkc qkd qke qkf
            have qla := (unhide GX3).c0
            have qlb := (unhide GX3).c1
            have qlc := (unhide GO3).c0
            have qld := (unhide GO3).c1
            have qle := (unhide GU3).c0
            have qlf := (unhide GU3).c1
            go_wp2_with fail
            refine (unhide BE _ _ _ _ N M AO BO _ (unhide GX3).rn (unhide GX3).rm (unhide GO3).rn (unhide GO3).rm (unhide LO).1 (unhide LO).2.2.1 (unhide LO).2.2.2.1 (unhide LO).2.2.2.2.1 (unhide LO).2.2.2.2.2).mono ?_
            rintro e wd ⟨rfl, hbd⟩
            have HB4 := hide (below_up (unhide HB3) hbd)
            clear hbd HB3
            have R : Hid (GivP d p v (.returned (.bool (decide (AU * M < N * BO) && decide (N * BO < AO * M))))) := by
              refine ⟨_, rfl, ?_⟩
              rw [← unhide EN, ← unhide EM, ← giv_odd hv0 hv hev, Bool.and_eq_true, decide_eq_true_eq, decide_eq_true_eq, (unhide CU).2, (unhide CO).1]
            generalize decide (AU * M < N * BO) = b1 at *
            generalize decide (N * BO < AO * M) = b2 at *
            cases b1 <;> cases b2
            all_goals
              go_wp2_with fail
              go_ret
              exact ⟨unhide R, unhide HB4⟩
end Go.Proofs.YtgekdmjneogdoaaGreatDoor

namespace Go.Proofs.YtgekdmjneogdoaaGreatDoor
open Go.RowKit

/-! what the document's Short reckons with -/
theorem Rd.heap {w wq : World} {v : Value} {l : List Nat} (h : Rd w v l) (hq : wq.heap = w.heap) : Rd wq v l := by
  obtain ⟨ao, cap, rfl, h2⟩ := h
  refine ⟨ao, cap, rfl, fun h0 => ?_⟩
  obtain ⟨g, h3, h4, h5⟩ := h2 h0
  refine ⟨g, by rw [hq]; exact h3, h4, fun j hj => ?_⟩
  rw [World.cell?_of_block (w := w) (by rw [hq])]
  exact h5 j hj
theorem FrA.heap {w wq : World} {b : Nat} {vn vm : Value} {N M : Nat} (h : FrA w b vn vm N M) (hq : wq.heap = w.heap) : FrA wq b vn vm N M :=
  ⟨by rw [hq]; exact h.row, h.rn.heap hq, h.rm.heap hq, by rw [hq]; exact h.lt⟩

/-- the value v is X / 2 ^ c -/
theorem cmp_x (m E c N M : Nat) (k : Int) (hk : k = (E : Int) - c) : (bnum m k * M < N * bden k ↔ m * 2 ^ E * M < N * 2 ^ c) ∧ (N * bden k < bnum m k * M ↔ N * 2 ^ c < m * 2 ^ E * M) := by
  have e : bnum m k * 2 ^ c = m * 2 ^ E * bden k := by
    unfold bnum bden
    rw [Nat.mul_assoc, Nat.mul_assoc, ← Nat.pow_add, ← Nat.pow_add]
    congr 2
    omega
  have hB : 0 < bden k := Nat.pow_pos (by omega)
  have hC : 0 < 2 ^ c := Nat.pow_pos (by omega)
  have e1 : bnum m k * M * 2 ^ c = m * 2 ^ E * M * bden k := by rw [Nat.mul_right_comm, e, Nat.mul_right_comm]
  have e2 : N * bden k * 2 ^ c = N * 2 ^ c * bden k := Nat.mul_right_comm _ _ _
  constructor
  · constructor
    · intro h
      have := Nat.mul_lt_mul_of_pos_right h hC
      rw [e1, e2] at this
      exact Nat.lt_of_mul_lt_mul_right this
    · intro h
      have := Nat.mul_lt_mul_of_pos_right h hB
      rw [← e1, ← e2] at this
      exact Nat.lt_of_mul_lt_mul_right this
  · constructor
    · intro h
      have := Nat.mul_lt_mul_of_pos_right h hC
      rw [e1, e2] at this
      exact Nat.lt_of_mul_lt_mul_right this
    · intro h
      have := Nat.mul_lt_mul_of_pos_right h hB
      rw [← e1, ← e2] at this
      exact Nat.lt_of_mul_lt_mul_right this

theorem wrap_in (z : Int) (h1 : -9223372036854775808 ≤ z) (h2 : z ≤ 9223372036854775807) : IntKind.i64.wrap z = z := by
  rw [IntKind.wrap_i64]; omega
theorem wrap_inu (n : Nat) (h : n < 18446744073709551616) : IntKind.u64.wrap (n : Int) = (n : Int) := by
  rw [IntKind.wrap_u64]; omega
/-- N times 10 ^ q is no more than the value v (whose units are 2 ^ -c) -/
def LeX (c v N : Nat) (q : Int) : Prop := N * 10 ^ q.toNat * 2 ^ c ≤ VN v * 10 ^ (-q).toNat

theorem vn_lt (v b : Nat) (hb : b = 2098) (hv : v < 9218868437227405312) : VN v < 2 ^ b := by
  unfold VN
  have hM : fpM v < 2 ^ 53 ∧ fpE v ≤ 2045 := by
    rcases fp_cases v with h | ⟨m, e, h1, h2, rfl⟩
    · rw [fpM_sub h, fpE_sub h]; omega
    · rw [fpM_bits h1 h2, fpE_bits h1 h2]; omega
  have h1 : fpM v * 2 ^ fpE v < 2 ^ 53 * 2 ^ fpE v := Nat.mul_lt_mul_of_pos_right hM.1 (Nat.pow_pos (by omega))
  refine Nat.lt_of_lt_of_le h1 ?_
  rw [← Nat.pow_add]
  exact Nat.pow_le_pow_right (by omega) (by omega)

theorem ten_big (a b c : Nat) (ha : a = 309) (hb : b = 2098) (hc : c = 1074) : 2 ^ b ≤ 10 ^ a * 2 ^ c := by subst ha hb hc; decide +kernel

theorem leX_bound {c v n : Nat} {q : Int} (hc : c = 1074) (hn : 1 ≤ n) (hv : v < 9218868437227405312) (h : LeX c v n q) : q ≤ 308 := by
  rcases Int.lt_or_le 308 q with g | g
  · exfalso
    obtain ⟨a, ha⟩ : ∃ a, a = 309 := ⟨_, rfl⟩
    obtain ⟨b, hb⟩ : ∃ b, b = 2098 := ⟨_, rfl⟩
    unfold LeX at h
    rw [show (-q).toNat = 0 by omega, Nat.pow_zero, Nat.mul_one, Nat.mul_assoc] at h
    have h0 : 1 * (10 ^ q.toNat * 2 ^ c) ≤ n * (10 ^ q.toNat * 2 ^ c) := Nat.mul_le_mul_right _ hn
    have h1 := vn_lt v b hb hv
    have h2 := ten_big a b c ha hb hc
    have h3 : 10 ^ a * 2 ^ c ≤ 10 ^ q.toNat * 2 ^ c := Nat.mul_le_mul_right _ (Nat.pow_le_pow_right (by omega) (by omega))
    omega
  · exact g

/-- what below says of the value and a decimal number -/
theorem below_x {c v N A D N' M' mm : Nat} {kk q : Int} (hc : c = 1074) (hm : pm v = mm) (hk : pk v = kk) (hA : bnum mm kk = A) (hD : bden kk = D) (eN : N' = N * 10 ^ q.toNat) (eM : M' = 10 ^ (-q).toNat) :
    decide (A * M' < N' * D) = !decide (N * 10 ^ q.toNat * 2 ^ c ≤ VN v * 10 ^ (-q).toNat) ∧ (decide (N' * D < A * M') = true ↔ N * 10 ^ q.toNat * 2 ^ c < VN v * 10 ^ (-q).toNat) := by
  subst hA hD eN eM
  have kf : kk = (fpE v : Int) - c := by rw [← hk, pk_fp v, hc]; rfl
  have h := cmp_x mm (fpE v) c (N * 10 ^ q.toNat) (10 ^ (-q).toNat) kk kf
  have e : mm * 2 ^ fpE v = VN v := by rw [← hm, pm_fp]; rfl
  rw [e] at h
  constructor
  · by_cases g : N * 10 ^ q.toNat * 2 ^ c ≤ VN v * 10 ^ (-q).toNat
    · rw [decide_eq_true g, decide_eq_false (fun q => absurd (h.1.1 q) (Nat.not_lt.2 g))]; rfl
    · rw [decide_eq_false g, decide_eq_true (h.1.2 (Nat.lt_of_not_le g))]; rfl
  · rw [decide_eq_true_eq]
    exact h.2

theorem lims3 {N A D N' M' mm : Nat} {kk q : Int} (hm : mm < 18446744073709551616) (k1 : -1100 ≤ kk) (k2 : kk ≤ 1100) (hN : N < 10 ^ 50) (p1 : -400 ≤ q) (p2 : q ≤ 400) (hA : bnum mm kk = A) (hD : bden kk = D) (eN : N' = N * 10 ^ q.toNat) (eM : M' = 10 ^ (-q).toNat) :
    Lim (N' * D) ∧ Lim (A * M') ∧ Lim N' ∧ Lim M' ∧ Lim A ∧ Lim D := lims2 hN p1 p2 hm k1 k2 eN eM hA hD

theorem cmp_ten (P Q α β γ δ : Nat) (h : α + δ = β + γ) : (P * 10 ^ α ≤ Q * 10 ^ β ↔ P * 10 ^ γ ≤ Q * 10 ^ δ) := by
  have e1 : P * 10 ^ α * 10 ^ δ = P * 10 ^ γ * 10 ^ β := by
    rw [Nat.mul_assoc, Nat.mul_assoc, ← Nat.pow_add, ← Nat.pow_add, h, Nat.add_comm]
  have e2 : Q * 10 ^ β * 10 ^ δ = Q * 10 ^ δ * 10 ^ β := Nat.mul_right_comm _ _ _
  have p1 : 0 < 10 ^ δ := Nat.pow_pos (by omega)
  have p2 : 0 < 10 ^ β := Nat.pow_pos (by omega)
  constructor
  · intro q
    have := Nat.mul_le_mul_right (10 ^ δ) q
    rw [e1, e2] at this
    exact Nat.le_of_mul_le_mul_right this p2
  · intro q
    have := Nat.mul_le_mul_right (10 ^ β) q
    rw [← e1, ← e2] at this
    exact Nat.le_of_mul_le_mul_right this p1

theorem leX_shift (c v n j : Nat) (q r : Int) (hr : r = q + j) : LeX c v (n * 10 ^ j) q ↔ LeX c v n r := by
  unfold LeX
  have e1 : n * 10 ^ j * 10 ^ q.toNat * 2 ^ c = n * 2 ^ c * 10 ^ (j + q.toNat) := by
    rw [Nat.mul_assoc n, ← Nat.pow_add, Nat.mul_right_comm]
  have e2 : n * 10 ^ r.toNat * 2 ^ c = n * 2 ^ c * 10 ^ r.toNat := Nat.mul_right_comm _ _ _
  rw [e1, e2]
  exact cmp_ten _ _ _ _ _ _ (by omega)
theorem NearI.scale {X Y X2 Y2 d : Nat} (hY : 0 < Y) (hY2 : 0 < Y2) (e : X * Y2 = X2 * Y) (h : NearI X Y d) : NearI X2 Y2 d := by
  have key : ∀ a : Nat, (a * Y < 2 * X ↔ a * Y2 < 2 * X2) ∧ (2 * X < a * Y ↔ 2 * X2 < a * Y2) ∧ (a * Y = 2 * X ↔ a * Y2 = 2 * X2) := by
    intro a
    have e1 : a * Y * Y2 = a * Y2 * Y := Nat.mul_right_comm _ _ _
    have e2 : 2 * X * Y2 = 2 * X2 * Y := by rw [Nat.mul_assoc, e, Nat.mul_assoc]
    refine ⟨⟨fun q => ?_, fun q => ?_⟩, ⟨fun q => ?_, fun q => ?_⟩, ⟨fun q => ?_, fun q => ?_⟩⟩
    · have := Nat.mul_lt_mul_of_pos_right q hY2
      rw [e1, e2] at this; exact Nat.lt_of_mul_lt_mul_right this
    · have := Nat.mul_lt_mul_of_pos_right q hY
      rw [← e1, ← e2] at this; exact Nat.lt_of_mul_lt_mul_right this
    · have := Nat.mul_lt_mul_of_pos_right q hY2
      rw [e1, e2] at this; exact Nat.lt_of_mul_lt_mul_right this
    · have := Nat.mul_lt_mul_of_pos_right q hY
      rw [← e1, ← e2] at this; exact Nat.lt_of_mul_lt_mul_right this
    · have this : a * Y * Y2 = 2 * X * Y2 := by rw [q]
      rw [e1, e2] at this; exact Nat.eq_of_mul_eq_mul_right hY this
    · have this : a * Y2 * Y = 2 * X2 * Y := by rw [q]
      rw [← e1, ← e2] at this; exact Nat.eq_of_mul_eq_mul_right hY2 this
  refine ⟨fun h0 => ?_, ?_⟩
  · rcases h.lo h0 with q | ⟨q, q2⟩
    · exact Or.inl ((key _).1.1 q)
    · exact Or.inr ⟨(key _).2.2.1 q, q2⟩
  · rcases h.hi with q | ⟨q, q2⟩
    · exact Or.inl ((key _).2.1.1 q)
    · exact Or.inr ⟨((key _).2.2.1 q.symm).symm, q2⟩

/-- rounding the first seventeen digits to fewer -/
theorem round_less {x y lo un hf d0 r d : Nat} {bm : Bool} (hun : un = 2 * hf) (hlo : lo = d0 * un + r) (hr : r < un) (h1 : lo * y ≤ x) (h2 : x < (lo + 1) * y) (hm : bm = true ↔ lo * y < x)
    (hd : (d = d0 + 1 ∧ (hf < r ∨ (r = hf ∧ (bm = true ∨ d0 % 2 = 1)))) ∨ (d = d0 ∧ (r < hf ∨ (r = hf ∧ bm = false ∧ d0 % 2 = 0)))) : NearI x (un * y) d := by
  have hle : ∀ {a b : Nat}, a ≤ b → a * y ≤ b * y := fun h => Nat.mul_le_mul_right _ h
  have hy : 0 < y := by
    rcases Nat.eq_zero_or_pos y with q | q
    · rw [q] at h2; simp at h2
    · exact q
  have hlt : ∀ {a b : Nat}, a < b → a * y < b * y := fun h => Nat.mul_lt_mul_of_pos_right h hy
  have two : ∀ a : Nat, 2 * (a * y) = (2 * a) * y := fun a => (Nat.mul_assoc 2 a y).symm
  have asc : ∀ a : Nat, a * (un * y) = (a * un) * y := fun a => (Nat.mul_assoc a un y).symm
  have x1 : (2 * lo) * y ≤ 2 * x := by rw [← two]; omega
  have x2 : 2 * x < (2 * (lo + 1)) * y := by rw [← two]; omega
  subst hun
  rcases hd with ⟨rfl, hc⟩ | ⟨rfl, hc⟩
  · have e1 : (2 * (d0 + 1) - 1) * (2 * hf) = 2 * (d0 * (2 * hf)) + 2 * hf := by
      rw [show 2 * (d0 + 1) - 1 = 2 * d0 + 1 by omega, Nat.add_mul, Nat.one_mul, Nat.mul_assoc]
    have e2 : (2 * (d0 + 1) + 1) * (2 * hf) = 2 * (d0 * (2 * hf)) + 6 * hf := by
      rw [show 2 * (d0 + 1) + 1 = 2 * d0 + 3 by omega, Nat.add_mul, Nat.mul_assoc]; omega
    generalize d0 * (2 * hf) = T at *
    refine ⟨fun _ => ?_, Or.inl ?_⟩
    · rw [asc, e1]
      rcases hc with q | ⟨q, q2⟩
      · exact Or.inl (Nat.lt_of_lt_of_le (hlt (by omega)) x1)
      · have e3 : 2 * T + 2 * hf = 2 * lo := by omega
        rw [e3]
        by_cases hb : bm = true
        · have := hm.1 hb
          rw [← two]
          exact Or.inl (by omega)
        · have hx : lo * y = x := by
            have : ¬ lo * y < x := fun q => hb (hm.2 q)
            omega
          rw [← two]
          refine Or.inr ⟨by omega, ?_⟩
          rcases q2 with q2 | q2
          · exact absurd q2 hb
          · omega
    · rw [asc, e2]
      exact Nat.lt_of_lt_of_le x2 (hle (by omega))
  · have e1 : d ≠ 0 → (2 * d - 1) * (2 * hf) + 2 * hf = 2 * (d * (2 * hf)) := by
      intro h0
      obtain ⟨k, rfl⟩ : ∃ k, d = k + 1 := ⟨d - 1, by omega⟩
      rw [show 2 * (k + 1) - 1 = 2 * k + 1 by omega, Nat.add_mul, Nat.one_mul, Nat.add_mul, Nat.one_mul, Nat.mul_assoc]
      omega
    have e2 : (2 * d + 1) * (2 * hf) = 2 * (d * (2 * hf)) + 2 * hf := by rw [Nat.add_mul, Nat.one_mul, Nat.mul_assoc]
    generalize d * (2 * hf) = T at *
    refine ⟨fun h0 => Or.inl ?_, ?_⟩
    · rw [asc]
      have := e1 h0
      exact Nat.lt_of_lt_of_le (hlt (by omega)) x1
    · rw [asc, e2]
      rcases hc with q | ⟨q, q2, q3⟩
      · exact Or.inl (Nat.lt_of_lt_of_le x2 (hle (by omega)))
      · have hx : lo * y = x := by
          have : ¬ lo * y < x := fun h => by rw [hm.2 h] at q2; cases q2
          omega
        have e3 : 2 * T + 2 * hf = 2 * lo := by omega
        rw [e3, ← two]
        exact Or.inr ⟨by omega, q3⟩

theorem round_17 {x y lo d : Nat} {up tie : Bool} (h1 : lo * y ≤ x) (h2 : x < (lo + 1) * y) (hu : up = true ↔ (2 * lo + 1) * y < 2 * x) (ht : tie = true ↔ 2 * x < (2 * lo + 1) * y)
    (hd : (d = lo + 1 ∧ (up = true ∨ (tie = false ∧ lo % 2 = 1))) ∨ (d = lo ∧ up = false ∧ (tie = true ∨ lo % 2 = 0))) : NearI x y d := by
  have two : ∀ a : Nat, 2 * (a * y) = (2 * a) * y := fun a => (Nat.mul_assoc 2 a y).symm
  have hy : 0 < y := by
    rcases Nat.eq_zero_or_pos y with q | q
    · rw [q] at h2; simp at h2
    · exact q
  have hlt : ∀ {a b : Nat}, a < b → a * y < b * y := fun h => Nat.mul_lt_mul_of_pos_right h hy
  have x1 : (2 * lo) * y ≤ 2 * x := by rw [← two]; omega
  have x2 : 2 * x < (2 * (lo + 1)) * y := by rw [← two]; omega
  rcases hd with ⟨rfl, hc⟩ | ⟨rfl, hc, hc2⟩
  · refine ⟨fun _ => ?_, Or.inl (Nat.lt_trans x2 (hlt (by omega)))⟩
    rw [show 2 * (lo + 1) - 1 = 2 * lo + 1 by omega]
    rcases hc with q | ⟨q, q2⟩
    · exact Or.inl (hu.1 q)
    · by_cases g : (2 * lo + 1) * y < 2 * x
      · exact Or.inl g
      · have : ¬ 2 * x < (2 * lo + 1) * y := fun h => by rw [ht.2 h] at q; cases q
        exact Or.inr ⟨by omega, by omega⟩
  · have g1 : ¬ (2 * d + 1) * y < 2 * x := fun h => by rw [hu.2 h] at hc; cases hc
    refine ⟨fun h0 => Or.inl (Nat.lt_of_lt_of_le (hlt (by omega)) x1), ?_⟩
    rcases hc2 with q | q
    · exact Or.inl (ht.1 q)
    · by_cases g : 2 * x < (2 * d + 1) * y
      · exact Or.inl g
      · exact Or.inr ⟨by omega, q⟩

def NoGive (c v : Nat) (p : Int) (m : Nat) : Prop := ∀ d, NearI (VN v * 10 ^ (-(p - m + 1)).toNat) (10 ^ (p - m + 1).toNat * 2 ^ c) d → ¬ NearV (d * 10 ^ (p - m + 1).toNat) (10 ^ (-(p - m + 1)).toNat) v

/-- what Short answers -/
def ShortP (c v one : Nat) (S : List UInt8) (e : Ending) : Prop := ∃ (P : Int) (n d m z : Nat), 1 ≤ n ∧ n ≤ 17 ∧ LeX c v one P ∧ ¬ LeX c v one (P + 1) ∧ NearI (VN v * 10 ^ (-(P - n + 1)).toNat) (10 ^ (P - n + 1).toNat * 2 ^ c) d ∧ (n < 17 → NearV (d * 10 ^ (P - n + 1).toNat) (10 ^ (-(P - n + 1)).toNat) v) ∧
  (∀ j, 1 ≤ j → j < n → NoGive c v P j) ∧ d = m * 10 ^ z ∧ m % 10 ≠ 0 ∧ -400 ≤ P ∧ P ≤ 308 ∧ e = .returned (.string (bs (S ++ toldT m (P - n + 1 + z))))

theorem toldT_len (d : Nat) (q : Int) (hd : d < 1000000000000000000) (h1 : -5000 ≤ q) (h2 : q ≤ 5000) : (toldT d q).length ≤ 60 := by
  have a := dec_len 18 d (by omega)
  have b := itoa_len (q + ((Lib.decDigits d).length : Int) - 1) (by omega) (by omega)
  unfold toldT
  have e : (if 1 < (Lib.decDigits d).length then 46 :: (Lib.decDigits d).drop 1 else []).length ≤ 20 := by
    split
    · rw [List.length_cons, List.length_drop]; omega
    · simp
  rw [List.length_append, List.length_append, List.length_take, List.length_cons]
  omega

/-- what was read of a value at seventeen places, rounded to n -/
theorem round_at {c v lo un hf d0 r d n : Nat} {p : Int} {bm : Bool} (hn : n ≤ 16) (hun : un = 10 ^ (17 - n)) (hhf : un = 2 * hf) (hlo : lo = d0 * un + r) (hr : r < un)
    (h1 : LeX c v lo (p - 16)) (h2 : ¬ LeX c v (lo + 1) (p - 16)) (hm : bm = true ↔ lo * 10 ^ (p - 16).toNat * 2 ^ c < VN v * 10 ^ (-(p - 16)).toNat)
    (hd : (d = d0 + 1 ∧ (hf < r ∨ (r = hf ∧ (bm = true ∨ d0 % 2 = 1)))) ∨ (d = d0 ∧ (r < hf ∨ (r = hf ∧ bm = false ∧ d0 % 2 = 0)))) :
    NearI (VN v * 10 ^ (-(p - n + 1)).toNat) (10 ^ (p - n + 1).toNat * 2 ^ c) d := by
  unfold LeX at h1 h2
  rw [Nat.mul_assoc] at h1 h2 hm
  have h := round_less hhf hlo hr h1 (Nat.lt_of_not_le h2) hm hd
  have p1 : 0 < 2 ^ c := Nat.pow_pos (by omega)
  refine NearI.scale (Nat.mul_pos (by rw [hun]; exact Nat.pow_pos (by omega)) (Nat.mul_pos (Nat.pow_pos (by omega)) p1)) (Nat.mul_pos (Nat.pow_pos (by omega)) p1) ?_ h
  rw [hun]
  have e : (-(p - 16)).toNat + (p - n + 1).toNat = (-(p - n + 1)).toNat + (17 - n + (p - 16).toNat) := by omega
  have e1 : VN v * 10 ^ (-(p - 16)).toNat * (10 ^ (p - n + 1).toNat * 2 ^ c) = VN v * 2 ^ c * 10 ^ ((-(p - 16)).toNat + (p - n + 1).toNat) := by
    rw [Nat.pow_add]
    generalize 10 ^ (-(p - 16)).toNat = a
    generalize 10 ^ (p - n + 1).toNat = b
    generalize 2 ^ c = t
    simp only [Nat.mul_assoc, Nat.mul_comm, Nat.mul_left_comm]
  have e2 : VN v * 10 ^ (-(p - n + 1)).toNat * (10 ^ (17 - n) * (10 ^ (p - 16).toNat * 2 ^ c)) = VN v * 2 ^ c * 10 ^ ((-(p - n + 1)).toNat + (17 - n + (p - 16).toNat)) := by
    rw [Nat.pow_add, Nat.pow_add]
    generalize 10 ^ (-(p - n + 1)).toNat = a
    generalize 10 ^ (17 - n) = b
    generalize 10 ^ (p - 16).toNat = b2
    generalize 2 ^ c = t
    simp only [Nat.mul_assoc, Nat.mul_comm, Nat.mul_left_comm]
  rw [e1, e2, e]
end Go.Proofs.YtgekdmjneogdoaaGreatDoor
