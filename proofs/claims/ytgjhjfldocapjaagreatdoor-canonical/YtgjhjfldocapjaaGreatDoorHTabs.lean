import Derived.Test.YtgjhjfldocapjaaGreatDoorHParse
import Derived.Lib.LaidTab
import Derived.Lib.ItoaNum
import GoSem.PinnedTables
namespace Go.Proofs.YtgjhjfldocapjaaGreatDoor
open Go.RowKit

def powHi (i : Nat) : Nat := (Go.Pinned.pow10Rows.getD i (0, 0)).1
def powLo (i : Nat) : Nat := (Go.Pinned.pow10Rows.getD i (0, 0)).2
def fpow (j : Nat) : Nat := [4607182418800017408, 4621819117588971520, 4636737291354636288, 4652007308841189376, 4666723172467343360, 4681608360884174848, 4696837146684686336, 4711630319722168320, 4726483295884279808, 4741671816366391296, 4756540486875873280, 4771362005757984768, 4786511204640096256, 4801453603149578240, 4816244402031689728, 4831355200913801216, 4846369599423283200, 4861130398305394688, 4876203697187506176, 4891288408196988160, 4906019910204099648, 4921056587992461136, 4936209963552724370].getD j 0

theorem pow_lt : ∀ i, i < 696 → powHi i < 18446744073709551616 ∧ powLo i < 18446744073709551616 := by
  have h : (Go.Pinned.pow10Rows.all fun x => decide (x.1 < 18446744073709551616) && decide (x.2 < 18446744073709551616)) = true := by decide +kernel
  have hl : Go.Pinned.pow10Rows.length = 696 := by decide +kernel
  intro i hi
  have := List.all_eq_true.1 h (Go.Pinned.pow10Rows.getD i (0, 0)) (by
    rw [List.getD_eq_getElem?_getD, List.getElem?_eq_getElem (by omega)]; exact List.getElem_mem _)
  simp only [Bool.and_eq_true, decide_eq_true_eq] at this
  exact this

/-- what the package-level variables on the road hold -/
structure Tabs (w : World) : Prop where
  pow : ∀ i, i < 696 → w.cell? ⟨10, i * 2, none⟩ = some (.int .u64 (powHi i)) ∧ w.cell? ⟨10, i * 2 + 1, none⟩ = some (.int .u64 (powLo i))
  opt : w.cell? ⟨5, 0, none⟩ = some (.bool true)
  mant : w.cell? ⟨8, 0, none⟩ = some (.int .u64 52)
  expb : w.cell? ⟨8, 1, none⟩ = some (.int .u64 11)
  bias : w.cell? ⟨8, 2, none⟩ = some (.int .i64 (-1023))
  fpow : ∃ B O, w.cell? ⟨14, 0, none⟩ = some (.slice (some ⟨B, O, none⟩) 23 23) ∧ ∀ j, j < 23 → w.cell? ⟨B, O + j, none⟩ = some (.float .f64 (fpow j))
  err : ∃ ev, w.cell? ⟨4, 0, none⟩ = some ev ∧ (ev = .nilIface ∨ ∃ te pe, ev = .iface te pe)
  maxLen : ∃ m, w.cell? ⟨2, 0, none⟩ = some (.int .i64 m)
  u64pow : ∃ ty fz, w.heap[(6 : Nat)]? = some (.cells (Lib.pow10Tab.map fun z => Value.int .u64 z).toArray ty fz)

theorem lt_of_cell {w : World} {b o : Nat} {v : Value} (h : w.cell? ⟨b, o, none⟩ = some v) : b < w.heap.size := by
  unfold World.cell? at h
  by_cases hb : b < w.heap.size
  · exact hb
  · simp [Array.getElem?_eq_none (Nat.le_of_not_lt hb)] at h

theorem Tabs.size {w : World} (h : Tabs w) : 10 < w.heap.size := lt_of_cell (h.pow 0 (by omega)).1

theorem later {w w' : World} {b o : Nat} {v : Value} (hb : Below w.heap.size w w') (h : w.cell? ⟨b, o, none⟩ = some v) : w'.cell? ⟨b, o, none⟩ = some v := by
  rw [hb.cell (p := ⟨b, o, none⟩) (lt_of_cell h)]; exact h

theorem Tabs.below {w w' : World} (h : Tabs w) (hb : Below w.heap.size w w') : Tabs w' where
  pow i hi := ⟨later hb (h.pow i hi).1, later hb (h.pow i hi).2⟩
  opt := later hb h.opt
  mant := later hb h.mant
  expb := later hb h.expb
  bias := later hb h.bias
  fpow := by
    obtain ⟨B, O, h1, h2⟩ := h.fpow
    exact ⟨B, O, later hb h1, fun j hj => later hb (h2 j hj)⟩
  err := by
    obtain ⟨ev, h1, h2⟩ := h.err
    exact ⟨ev, later hb h1, h2⟩
  maxLen := by
    obtain ⟨m, h1⟩ := h.maxLen
    exact ⟨m, later hb h1⟩
  u64pow := by
    obtain ⟨ty, fz, h1⟩ := h.u64pow
    refine ⟨ty, fz, ?_⟩
    rw [hb.block _ (Nat.lt_trans (by decide) h.size)]; exact h1

theorem Tabs.tab {w : World} (h : Tabs w) {n : String} (hn : Tryz.prog.globalNamed n = some 6) : Lib.TabIs Tryz.prog w n .u64 Lib.pow10Tab := by
  obtain ⟨ty, fz, h1⟩ := h.u64pow
  unfold Lib.TabIs World.var?
  rw [hn, Option.bind_some, h1]

theorem Tabs.drewN {w : World} (h : Tabs w) (n : Nat) : Tabs (w.drewN n) := h.below (below_drewN (Below.refl _ _) n)

/-- what parseFloat64 gives: the bits, and whether there is an error -/
def parseN (d : Nat) (p : Int) (sg : Nat) : Nat × Bool :=
  let b := Lib.bitLen d
  let lp := p * 108853 / 32768
  let E := min 1074 (53 - (b : Int) - lp)
  let s := -(E - (64 - (b : Int)) + lp + 3)
  if 64 ≤ s then (sg, false)
  else
    let u := uscaleN (d * 2 ^ (64 - b)) (powHi (p + 348).toNat) (powLo (p + 348).toNat) s.toNat
    let t := (decide (36028797018963966 ≤ u)).toNat
    let v := (u / 2 ^ t) ||| (u % 2)
    pk64N (sg ||| ((v + 1 + v / 4 % 2) / 4)) (-(E - t))

theorem bitLenAux_bounds : ∀ (f d : Nat), d < 2 ^ f → d < 2 ^ Lib.bitLenAux f d ∧ Lib.bitLenAux f d ≤ f ∧ (1 ≤ d → 2 ^ (Lib.bitLenAux f d - 1) ≤ d ∧ 1 ≤ Lib.bitLenAux f d) := by
  intro f
  induction f with
  | zero => intro d h; simp [Lib.bitLenAux] at *; omega
  | succ f ih =>
    intro d h
    unfold Lib.bitLenAux
    by_cases hd : d = 0
    · simp [hd]
    · rw [if_neg hd]
      have h2 : d / 2 < 2 ^ f := by rw [Nat.pow_succ] at h; omega
      obtain ⟨a, b, c⟩ := ih (d / 2) h2
      refine ⟨?_, by omega, fun _ => ⟨?_, by omega⟩⟩
      · rw [Nat.add_comm, Nat.pow_succ]; omega
      · by_cases hq : d / 2 = 0
        · rw [hq]
          have : Lib.bitLenAux f 0 = 0 := by cases f <;> simp [Lib.bitLenAux]
          rw [this]; simp; omega
        · obtain ⟨c1, c2⟩ := c (by omega)
          have e : 1 + Lib.bitLenAux f (d / 2) - 1 = (Lib.bitLenAux f (d / 2) - 1) + 1 := by omega
          rw [e, Nat.pow_succ]; omega

theorem bitLen_bounds (d : Nat) (h : d < 18446744073709551616) (h1 : 1 ≤ d) : d < 2 ^ Lib.bitLen d ∧ Lib.bitLen d ≤ 64 ∧ 2 ^ (Lib.bitLen d - 1) ≤ d ∧ 1 ≤ Lib.bitLen d := by
  obtain ⟨a, b, c⟩ := bitLenAux_bounds 64 d (by omega)
  exact ⟨a, b, c h1⟩

theorem shift_lt (d b : Nat) (h : d < 2 ^ b) (hb : b ≤ 64) : d * 2 ^ (64 - b) < 18446744073709551616 := by
  have h2 : d * 2 ^ (64 - b) < 2 ^ b * 2 ^ (64 - b) := Nat.mul_lt_mul_of_pos_right h (Nat.two_pow_pos _)
  rw [← Nat.pow_add] at h2
  have : b + (64 - b) = 64 := by omega
  rw [this] at h2; exact h2

theorem or_one (a : Nat) : a ||| 1 = a / 2 * 2 + 1 := by
  by_cases h : a % 2 = 0
  · rw [nat_join 1 a 1 (by omega) (by omega)]; omega
  · have h2 : (a - 1) ||| 1 = a := by rw [nat_join 1 (a - 1) 1 (by omega) (by omega)]; omega
    have h3 : a ||| 1 = a := by
      have : ((a - 1) ||| 1) ||| 1 = (a - 1) ||| 1 := by rw [Nat.or_assoc, Nat.or_self]
      rw [h2] at this; exact this
    omega

theorem or1_le (a c : Nat) (h : c ≤ 1) : a ||| c ≤ a + 1 := by
  have h2 : c = 0 ∨ c = 1 := by omega
  rcases h2 with rfl | rfl
  · simp
  · rw [or_one]; omega

theorem uscaleN_lt (x hi lo s : Nat) (hx : x < 18446744073709551616) (hh : hi < 18446744073709551616) (hs : 8 ≤ s) : uscaleN x hi lo s < 144115188075855873 := by
  have key : ∀ a, a < 18446744073709551616 → a / 2 ^ s < 72057594037927936 := by
    intro a ha
    have h1 : a / 2 ^ s ≤ a / 2 ^ 8 := Nat.div_le_div_left (Nat.pow_le_pow_right (by omega) hs) (Nat.two_pow_pos _)
    omega
  have h1 : x * hi / 18446744073709551616 < 18446744073709551616 := by
    have : x * hi < 18446744073709551616 * 18446744073709551616 := Nat.mul_lt_mul'' hx hh
    omega
  unfold uscaleN
  split
  · have := or1_le (x * hi / 18446744073709551616 / 2 ^ s) 1 (by omega)
    have := key _ h1
    omega
  · have := or1_le ((x * hi / 18446744073709551616 + 18446744073709551616 - (decide (x * hi % 18446744073709551616 < x * lo / 18446744073709551616)).toNat) % 18446744073709551616 / 2 ^ s) (decide (1 < (x * hi % 18446744073709551616 + 18446744073709551616 - x * lo / 18446744073709551616) % 18446744073709551616)).toNat (Bool.toNat_le _)
    have := key _ (Nat.mod_lt (x * hi / 18446744073709551616 + 18446744073709551616 - (decide (x * hi % 18446744073709551616 < x * lo / 18446744073709551616)).toNat) (show 0 < 18446744073709551616 by omega))
    omega

end Go.Proofs.YtgjhjfldocapjaaGreatDoor

namespace Go.Proofs.YtgjhjfldocapjaaGreatDoor
open Go.RowKit

set_option maxRecDepth 20000 in
set_option maxHeartbeats 800000 in
theorem parse64_zero (d b i hi lo sg : Nat) (s lp E : Int) (w : World) (hd : d < 18446744073709551616) (hb : Lib.bitLen d = b) (hb1 : 1 ≤ b) (hb2 : b ≤ 64)
    (hi2 : i < 696) (hlp : ((i : Int) - 348) * 108853 / 32768 = lp) (hE : min 1074 (53 - (b : Int) - lp) = E) (hs : -(E - (64 - (b : Int)) + lp + 3) = s) (hs64 : 64 ≤ s)
    (hor : bits BinOp.or IntKind.u64 (sg : Int) 0 = (sg : Int))
    (c0 : w.cell? ⟨10, i * 2, none⟩ = some (.int .u64 hi)) (c1 : w.cell? ⟨10, i * 2 + 1, none⟩ = some (.int .u64 lo)) (hz : 10 < w.heap.size) :
    Calls Tryz.prog 243 #[.int .u64 d, .int .i64 ((i : Int) - 348), .int .u64 sg] w fun z w' => z = .returned (.tuple #[.float .f64 sg, .nilIface]) ∧ Below w.heap.size w w' := by
  have L1 : ∀ w, Calls Tryz.prog 183 #[.int .u64 (d : Int)] w fun e w' => e = .returned (.int .i64 (b : Int)) ∧ w' = w := fun w => by
    have := Tryz.bits_Len64 (d : Int) w (by omega) (by omega); rw [Int.toNat_natCast, hb] at this; exact this
  have L2 : ∀ w, Calls Tryz.prog 217 #[.int .i64 ((i : Int) - 348)] w fun e w' => e = .returned (.int .i64 lp) ∧ w' = w := fun w => by
    have := log2Pow10_any ((i : Int) - 348) w (by omega) (by omega); rw [hlp] at this; exact this
  have hlp1 : -1200 ≤ lp := by omega
  have hlp2 : lp ≤ 1200 := by omega
  have L3 := prescale_new hi lo i (E - (64 - (b : Int))) ((i : Int) - 348) lp w (by omega) (by omega) (by omega) (by omega) (by omega) hi2 c0 c1 hz
  have H1 := hide L1
  have H2 := hide L2
  rw [hs] at L3
  have H3 := hide L3
  have Hlp := hide hlp
  have Hs := hide hs
  have Hb := hide hb
  clear L1 L2 L3 hlp hs hb
  have hfb := frombits_run
  go_enter Tryz.func243, Tryz.ntmps243
  go_wp2_with fail
  refine (unhide H1 _).mono ?_
  rintro e w' ⟨rfl, rfl⟩
  go_wp2_with fail
  refine (unhide H2 _).mono ?_
  rintro e w' ⟨rfl, rfl⟩
  go_wp2_with fail
  refine (unhide H3).mono ?_
  rintro e w1 ⟨rfl, rfl⟩
  go_wp2_with fail
  go_ret2
  exact ⟨rfl, (Below.refl _ _).alloc (Nat.le_refl _) _⟩

theorem or0 (u : Nat) (h : u < 18446744073709551616) : bits BinOp.or IntKind.u64 (u : Int) 0 = (u : Int) := by
  have := u64_or_nat u 0 h (by omega); simpa using this

theorem parse64_any (d sg : Nat) (p : Int) (w : World) (ht : Tabs w) (hd : d < 18446744073709551616) (hd1 : 1 ≤ d) (hp1 : -348 ≤ p) (hp2 : p ≤ 347) (hsg : sg < 18446744073709551616) :
    Calls Tryz.prog 243 #[.int .u64 d, .int .i64 p, .int .u64 sg] w fun z w' => z = .returned (.tuple #[.float .f64 (parseN d p sg).1, errV (parseN d p sg).2 1]) ∧ Below w.heap.size w w' := by
  obtain ⟨i, hi⟩ : ∃ i : Nat, p = (i : Int) - 348 := ⟨(p + 348).toNat, by omega⟩
  have hi2 : i < 696 := by omega
  obtain ⟨q1, q2, q3, q4⟩ := bitLen_bounds d hd hd1
  have hx := shift_lt d _ q1 q2
  have hpi : (p + 348).toNat = i := by omega
  obtain ⟨l1, l2⟩ := pow_lt i hi2
  obtain ⟨c0, c1⟩ := ht.pow i hi2
  unfold parseN
  simp only [hpi]
  rw [hi]
  by_cases hs : 64 ≤ -(min 1074 (53 - (Lib.bitLen d : Int) - ((i : Int) - 348) * 108853 / 32768) - (64 - (Lib.bitLen d : Int)) + ((i : Int) - 348) * 108853 / 32768 + 3)
  · rw [if_pos hs]
    exact parse64_zero d _ i _ _ sg _ _ _ w hd rfl q4 q2 hi2 rfl rfl rfl hs (or0 sg hsg) c0 c1 ht.size
  · rw [if_neg hs]
    have hs8 : 8 ≤ -(min 1074 (53 - (Lib.bitLen d : Int) - ((i : Int) - 348) * 108853 / 32768) - (64 - (Lib.bitLen d : Int)) + ((i : Int) - 348) * 108853 / 32768 + 3) := by omega
    have hu := uscaleN_lt (d * 2 ^ (64 - Lib.bitLen d)) (powHi i) (powLo i) (-(min 1074 (53 - (Lib.bitLen d : Int) - ((i : Int) - 348) * 108853 / 32768) - (64 - (Lib.bitLen d : Int)) + ((i : Int) - 348) * 108853 / 32768 + 3)).toNat hx l1 (by omega)
    have hsn : -(min 1074 (53 - (Lib.bitLen d : Int) - ((i : Int) - 348) * 108853 / 32768) - (64 - (Lib.bitLen d : Int)) + ((i : Int) - 348) * 108853 / 32768 + 3) = (((-(min 1074 (53 - (Lib.bitLen d : Int) - ((i : Int) - 348) * 108853 / 32768) - (64 - (Lib.bitLen d : Int)) + ((i : Int) - 348) * 108853 / 32768 + 3)).toNat : Nat) : Int) := by omega
    generalize hS : (-(min 1074 (53 - (Lib.bitLen d : Int) - ((i : Int) - 348) * 108853 / 32768) - (64 - (Lib.bitLen d : Int)) + ((i : Int) - 348) * 108853 / 32768 + 3)).toNat = s at *
    have hs64 : s < 64 := by omega
    generalize huu : uscaleN (d * 2 ^ (64 - Lib.bitLen d)) (powHi i) (powLo i) s = u at *
    have ht2 : (decide ((36028797018963966 : Int) ≤ (u : Int))).toNat = (decide (36028797018963966 ≤ u)).toNat := by
      congr 1; by_cases h : 36028797018963966 ≤ u
      · simp [h]; omega
      · simp [h]; omega
    have htb : (decide (36028797018963966 ≤ u)).toNat ≤ 1 := Bool.toNat_le _
    generalize (decide (36028797018963966 ≤ u)).toNat = t at *
    have hv1 : u / 2 ^ t ≤ u := Nat.div_le_self _ _
    have hv := or1_le (u / 2 ^ t) (u % 2) (by omega)
    have hxx : IntKind.u64.wrap ((d : Int) * 2 ^ (64 - Lib.bitLen d)) = ((d * 2 ^ (64 - Lib.bitLen d) : Nat) : Int) := by
      rw [shl_nat, Nat.mod_eq_of_lt hx]
    have hr : (u / 2 ^ t ||| u % 2) < 18446744073709551000 := by omega
    have hm2 : sg ||| ((u / 2 ^ t ||| u % 2) + 1 + (u / 2 ^ t ||| u % 2) / 4 % 2) / 4 < 18446744073709551616 := Nat.or_lt_two_pow (n := 64) hsg (by omega)
    exact parse64_small d _ i _ _ sg _ s _ _ _ w hd rfl q4 q2 hi2 rfl rfl hsn hs64 hxx hx u t huu ht2 htb _ _ _ _ (shr_nat u t) (and1 u (by omega)) (u64_or_nat _ _ (by omega) (by omega)) hr rfl (u64_or_nat _ _ hsg (by omega)) hm2 l1 l2 c0 c1 ht.size
end Go.Proofs.YtgjhjfldocapjaaGreatDoor

namespace Go.Proofs.YtgjhjfldocapjaaGreatDoor
open Go.RowKit

set_option maxRecDepth 20000 in
set_option maxHeartbeats 400000 in
theorem special_digit (s : ByteArray) (w : World) (h0 : 0 < s.size) (hm : s.size ≤ 9223372036854775807) (c1 : 48 ≤ (s[0].toNat : Int)) (c2 : (s[0].toNat : Int) ≤ 57) :
    Calls Tryz.prog 231 #[.string s] w fun e w' => e = .returned (.tuple #[.float .f64 0, .int .i64 0, .bool false]) ∧ w' = w := by
  go_enter Tryz.func231, Tryz.ntmps231
  go_wp2_with fail
  go_ret3
  exact ⟨rfl, rfl⟩

set_option maxRecDepth 20000 in
set_option maxHeartbeats 400000 in
theorem common_digit (s : ByteArray) (w : World) (h0 : 0 < s.size) (hm : s.size ≤ 9223372036854775807) (c1 : 48 ≤ (s[0].toNat : Int)) (c2 : (s[0].toNat : Int) ≤ 57) :
    Calls Tryz.prog 253 #[.string s, .string ⟨#[105, 110, 102, 105, 110, 105, 116, 121]⟩] w fun e w' => e = .returned (.int .i64 0) ∧ w' = w := by
  go_enter Tryz.func253, Tryz.ntmps253
  have hmin : (0 : Int) < min 8 (s.size : Int) := by omega
  have hc : ((({ data := #[105, 110, 102, 105, 110, 105, 116, 121] } : ByteArray)[0]'(by decide)).toNat : Int) = 105 := rfl
  have hne : ((s[0].toNat : Int) != ((({ data := #[105, 110, 102, 105, 110, 105, 116, 121] } : ByteArray)[0]'(by decide)).toNat : Int)) = true := by rw [hc, bne_iff_ne]; omega
  clear hc
  go_wp2_with fail
  refine wp_loop_rounds 1 ?_
  rw [rounds_succ]
  go_wp2_with fail
  go_ret
  exact ⟨rfl, rfl⟩

set_option maxRecDepth 20000 in
set_option maxHeartbeats 400000 in
theorem special_minus (s : ByteArray) (w : World) (h0 : 1 < s.size) (hm : s.size ≤ 9223372036854775807) (c0 : (s[0].toNat : Int) = 45) (c1 : 48 ≤ (s[1].toNat : Int)) (c2 : (s[1].toNat : Int) ≤ 57) :
    Calls Tryz.prog 231 #[.string s] w fun e w' => e = .returned (.tuple #[.float .f64 0, .int .i64 0, .bool false]) ∧ w' = w := by
  have e1 : 0 < (s.extract 1 s.size).size := by rw [ByteArray.size_extract]; omega
  have e2 : (s.extract 1 s.size)[0] = s[1] := by rw [ByteArray.getElem_extract]
  have L1 := common_digit (s.extract 1 s.size) w e1 (by rw [ByteArray.size_extract]; omega) (by rw [e2]; exact c1) (by rw [e2]; exact c2)
  have H1 := hide L1
  clear L1 e1 e2
  go_enter Tryz.func231, Tryz.ntmps231
  go_wp2_with fail
  refine (unhide H1).mono ?_
  rintro e w' ⟨rfl, rfl⟩
  go_wp2_with fail
  go_ret3
  exact ⟨rfl, rfl⟩
end Go.Proofs.YtgjhjfldocapjaaGreatDoor

namespace Go.Proofs.YtgjhjfldocapjaaGreatDoor
open Go.RowKit

set_option maxRecDepth 20000 in
set_option maxHeartbeats 400000 in
theorem div_core (u a b c d : Nat) (w : World) (h1 : (u : Int) / 10 = (a : Int)) (h2 : bits BinOp.and IntKind.u64 (u : Int) 1 = (b : Int)) (h3 : bits BinOp.or IntKind.u64 (a : Int) (b : Int) = (c : Int))
    (h4 : bits BinOp.or IntKind.u64 (c : Int) (((u : Int) % 10 != 0).toNat : Int) = (d : Int)) (h5 : IntKind.u64.wrap (a : Int) = (a : Int)) :
    Calls Tryz.prog 224 #[.int .u64 u, .int .u64 10] w fun e w' => e = .returned (.int .u64 d) ∧ ∃ n, w' = w.drewN n := by
  go_enter Tryz.func224, Tryz.ntmps224
  go_wp2_with fail
  go_quiet ((go_at_call 251; exact Calls.quiet_of_same (bool2r_any _ _)))
  go_wp2_with fail
  go_ret
  exact ⟨rfl, _, rfl⟩

def divN (u : Nat) : Nat := (u / 10 ||| u % 2) ||| (decide (u % 10 ≠ 0)).toNat

theorem divN_le (u : Nat) : divN u ≤ u / 10 + 2 := by
  unfold divN
  have h1 := or1_le (u / 10) (u % 2) (by omega)
  have h2 := or1_le (u / 10 ||| u % 2) (decide (u % 10 ≠ 0)).toNat (Bool.toNat_le _)
  omega

theorem div_any (u : Nat) (w : World) (hu : u < 18446744073709551616) :
    Calls Tryz.prog 224 #[.int .u64 u, .int .u64 10] w fun e w' => e = .returned (.int .u64 (divN u)) ∧ ∃ n, w' = w.drewN n := by
  have hb := or1_le (u / 10) (u % 2) (by omega)
  have e : (((u : Int) % 10 != 0).toNat : Int) = (((decide (u % 10 ≠ 0)).toNat : Nat) : Int) := by
    by_cases h : u % 10 = 0
    · have : ((u : Int) % 10 != 0) = false := by rw [bne_eq_false_iff_eq]; omega
      rw [this]; simp [h]
    · have : ((u : Int) % 10 != 0) = true := by rw [bne_iff_ne]; omega
      rw [this]; simp [h]
  have ht : (decide (u % 10 ≠ 0)).toNat ≤ 1 := Bool.toNat_le _
  exact div_core u (u / 10) (u % 2) (u / 10 ||| u % 2) (divN u) w (by omega) (and1 u hu) (u64_or_nat _ _ (by omega) (by omega)) (by rw [e]; exact u64_or_nat _ _ (by omega) (by omega)) (by rw [IntKind.wrap_u64]; omega)

set_option maxRecDepth 20000 in
set_option maxHeartbeats 1000000 in
theorem fixed_core (m n i hi lo s u t : Nat) (e p lp prec : Int) (w : World) (hm : m < 18446744073709551616) (hn1 : 1 ≤ n) (hn2 : n ≤ 18) (he1 : -1200 ≤ e) (he2 : e ≤ 1200)
    (hp : (n : Int) - 1 - (e + 63) * 78913 / 262144 = p) (hpi : p + 348 = (i : Int)) (hi2 : i < 696) (hlp : p * 108853 / 32768 = lp) (hs : -(e + lp + 3) = s) (hs64 : s < 64)
    (hu : uscaleN m hi lo s = u) (hub : u < 4611686018427387904) (ht1 : 1 ≤ t) (ht2 : t < 4611686018427387904) (hh : hi < 18446744073709551616) (hl : lo < 18446744073709551616)
    (c0 : w.cell? ⟨10, i * 2, none⟩ = some (.int .u64 hi)) (c1 : w.cell? ⟨10, i * 2 + 1, none⟩ = some (.int .u64 lo)) (hz : 10 < w.heap.size)
    (c2 : w.cell? ⟨6, n, none⟩ = some (.int .u64 t)) :
    Calls Tryz.prog 187 #[.int .u64 m, .int .i64 e, .int .i64 n, .int .i64 prec, .int .u8 101] w fun z w' =>
      z = .returned (.tuple (if 4 * t - 2 ≤ u then #[.int .u64 ((divN u + 1 + divN u / 4 % 2) / 4 : Nat), .int .i64 (-(p - 1))] else #[.int .u64 ((u + 1 + u / 4 % 2) / 4 : Nat), .int .i64 (-p)])) ∧ Below w.heap.size w w' := by
  have hp1 : -700 ≤ p := by omega
  have hp2 : p ≤ 700 := by omega
  have hlp1 : -2000 ≤ lp := by omega
  have hlp2 : lp ≤ 2000 := by omega
  have L1 := log10Pow2_any (e + 63) w (by omega) (by omega)
  have L2 := fun w => log2Pow10_any p w (by omega) (by omega)
  rw [hlp] at L2
  have L3 := prescale_new hi lo i e p lp w hpi (by omega) (by omega) (by omega) (by omega) hi2 c0 c1 hz
  rw [hs] at L3
  have hz7 : 6 < w.heap.size := by omega
  have d2 : ∀ o, (w.alloc o).cell? ⟨6, n, none⟩ = some (.int .u64 t) := fun o => by rw [World.cell?_alloc_past _ _ _ hz7]; exact c2
  have H1 := hide L1
  have H2 := hide L2
  have H3 := hide L3
  have Hs := hide hs
  have Hlp := hide hlp
  have Hpi := hide hpi
  clear L1 L2 L3 hs hlp hpi
  have HU : Hid (∀ w, Calls Tryz.prog 223 #[.int .u64 t] w fun e w' => e = .returned (.int .u64 (4 * t - 2 : Nat)) ∧ w' = w) := fun w => unmin_any t w ht2 ht1
  generalize 4 * t - 2 = t4 at *
  by_cases hbig : t4 ≤ u
  · have hb1 : (t4 : Int) ≤ (u : Int) := by omega
    have hdv := divN_le u
    rw [if_pos hbig]
    obtain ⟨r, hr⟩ : ∃ r, (divN u + 1 + divN u / 4 % 2) / 4 = r := ⟨_, rfl⟩
    rw [hr]
    have Hr := hide hr
    clear hr
    go_enter Tryz.func187, Tryz.ntmps187
    go_wp2_with fail
    refine (unhide H1).mono ?_
    rintro x w1 ⟨rfl, hw⟩; rw [hw]; clear hw w1
    go_wp2_with fail
    refine (unhide H2 _).mono ?_
    rintro x w1 ⟨rfl, hw⟩; rw [hw]; clear hw w1
    go_wp2_with fail
    refine (unhide H3).mono ?_
    rintro x w1 ⟨rfl, hw⟩; rw [hw]; clear hw w1
    go_wp2_with fail
    refine (uscale_any m hi lo s w.heap.size _ hm hh hl hs64 (by simp) (by simp) (by simp)).mono ?_
    rintro x w2 ⟨rfl, nn, rfl⟩
    rw [hu]
    go_wp2_with fail
    refine (unhide HU _).mono ?_
    rintro x w1 ⟨rfl, hw⟩; rw [hw]; clear hw w1
    go_wp2_with fail
    refine (div_any u _ (by omega)).mono ?_
    rintro x w3 ⟨rfl, n3, rfl⟩
    go_wp2_with fail
    refine (round_any (divN u) _ (by omega)).mono ?_
    rintro x w1 ⟨rfl, hw⟩; rw [hw]; clear hw w1
    rw [unhide Hr]
    go_wp2_with fail
    go_ret2
    exact ⟨rfl, below_drewN ((Below.refl _ _).alloc (Nat.le_refl _) _) _⟩
  · have hb1 : ¬ (t4 : Int) ≤ (u : Int) := by omega
    rw [if_neg hbig]
    obtain ⟨r, hr⟩ : ∃ r, (u + 1 + u / 4 % 2) / 4 = r := ⟨_, rfl⟩
    rw [hr]
    have Hr := hide hr
    clear hr
    go_enter Tryz.func187, Tryz.ntmps187
    go_wp2_with fail
    refine (unhide H1).mono ?_
    rintro x w1 ⟨rfl, hw⟩; rw [hw]; clear hw w1
    go_wp2_with fail
    refine (unhide H2 _).mono ?_
    rintro x w1 ⟨rfl, hw⟩; rw [hw]; clear hw w1
    go_wp2_with fail
    refine (unhide H3).mono ?_
    rintro x w1 ⟨rfl, hw⟩; rw [hw]; clear hw w1
    go_wp2_with fail
    refine (uscale_any m hi lo s w.heap.size _ hm hh hl hs64 (by simp) (by simp) (by simp)).mono ?_
    rintro x w2 ⟨rfl, nn, rfl⟩
    rw [hu]
    go_wp2_with fail
    refine (unhide HU _).mono ?_
    rintro x w1 ⟨rfl, hw⟩; rw [hw]; clear hw w1
    go_wp2_with fail
    refine (round_any u _ (by omega)).mono ?_
    rintro x w1 ⟨rfl, hw⟩; rw [hw]; clear hw w1
    rw [unhide Hr]
    go_wp2_with fail
    go_ret2
    exact ⟨rfl, below_drewN ((Below.refl _ _).alloc (Nat.le_refl _) _) _⟩
end Go.Proofs.YtgjhjfldocapjaaGreatDoor
