import Derived.Test.YtgekdmjneogdoaaGreatDoorXParse
import Derived.Lib.LaidTab
import Derived.Lib.ItoaNum
import GoSem.PinnedTables
namespace Go.Proofs.YtgekdmjneogdoaaGreatDoor
open Go.RowKit

def powHi (i : Nat) : Nat := (Go.Pinned.pow10Rows.getD i (0, 0)).1
def powLo (i : Nat) : Nat := (Go.Pinned.pow10Rows.getD i (0, 0)).2
def fpow (j : Nat) : Nat := [4607182418800017408, 4621819117588971520, 4636737291354636288, 4652007308841189376, 4666723172467343360, 4681608360884174848, 4696837146684686336, 4711630319722168320, 4726483295884279808, 4741671816366391296, 4756540486875873280, 4771362005757984768, 4786511204640096256, 4801453603149578240, 4816244402031689728, 4831355200913801216, 4846369599423283200, 4861130398305394688, 4876203697187506176, 4891288408196988160, 4906019910204099648, 4921056587992461136, 4936209963552724370].getD j 0

theorem pow_lt : ∀ i, i < 696 → powHi i < 18446744073709551616 ∧ powLo i < 18446744073709551616 := by
  have h : (Go.Pinned.pow10Rows.all fun x => decide (x.1 < 18446744073709551616) && decide (x.2 < 18446744073709551616)) = true := by decide +kernel
  have hl : Go.Pinned.pow10Rows.length = 696 := by decide +kernel
  intro i hi
  have := List.all_eq_true.1 h (Go.Pinned.pow10Rows.getD i (0, 0)) (by
    rw [List.getD_eq_getElem?_getD, List.getElem?_eq_getElem (by omega)]; exact List.getElem_mem _)
  simp only [Bool.and_eq_true, decide_eq_true_eq] at this
  exact this

/-- what the package-level variables on the road hold -/
structure Tabs (w : World) : Prop where
  pow : ∀ i, i < 696 → w.cell? ⟨10, i * 2, none⟩ = some (.int .u64 (powHi i)) ∧ w.cell? ⟨10, i * 2 + 1, none⟩ = some (.int .u64 (powLo i))
  opt : w.cell? ⟨5, 0, none⟩ = some (.bool true)
  mant : w.cell? ⟨8, 0, none⟩ = some (.int .u64 52)
  expb : w.cell? ⟨8, 1, none⟩ = some (.int .u64 11)
  bias : w.cell? ⟨8, 2, none⟩ = some (.int .i64 (-1023))
  fpow : ∃ B O, w.cell? ⟨14, 0, none⟩ = some (.slice (some ⟨B, O, none⟩) 23 23) ∧ ∀ j, j < 23 → w.cell? ⟨B, O + j, none⟩ = some (.float .f64 (fpow j))
  err : ∃ ev, w.cell? ⟨4, 0, none⟩ = some ev ∧ (ev = .nilIface ∨ ∃ te pe, ev = .iface te pe)
  maxLen : ∃ m, w.cell? ⟨2, 0, none⟩ = some (.int .i64 m)
  u64pow : ∃ ty fz, w.heap[(6 : Nat)]? = some (.cells (Lib.pow10Tab.map fun z => Value.int .u64 z).toArray ty fz)

theorem lt_of_cell {w : World} {b o : Nat} {v : Value} (h : w.cell? ⟨b, o, none⟩ = some v) : b < w.heap.size := by
  unfold World.cell? at h
  by_cases hb : b < w.heap.size
  · exact hb
  · simp [Array.getElem?_eq_none (Nat.le_of_not_lt hb)] at h

theorem Tabs.size {w : World} (h : Tabs w) : 10 < w.heap.size := lt_of_cell (h.pow 0 (by omega)).1

theorem later {w w' : World} {b o : Nat} {v : Value} (hb : Below w.heap.size w w') (h : w.cell? ⟨b, o, none⟩ = some v) : w'.cell? ⟨b, o, none⟩ = some v := by
  rw [hb.cell (p := ⟨b, o, none⟩) (lt_of_cell h)]; exact h

theorem Tabs.below {w w' : World} (h : Tabs w) (hb : Below w.heap.size w w') : Tabs w' where
  pow i hi := ⟨later hb (h.pow i hi).1, later hb (h.pow i hi).2⟩
  opt := later hb h.opt
  mant := later hb h.mant
  expb := later hb h.expb
  bias := later hb h.bias
  fpow := by
    obtain ⟨B, O, h1, h2⟩ := h.fpow
    exact ⟨B, O, later hb h1, fun j hj => later hb (h2 j hj)⟩
  err := by
    obtain ⟨ev, h1, h2⟩ := h.err
    exact ⟨ev, later hb h1, h2⟩
  maxLen := by
    obtain ⟨m, h1⟩ := h.maxLen
    exact ⟨m, later hb h1⟩
  u64pow := by
    obtain ⟨ty, fz, h1⟩ := h.u64pow
    refine ⟨ty, fz, ?_⟩
    rw [hb.block _ (Nat.lt_trans (by decide) h.size)]; exact h1

theorem Tabs.tab {w : World} (h : Tabs w) {n : String} (hn : Tryz.prog.globalNamed n = some 6) : Lib.TabIs Tryz.prog w n .u64 Lib.pow10Tab := by
  obtain ⟨ty, fz, h1⟩ := h.u64pow
  unfold Lib.TabIs World.var?
  rw [hn, Option.bind_some, h1]

theorem Tabs.drewN {w : World} (h : Tabs w) (n : Nat) : Tabs (w.drewN n) := h.below (below_drewN (Below.refl _ _) n)

/-- what parseFloat64 gives: the bits, and whether there is an error -/
def parseN (d : Nat) (p : Int) (sg : Nat) : Nat × Bool :=
  let b := Lib.bitLen d
  let lp := p * 108853 / 32768
  let E := min 1074 (53 - (b : Int) - lp)
  let s := -(E - (64 - (b : Int)) + lp + 3)
  if 64 ≤ s then (sg, false)
  else
    let u := uscaleN (d * 2 ^ (64 - b)) (powHi (p + 348).toNat) (powLo (p + 348).toNat) s.toNat
    let t := (decide (36028797018963966 ≤ u)).toNat
    let v := (u / 2 ^ t) ||| (u % 2)
    pk64N (sg ||| ((v + 1 + v / 4 % 2) / 4)) (-(E - t))

theorem bitLenAux_bounds : ∀ (f d : Nat), d < 2 ^ f → d < 2 ^ Lib.bitLenAux f d ∧ Lib.bitLenAux f d ≤ f ∧ (1 ≤ d → 2 ^ (Lib.bitLenAux f d - 1) ≤ d ∧ 1 ≤ Lib.bitLenAux f d) := by
  intro f
  induction f with
  | zero => intro d h; simp [Lib.bitLenAux] at *; omega
  | succ f ih =>
    intro d h
    unfold Lib.bitLenAux
    by_cases hd : d = 0
    · simp [hd]
    · rw [if_neg hd]
      have h2 : d / 2 < 2 ^ f := by rw [Nat.pow_succ] at h; omega
      obtain ⟨a, b, c⟩ := ih (d / 2) h2
      refine ⟨?_, by omega, fun _ => ⟨?_, by omega⟩⟩
      · rw [Nat.add_comm, Nat.pow_succ]; omega
      · by_cases hq : d / 2 = 0
        · rw [hq]
          have : Lib.bitLenAux f 0 = 0 := by cases f <;> simp [Lib.bitLenAux]
          rw [this]; simp; omega
        · obtain ⟨c1, c2⟩ := c (by omega)
          have e : 1 + Lib.bitLenAux f (d / 2) - 1 = (Lib.bitLenAux f (d / 2) - 1) + 1 := by omega
          rw [e, Nat.pow_succ]; omega

theorem bitLen_bounds (d : Nat) (h : d < 18446744073709551616) (h1 : 1 ≤ d) : d < 2 ^ Lib.bitLen d ∧ Lib.bitLen d ≤ 64 ∧ 2 ^ (Lib.bitLen d - 1) ≤ d ∧ 1 ≤ Lib.bitLen d := by
  obtain ⟨a, b, c⟩ := bitLenAux_bounds 64 d (by omega)
  exact ⟨a, b, c h1⟩

theorem shift_lt (d b : Nat) (h : d < 2 ^ b) (hb : b ≤ 64) : d * 2 ^ (64 - b) < 18446744073709551616 := by
  have h2 : d * 2 ^ (64 - b) < 2 ^ b * 2 ^ (64 - b) := Nat.mul_lt_mul_of_pos_right h (Nat.two_pow_pos _)
  rw [← Nat.pow_add] at h2
  have : b + (64 - b) = 64 := by omega
  rw [this] at h2; exact h2

theorem or_one (a : Nat) : a ||| 1 = a / 2 * 2 + 1 := by
  by_cases h : a % 2 = 0
  · rw [nat_join 1 a 1 (by omega) (by omega)]; omega
  · have h2 : (a - 1) ||| 1 = a := by rw [nat_join 1 (a - 1) 1 (by omega) (by omega)]; omega
    have h3 : a ||| 1 = a := by
      have : ((a - 1) ||| 1) ||| 1 = (a - 1) ||| 1 := by rw [Nat.or_assoc, Nat.or_self]
      rw [h2] at this; exact this
    omega

theorem or1_le (a c : Nat) (h : c ≤ 1) : a ||| c ≤ a + 1 := by
  have h2 : c = 0 ∨ c = 1 := by omega
  rcases h2 with rfl | rfl
  · simp
  · rw [or_one]; omega

theorem uscaleN_lt (x hi lo s : Nat) (hx : x < 18446744073709551616) (hh : hi < 18446744073709551616) (hs : 8 ≤ s) : uscaleN x hi lo s < 144115188075855873 := by
  have key : ∀ a, a < 18446744073709551616 → a / 2 ^ s < 72057594037927936 := by
    intro a ha
    have h1 : a / 2 ^ s ≤ a / 2 ^ 8 := Nat.div_le_div_left (Nat.pow_le_pow_right (by omega) hs) (Nat.two_pow_pos _)
    omega
  have h1 : x * hi / 18446744073709551616 < 18446744073709551616 := by
    have : x * hi < 18446744073709551616 * 18446744073709551616 := Nat.mul_lt_mul'' hx hh
    omega
  unfold uscaleN
  split
  · have := or1_le (x * hi / 18446744073709551616 / 2 ^ s) 1 (by omega)
    have := key _ h1
    omega
  · have := or1_le ((x * hi / 18446744073709551616 + 18446744073709551616 - (decide (x * hi % 18446744073709551616 < x * lo / 18446744073709551616)).toNat) % 18446744073709551616 / 2 ^ s) (decide (1 < (x * hi % 18446744073709551616 + 18446744073709551616 - x * lo / 18446744073709551616) % 18446744073709551616)).toNat (Bool.toNat_le _)
    have := key _ (Nat.mod_lt (x * hi / 18446744073709551616 + 18446744073709551616 - (decide (x * hi % 18446744073709551616 < x * lo / 18446744073709551616)).toNat) (show 0 < 18446744073709551616 by omega))
    omega

end Go.Proofs.YtgekdmjneogdoaaGreatDoor
