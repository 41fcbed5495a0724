import Derived.Test.YtgekdmjneogdoaaGreatDoorXAw1
import Derived.Test.YtgekdmjneogdoaaGreatDoorXPlain
namespace Go.Proofs.YtgekdmjneogdoaaGreatDoor
open Go.RowKit

/-! fixedWidthFloat as a function, and what is asked of its numbers -/
def fixP (e : Int) (n : Nat) : Int := (n : Int) - 1 - (e + 63) * 78913 / 262144
def fixI (e : Int) (n : Nat) : Nat := (fixP e n + 348).toNat
def fixS (e : Int) (n : Nat) : Nat := (-(e + fixP e n * 108853 / 32768 + 3)).toNat
def fixU (m : Nat) (e : Int) (n : Nat) : Nat := uscaleN m (powHi (fixI e n)) (powLo (fixI e n)) (fixS e n)
def fixD (m : Nat) (e : Int) (n : Nat) : Nat × Int :=
  if 4 * 10 ^ n - 2 ≤ fixU m e n then ((divN (fixU m e n) + 1 + divN (fixU m e n) / 4 % 2) / 4, -(fixP e n - 1)) else ((fixU m e n + 1 + fixU m e n / 4 % 2) / 4, -(fixP e n))
def fixOk (m : Nat) (e : Int) (n : Nat) : Bool :=
  decide (m < 18446744073709551616) && decide (1 ≤ n) && decide (n ≤ 18) && decide (-1200 ≤ e) && decide (e ≤ 1200) && decide (0 ≤ fixP e n + 348) && decide (fixI e n < 696) && decide (0 ≤ -(e + fixP e n * 108853 / 32768 + 3)) && decide (fixS e n < 64) && decide (fixU m e n < 4611686018427387904)

theorem pow10_at (w : World) (ht : Tabs w) (n : Nat) (hn : n ≤ 18) : w.cell? ⟨6, n, none⟩ = some (.int .u64 ((10 ^ n : Nat) : Int)) := by
  obtain ⟨ty, fz, h⟩ := ht.u64pow
  rw [cell_of_row w _ n _ ty fz h]
  have h9 : ∀ k : Fin 19, Lib.pow10Tab[k.val]? = some ((10 ^ k.val : Nat) : Int) := by decide
  have h10 := h9 ⟨n, by omega⟩
  simp only at h10
  rw [List.getElem?_toArray, List.getElem?_map, h10]
  rfl

theorem fixed_at (m n : Nat) (e prec : Int) (w : World) (ht : Tabs w) (hok : fixOk m e n = true) :
    Calls Tryz.prog 227 #[.int .u64 m, .int .i64 e, .int .i64 n, .int .i64 prec, .int .u8 101] w fun z w' => z = .returned (.tuple #[.int .u64 (fixD m e n).1, .int .i64 (fixD m e n).2]) ∧ Below w.heap.size w w' := by
  simp only [fixOk, Bool.and_eq_true, decide_eq_true_eq] at hok
  obtain ⟨⟨⟨⟨⟨⟨⟨⟨⟨h1, h2⟩, h3⟩, h4⟩, h5⟩, h6⟩, h7⟩, h8⟩, h9⟩, h10⟩ := hok
  have hl := pow_lt (fixI e n) h7
  have hc := ht.pow (fixI e n) h7
  have ht1 : 1 ≤ 10 ^ n := Nat.one_le_pow _ _ (by decide)
  have ht2 : 10 ^ n ≤ 10 ^ 18 := Nat.pow_le_pow_right (by decide) h3
  have hx := fixed_core m n (fixI e n) (powHi (fixI e n)) (powLo (fixI e n)) (fixS e n) (fixU m e n) (10 ^ n) e (fixP e n) (fixP e n * 108853 / 32768) prec w h1 h2 h3 h4 h5 rfl (by unfold fixI; omega) h7 rfl (by unfold fixS; omega) h9 rfl h10 ht1 (by omega) hl.1 hl.2 hc.1 hc.2 ht.size (pow10_at w ht n h3)
  refine hx.mono ?_
  rintro z w' ⟨rfl, hb⟩
  refine ⟨?_, hb⟩
  unfold fixD
  by_cases h : 4 * 10 ^ n - 2 ≤ fixU m e n
  · rw [if_pos h, if_pos h]
  · rw [if_neg h, if_neg h]
end Go.Proofs.YtgekdmjneogdoaaGreatDoor
