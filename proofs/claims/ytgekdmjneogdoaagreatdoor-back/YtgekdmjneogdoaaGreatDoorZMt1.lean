import Derived.Test.YtgekdmjneogdoaaGreatDoorZChWr
import Derived.Laws.BitsAll
import Derived.BigQuiet
import Derived.Deep.QuietTactic
namespace Go.Proofs.YtgekdmjneogdoaaGreatDoor
open Go.RowKit

/-! meters: the leaves -/
theorem mbits_run (n : Nat) (w : World) : Sem.run Tryz.prog (callFunc 46 #[.float .f64 n]) w = .ok (.value (.int .u64 n)) w := by kernel_rfl
theorem mfromb_run (n : Int) (w : World) : Sem.run Tryz.prog (callFunc 40 #[.int .u64 n]) w = .ok (.value (.float .f64 n.toNat)) w := by kernel_rfl

theorem and_low63 (v : Nat) (hv : v < 18446744073709551616) : bits BinOp.andNot IntKind.u64 (v : Int) 9223372036854775808 = ((v % 9223372036854775808 : Nat) : Int) := by
  have h := u64_andNot (v : Int) 9223372036854775808 (by omega) (by omega) (by omega) (by omega)
  rw [h]
  have h2 : ((18446744073709551615 - (9223372036854775808 : Int).toNat : Nat)) = 2 ^ 63 - 1 := by decide
  first
    | rw [h2, Int.toNat_natCast, Nat.and_two_pow_sub_one_eq_mod]
    | simp [Nat.and_two_pow_sub_one_eq_mod]

set_option maxHeartbeats 400000 in
theorem abs_any (v : Nat) (hv : v < 18446744073709551616) (w : World) :
    Calls Tryz.prog 71 #[.float .f64 v] w fun e w' => e = .returned (.float .f64 (v % 9223372036854775808)) ∧ w' = w := by
  have hfb := mbits_run
  have hff := mfromb_run
  have hb := and_low63 v hv
  go_enter Tryz.func71, Tryz.ntmps71
  go_wp2_with fail
  go_ret
  exact ⟨rfl, rfl⟩

set_option maxHeartbeats 400000 in
theorem isNaN_m (v : Nat) (w : World) :
    Calls Tryz.prog 41 #[.float .f64 v] w fun e w' => e = .returned (.bool (FloatKind.f64.format.order v v != some .eq)) ∧ w' = w := by
  go_enter Tryz.func41, Tryz.ntmps41
  go_wp2_with fail
  go_ret
  exact ⟨rfl, rfl⟩

set_option maxHeartbeats 400000 in
theorem noNum_m (v : Nat) (w : World) :
    Calls Tryz.prog 58 #[.int .u64 v] w fun e w' => e = .returned (.bool (FloatKind.f64.format.order v v != some .eq)) ∧ w' = w := by
  have hff := mfromb_run
  go_enter Tryz.func58, Tryz.ntmps58
  go_wp2_with fail
  refine (isNaN_m v _).mono ?_
  rintro e w1 ⟨rfl, rfl⟩
  go_wp2_with fail
  go_ret
  exact ⟨rfl, rfl⟩

/-- is it small? -/
def smallB (v : Nat) : Bool := FloatKind.f64.format.order (v % 9223372036854775808) 4503599627370496 == some .lt
def bucketN (v : Nat) : Nat := if smallB v then 0 else v / 35184372088832 * 35184372088832

theorem bucketN_lt (v : Nat) (hv : v < 18446744073709551616) : bucketN v < 18446744073709551616 := by
  unfold bucketN
  split <;> omega

set_option maxHeartbeats 400000 in
theorem bucket_any (v : Nat) (hv : v < 18446744073709551616) (w : World) :
    Calls Tryz.prog 59 #[.int .u64 v] w fun e w' => e = .returned (.int .u64 (bucketN v)) ∧ w' = w := by
  have hff := mfromb_run
  have hA := hide (abs_any v hv)
  have hb : bucketN v = if smallB v then 0 else v / 35184372088832 * 35184372088832 := rfl
  cases hc : smallB v with
  | true =>
    have hc2 : (FloatKind.f64.format.order (v % 9223372036854775808) 4503599627370496 == some .lt) = true := hc
    rw [hb, if_pos hc]
    clear hb hc
    go_enter Tryz.func59, Tryz.ntmps59
    go_wp2_with fail
    refine (unhide hA _).mono ?_
    rintro e w1 ⟨rfl, rfl⟩
    go_wp2_with fail
    go_ret
    exact ⟨rfl, rfl⟩
  | false =>
    have hc2 : (FloatKind.f64.format.order (v % 9223372036854775808) 4503599627370496 == some .lt) = false := hc
    rw [hb, if_neg (by rw [hc]; decide)]
    clear hb hc
    go_enter Tryz.func59, Tryz.ntmps59
    go_wp2_with fail
    refine (unhide hA _).mono ?_
    rintro e w1 ⟨rfl, rfl⟩
    go_wp2_with fail
    go_ret
    refine ⟨?_, rfl⟩
    apply retU
    have h1 := shr_nat v 45
    have h2 := shl_nat (v / 2 ^ 45) 45
    simp only [h1, h2] at *
    first
      | omega
      | (rw [h2]; omega)

theorem infoTally : (Tryz.prog.info? 96).map (fun i => (i.zero, i.size, i.bytes)) = some (some (.map none), 1, 8) := by kernel_rfl

theorem madeCells_nil (n : Nat) : madeCells (Value.map none).cells n = Array.replicate n (.map none) := by
  apply Array.ext
  · simp [madeCells]
  · intro i h1 h2
    simp [madeCells, Value.cells, Nat.mod_one]

theorem make_tallies (n : Nat) (hn : n ≤ 8) (w : World) : (Instr.makeSlice 91 (.int .i64 n) (.int .i64 n)).run Tryz.prog w = .ok (.slice (some ⟨w.heap.size, 0, none⟩) n n) (w.alloc (.cells (Array.replicate n (.map none)) 96)) := by
  obtain ⟨i0, hi, hz0, hz1, hz2⟩ := info_parts infoTally
  have h := run_make (P := Tryz.prog) w 91 96 i0 (.map none) Tryz.underlying91 hi hz0 .i64 .i64 n n (by omega) (by omega) (by rw [hz2]; omega) (by omega)
  rw [h, hz1, Int.toNat_natCast, Nat.mul_one, madeCells_nil]

set_option maxRecDepth 20000 in
set_option maxHeartbeats 400000 in
theorem new_ok (n wd : Nat) (hn1 : 1 ≤ n) (hn2 : n ≤ 8) (hw1 : 1 ≤ wd) (hw2 : wd ≤ 1000000) (w : World) :
    Calls Tryz.prog 30 #[.int .i64 n, .int .i64 wd] w fun e w' => e = .returned (.tuple #[.pointer (some ⟨w.heap.size + 1, 0, none⟩), .int .i64 0]) ∧
      w' = (w.alloc (.cells (Array.replicate n (.map none)) 96)).alloc (.cells #[.int .i64 wd, .int .i64 0, .slice (some ⟨w.heap.size, 0, none⟩) n n, .pointer none, .int .i64 1, .int .i64 (-1099511627776)] 94) := by
  have hmk := make_tallies n hn2
  go_enter Tryz.func30, Tryz.ntmps30
  go_wp2_with fail
  go_ret2
  exact ⟨rfl, rfl⟩
end Go.Proofs.YtgekdmjneogdoaaGreatDoor
