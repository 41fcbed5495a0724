import Derived.Test.YtgekdmjneogdoaaGreatDoorYChWr
import Derived.Laws.BitsAll
import Derived.BigQuiet
import Derived.Deep.QuietTactic
import Derived.Maps.Own
import Derived.Maps.OwnOps
import Derived.Maps.OwnSet
import Derived.Maps.RangeWalk
import Derived.Laws.CopyRow
import Derived.Deep.RegionWith
namespace Go.Proofs.YtgekdmjneogdoaaGreatDoor
open Go.RowKit

/-! meters: the leaves -/
theorem mbits_run (n : Nat) (w : World) : Sem.run Tryz.prog (callFunc 46 #[.float .f64 n]) w = .ok (.value (.int .u64 n)) w := by kernel_rfl
theorem mfromb_run (n : Int) (w : World) : Sem.run Tryz.prog (callFunc 40 #[.int .u64 n]) w = .ok (.value (.float .f64 n.toNat)) w := by kernel_rfl

theorem and_low63 (v : Nat) (hv : v < 18446744073709551616) : bits BinOp.andNot IntKind.u64 (v : Int) 9223372036854775808 = ((v % 9223372036854775808 : Nat) : Int) := by
  have h := u64_andNot (v : Int) 9223372036854775808 (by omega) (by omega) (by omega) (by omega)
  rw [h]
  have h2 : ((18446744073709551615 - (9223372036854775808 : Int).toNat : Nat)) = 2 ^ 63 - 1 := by decide
  first
    | rw [h2, Int.toNat_natCast, Nat.and_two_pow_sub_one_eq_mod]
    | simp [Nat.and_two_pow_sub_one_eq_mod]

set_option maxHeartbeats 400000 in
theorem abs_any (v : Nat) (hv : v < 18446744073709551616) (w : World) :
    Calls Tryz.prog 71 #[.float .f64 v] w fun e w' => e = .returned (.float .f64 (v % 9223372036854775808)) ∧ w' = w := by
  have hfb := mbits_run
  have hff := mfromb_run
  have hb := and_low63 v hv
  go_enter Tryz.func71, Tryz.ntmps71
  go_wp2_with fail
  go_ret
  exact ⟨rfl, rfl⟩

set_option maxHeartbeats 400000 in
theorem isNaN_m (v : Nat) (w : World) :
    Calls Tryz.prog 41 #[.float .f64 v] w fun e w' => e = .returned (.bool (FloatKind.f64.format.order v v != some .eq)) ∧ w' = w := by
  go_enter Tryz.func41, Tryz.ntmps41
  go_wp2_with fail
  go_ret
  exact ⟨rfl, rfl⟩

set_option maxHeartbeats 400000 in
theorem noNum_m (v : Nat) (w : World) :
    Calls Tryz.prog 58 #[.int .u64 v] w fun e w' => e = .returned (.bool (FloatKind.f64.format.order v v != some .eq)) ∧ w' = w := by
  have hff := mfromb_run
  go_enter Tryz.func58, Tryz.ntmps58
  go_wp2_with fail
  refine (isNaN_m v _).mono ?_
  rintro e w1 ⟨rfl, rfl⟩
  go_wp2_with fail
  go_ret
  exact ⟨rfl, rfl⟩

/-- is it small? -/
def smallB (v : Nat) : Bool := FloatKind.f64.format.order (v % 9223372036854775808) 4503599627370496 == some .lt
def bucketN (v : Nat) : Nat := if smallB v then 0 else v / 35184372088832 * 35184372088832

theorem bucketN_lt (v : Nat) (hv : v < 18446744073709551616) : bucketN v < 18446744073709551616 := by
  unfold bucketN
  split <;> omega

set_option maxHeartbeats 400000 in
theorem bucket_any (v : Nat) (hv : v < 18446744073709551616) (w : World) :
    Calls Tryz.prog 59 #[.int .u64 v] w fun e w' => e = .returned (.int .u64 (bucketN v)) ∧ w' = w := by
  have hff := mfromb_run
  have hA := hide (abs_any v hv)
  have hb : bucketN v = if smallB v then 0 else v / 35184372088832 * 35184372088832 := rfl
  cases hc : smallB v with
  | true =>
    have hc2 : (FloatKind.f64.format.order (v % 9223372036854775808) 4503599627370496 == some .lt) = true := hc
    rw [hb, if_pos hc]
    clear hb hc
    go_enter Tryz.func59, Tryz.ntmps59
    go_wp2_with fail
    refine (unhide hA _).mono ?_
    rintro e w1 ⟨rfl, rfl⟩
    go_wp2_with fail
    go_ret
    exact ⟨rfl, rfl⟩
  | false =>
    have hc2 : (FloatKind.f64.format.order (v % 9223372036854775808) 4503599627370496 == some .lt) = false := hc
    rw [hb, if_neg (by rw [hc]; decide)]
    clear hb hc
    go_enter Tryz.func59, Tryz.ntmps59
    go_wp2_with fail
    refine (unhide hA _).mono ?_
    rintro e w1 ⟨rfl, rfl⟩
    go_wp2_with fail
    go_ret
    refine ⟨?_, rfl⟩
    apply retU
    have h1 := shr_nat v 45
    have h2 := shl_nat (v / 2 ^ 45) 45
    simp only [h1, h2] at *
    first
      | omega
      | (rw [h2]; omega)

theorem infoTally : (Tryz.prog.info? 96).map (fun i => (i.zero, i.size, i.bytes)) = some (some (.map none), 1, 8) := by kernel_rfl

theorem madeCells_nil (n : Nat) : madeCells (Value.map none).cells n = Array.replicate n (.map none) := by
  apply Array.ext
  · simp [madeCells]
  · intro i h1 h2
    simp [madeCells, Value.cells, Nat.mod_one]

theorem make_tallies (n : Nat) (hn : n ≤ 8) (w : World) : (Instr.makeSlice 91 (.int .i64 n) (.int .i64 n)).run Tryz.prog w = .ok (.slice (some ⟨w.heap.size, 0, none⟩) n n) (w.alloc (.cells (Array.replicate n (.map none)) 96)) := by
  obtain ⟨i0, hi, hz0, hz1, hz2⟩ := info_parts infoTally
  have h := run_make (P := Tryz.prog) w 91 96 i0 (.map none) Tryz.underlying91 hi hz0 .i64 .i64 n n (by omega) (by omega) (by rw [hz2]; omega) (by omega)
  rw [h, hz1, Int.toNat_natCast, Nat.mul_one, madeCells_nil]

set_option maxRecDepth 20000 in
set_option maxHeartbeats 400000 in
theorem new_ok (n wd : Nat) (hn1 : 1 ≤ n) (hn2 : n ≤ 8) (hw1 : 1 ≤ wd) (hw2 : wd ≤ 1000000) (w : World) :
    Calls Tryz.prog 30 #[.int .i64 n, .int .i64 wd] w fun e w' => e = .returned (.tuple #[.pointer (some ⟨w.heap.size + 1, 0, none⟩), .int .i64 0]) ∧
      w' = (w.alloc (.cells (Array.replicate n (.map none)) 96)).alloc (.cells #[.int .i64 wd, .int .i64 0, .slice (some ⟨w.heap.size, 0, none⟩) n n, .pointer none, .int .i64 1, .int .i64 (-1099511627776)] 94) := by
  have hmk := make_tallies n hn2
  go_enter Tryz.func30, Tryz.ntmps30
  go_wp2_with fail
  go_ret2
  exact ⟨rfl, rfl⟩
end Go.Proofs.YtgekdmjneogdoaaGreatDoor

namespace Go.Proofs.YtgekdmjneogdoaaGreatDoor
open Go.RowKit Go.Maps

/-! tallies: a map that tells how often each bucket is in a bag -/
theorem lawU : Keyed Tryz.prog 25 := int_keyed Tryz.underlying25

abbrev TK (x : Nat) : Lit := .int .u64 x

def TalD (D : DataW Unit) (bag : List Nat) : Prop :=
  (∀ x ∈ bag, x < 18446744073709551616) ∧ ∀ x : Nat, x < 18446744073709551616 → has D (TK x) = decide (x ∈ bag) ∧ D.atKey (TK x) (.lit (.int .i64 0)) = .lit (.int .i64 (bag.count x : Nat))

def Tal (w : World) (b : Nat) (bag : List Nat) : Prop :=
  ∃ (D : DataW Unit) (n : Nat), w.ownsMap Tryz.prog 25 (plainElem Tryz.prog 3) b n D ∧ n ≤ bag.length ∧ TalD D bag

theorem TalD.empty : TalD (.map []) [] := ⟨by simp, fun x _ => ⟨rfl, rfl⟩⟩

theorem Tal.made (w : World) : Tal (w.alloc (.map #[] 0)) w.heap.size [] := ⟨.map [], 0, World.ownsMap_made w _ _ _, Nat.le_refl _, TalD.empty⟩

theorem Tal.lt {w : World} {b : Nat} {bag : List Nat} (h : Tal w b bag) : b < w.heap.size := by
  obtain ⟨D, n, h1, _⟩ := h
  exact h1.lt

theorem Tal.grown {w w' : World} {b : Nat} {bag : List Nat} {row : Option Nat} (h : Tal w b bag) (hg : w.grownBy w' row) (hne : some b ≠ row) : Tal w' b bag := by
  obtain ⟨D, n, h1, h2, h3⟩ := h
  exact ⟨D, n, h1.kept hg hne, h2, h3⟩

theorem Tal.block {w w' : World} {b : Nat} {bag : List Nat} (h : Tal w b bag) (hb : w'.heap[b]? = w.heap[b]?) : Tal w' b bag := by
  obtain ⟨D, n, ⟨es, clock, h0, h1⟩, h2, h3⟩ := h
  exact ⟨D, n, ⟨es, clock, hb.trans h0, h1⟩, h2, h3⟩

theorem Tal.kept {K : Nat → Prop} {w w' : World} {b : Nat} {bag : List Nat} (h : Tal w b bag) (hk : Kept K w w') (hb : K b) : Tal w' b bag := h.block (hk.block b hb)

theorem Tal.below {B : Nat} {w w' : World} {b : Nat} {bag : List Nat} (h : Tal w b bag) (hk : Below B w w') (hb : b < B) : Tal w' b bag := h.block (hk.block b hb)

theorem TalD.put {D : DataW Unit} {bag bag' : List Nat} (h : TalD D bag) (hm : IsMap D) {x : Nat} (hx : x < 18446744073709551616) (hin : x ∈ bag') (hsub : ∀ y ∈ bag', y < 18446744073709551616) (hoth : ∀ y, y ≠ x → bag'.count y = bag.count y) :
    TalD (D.put (TK x) (.lit (.int .i64 (bag'.count x : Nat)))) bag' := by
  refine ⟨hsub, fun y hy => ?_⟩
  by_cases e : y = x
  · subst e
    refine ⟨?_, ?_⟩
    · rw [has_put_same hm (by trivial : WideAt.IsKeyLit (Lit.int .u64 (y : Int)))]; simp [hin]
    · rw [atKey_put_same hm (by trivial : WideAt.IsKeyLit (Lit.int .u64 (y : Int)))]
  · have hne : TK y ≠ TK x := fun h => e (by injection h with _ h2; exact Int.ofNat.inj h2)
    refine ⟨?_, ?_⟩
    · rw [has_put_other hne, (h.2 y hy).1]
      apply decide_eq_decide.2
      rw [← List.count_pos_iff, ← List.count_pos_iff, hoth y e]
    · rw [atKey_put_other hne, (h.2 y hy).2, hoth y e]

/-- of a bag what is no longer to come -/
def gone (left : Lit → Bool) (bag : List Nat) : List Nat := bag.filter fun x => !left (TK x)

theorem gone_start (D : DataW Unit) (bag : List Nat) (h : TalD D bag) : gone (has D) bag = [] := by
  unfold gone
  rw [List.filter_eq_nil_iff]
  intro x hx
  rw [(h.2 x (h.1 x hx)).1]
  simp [hx]

theorem gone_end (left : Lit → Bool) (bag : List Nat) (h : ∀ k, left k = false) : gone left bag = bag := by
  unfold gone
  rw [List.filter_eq_self]
  intro x _
  rw [h]; rfl

theorem same_TK (x y : Nat) : (TK y).sameKey (TK x) = decide (y = x) := by
  show decide (IntKind.u64 = IntKind.u64 ∧ (y : Int) = (x : Int)) = _
  apply decide_eq_decide.2
  constructor
  · rintro ⟨_, h⟩; omega
  · rintro rfl; exact ⟨rfl, rfl⟩

theorem gone_count (left : Lit → Bool) (bag : List Nat) (y : Nat) : (gone left bag).count y = if left (TK y) then 0 else bag.count y := by
  unfold gone
  split
  · rename_i h
    rw [List.count_eq_zero]
    simp [h]
  · rename_i h
    rw [List.count_filter]
    simp [h]

theorem gone_step_length (left : Lit → Bool) (bag : List Nat) (x : Nat) (hx : left (TK x) = true) :
    (gone (fun z => left z && !z.sameKey (TK x)) bag).length = (gone left bag).length + bag.count x := by
  unfold gone
  induction bag with
  | nil => rfl
  | cons y r ih =>
    have hs := same_TK x y
    dsimp only at ih
    by_cases e : y = x
    · subst e
      simp only [List.filter_cons, hx, hs, List.count_cons_self, decide_true, Bool.not_true, Bool.and_false, Bool.not_false, if_true, Bool.false_eq_true, if_false, List.length_cons]
      omega
    · cases hl : left (TK y) <;>
      · simp only [List.filter_cons, hl, hs, List.count_cons_of_ne (Ne.symm e |>.symm), e, decide_false, Bool.not_false, Bool.and_true, Bool.not_true, if_true, Bool.false_eq_true, if_false, List.length_cons]
        omega

theorem gone_length_le (left : Lit → Bool) (bag : List Nat) : (gone left bag).length ≤ bag.length := List.length_filter_le _ _

theorem gone_sub (left : Lit → Bool) (bag : List Nat) (y : Nat) (h : y ∈ gone left bag) : y ∈ bag := (List.mem_filter.1 h).1

set_option maxRecDepth 100000 in
set_option maxHeartbeats 800000 in
theorem tsamples_any (b : Nat) (bag : List Nat) (w : World) (hT : Tal w b bag) (hl : bag.length < 4611686018427387904) :
    Calls Tryz.prog 53 #[.map (some b)] w fun e w' => e = .returned (.int .i64 bag.length) ∧ Below w.heap.size w w' := by
  obtain ⟨D, n, hown, hn, hD⟩ := hT
  go_enter Tryz.func53, Tryz.ntmps53
  go_wp2_with (first
    | (at_range; refine wpList_range_own _ rfl _ 96 rfl 25 3 lawU Tryz.underlying96 _ b n _ rfl hown ?_; intro w0 hrg0 hg0 hs0)
    | go_in)
  go_frame
  have hb0 : Below w.heap.size w w0 := (Below.refl _ w).grown hg0 (Nat.le_refl _) (fun j hj => by cases hj)
  clear hg0 hs0
  go_loopw [3, 5] (fun s _ wr => ∃ (left : Lit → Bool) (cnt : Nat), wr.ranges Tryz.prog 25 (plainElem Tryz.prog 3) b w.heap.size n D left cnt ∧ s = .int .i64 ((gone left bag).length : Nat) ∧ Below w.heap.size w wr)
    (fun _ _ wr => wr.rangeLeft b w.heap.size)
  case atStart => exact ⟨_, _, hrg0, by rw [gone_start D bag hD]; rfl, hb0⟩
  case round =>
    obtain ⟨left, cnt, hrg, rfl, hb⟩ := hrel
    go_wp2_with (first
      | (at_next; refine wpList_next_ranges_ii _ rfl _ rfl 25 3 .u64 .i64 lawU Tryz.underlying25 Tryz.underlying3 b w.heap.size n _ _ _ rfl hrg ?_ ?_)
      | go_in)
    · intro _ hl0
      have he := gone_end left bag hl0
      go_wp2_with fail
      go_ret
      refine ⟨?_, hb⟩
      show Ending.returned (.int .i64 ((gone left bag).length : Nat)) = _
      rw [he]
    · intro x c w1 cnt1 hwx hwc hlx hat hrg1 hlt hg1 hs1 hen
      obtain ⟨x', rfl, hx'⟩ : ∃ x' : Nat, x = (x' : Int) ∧ x' < 18446744073709551616 := by
        have : 0 ≤ x ∧ x ≤ 18446744073709551615 := by
          have h := hwx
          simp only [Lit.wf, Bool.and_eq_true, decide_eq_true_eq] at h
          exact h
        exact ⟨x.toNat, by omega, by omega⟩
      obtain rfl : c = (bag.count x' : Nat) := by
        have h1 := (hD.2 x' hx').2
        rw [hat] at h1
        injection h1 with h2
        injection h2
      have hstep := gone_step_length left bag x' hlx
      have hle := gone_length_le (fun z => left z && !z.sameKey (TK x')) bag
      have hb1 : Below w.heap.size w w1 := hb.grown hg1 (hb.size) (fun j hj => by cases hj; exact Nat.le_refl _)
      clear hs1 hg1
      go_wp2_with fail
      go_roundw
      case rel => exact ⟨_, cnt1, hrg1, by rw [hstep]; push_cast; rfl, hb1⟩
      case measure => rw [hrg1.left_eq, hrg.left_eq]; exact hlt

set_option maxRecDepth 100000 in
theorem samples_nil (w : World) :
    Calls Tryz.prog 53 #[.map none] w fun e w' => e = .returned (.int .i64 0) ∧ Below w.heap.size w w' := by
  have hrg := run_range_nilMap (P := Tryz.prog) w 96 25 3 Tryz.underlying96
  have hnx : ∀ ty, (Instr.next (.pointer (some ⟨w.heap.size, 0, none⟩)) false ty).run Tryz.prog (w.alloc (.mapIter none 0 #[] 0)) = _ := fun ty => run_next_nilMap w ty 0 0 #[]
  go_enter Tryz.func53, Tryz.ntmps53
  go_wp2
  refine wp_loop_rounds 1 ?_
  rw [rounds_succ]
  go_wp2
  go_ret
  exact ⟨rfl, (Below.refl _ w).alloc (Nat.le_refl _) _⟩
end Go.Proofs.YtgekdmjneogdoaaGreatDoor

namespace Go.Proofs.YtgekdmjneogdoaaGreatDoor
open Go.RowKit Go.Maps

/-! the meter in memory -/
/-- what a meter has of a rule: its block, the workers, when they changed -/
structure MS where
  rb : Option Nat
  wk : Nat
  ch : Int

abbrev MS.zero : MS := ⟨none, 1, -1099511627776⟩

def rulePtr : Option Nat → Value
  | none => .pointer none
  | some b => .pointer (some ⟨b, 0, none⟩)

abbrev mcells (W C kb n : Nat) (S : MS) : Array Value := #[.int .i64 W, .int .i64 C, .slice (some ⟨kb, 0, none⟩) n n, rulePtr S.rb, .int .i64 S.wk, .int .i64 S.ch]

def Slot (w : World) (m : Option Nat) (bag : List Nat) : Prop := (m = none ∧ bag = []) ∨ ∃ b, m = some b ∧ Tal w b bag

/-- its own two blocks -/
structure Mt0 (w : World) (mb kb W C : Nat) (S : MS) (ms : List (Option Nat)) : Prop where
  hm : w.heap[mb]? = some (.cells (mcells W C kb ms.length S) 94 (0, 0))
  hk : w.heap[kb]? = some (.cells (ms.map Value.map).toArray 96 (0, 0))

theorem Mt0.c0 {w : World} {mb kb W C : Nat} {S : MS} {ms : List (Option Nat)} (h : Mt0 w mb kb W C S ms) : w.cell? ⟨mb, 0, none⟩ = some (.int .i64 W) := by
  simp [World.cell?, h.hm]
theorem Mt0.c1 {w : World} {mb kb W C : Nat} {S : MS} {ms : List (Option Nat)} (h : Mt0 w mb kb W C S ms) : w.cell? ⟨mb, 1, none⟩ = some (.int .i64 C) := by
  simp [World.cell?, h.hm]
theorem Mt0.c2 {w : World} {mb kb W C : Nat} {S : MS} {ms : List (Option Nat)} (h : Mt0 w mb kb W C S ms) : w.cell? ⟨mb, 2, none⟩ = some (.slice (some ⟨kb, 0, none⟩) ms.length ms.length) := by
  simp [World.cell?, h.hm]
theorem Mt0.f1 {w : World} {mb kb W C : Nat} {S : MS} {ms : List (Option Nat)} (h : Mt0 w mb kb W C S ms) : w.frozen? ⟨mb, 1, none⟩ = false := by
  simp [World.frozen?, h.hm]
theorem Mt0.ne {w : World} {mb kb W C : Nat} {S : MS} {ms : List (Option Nat)} (h : Mt0 w mb kb W C S ms) : mb ≠ kb := fun e => by
  have h1 := h.hm
  rw [e, h.hk] at h1
  injection h1 with h2
  injection h2 with _ h3
  exact absurd h3 (by decide)

set_option maxRecDepth 20000 in
set_option maxHeartbeats 400000 in
theorem age_any (mb W C t : Nat) (w : World) (c0 : w.cell? ⟨mb, 0, none⟩ = some (.int .i64 W)) (c1 : w.cell? ⟨mb, 1, none⟩ = some (.int .i64 C)) (hW1 : 1 ≤ W) (hW2 : W ≤ 1000000) (hC : C ≤ 1099511627776) (ht : t ≤ 1099511627776) :
    Calls Tryz.prog 57 #[.pointer (some ⟨mb, 0, none⟩), .int .i64 t] w fun e w' => e = .returned (.int .i64 ((C / W : Nat) - (t / W : Nat) : Int)) ∧ ∃ n, w' = w.drewN n := by
  have q1 : C / W ≤ C := Nat.div_le_self _ _
  have q2 : t / W ≤ t := Nat.div_le_self _ _
  have d1 : (C : Int) / (W : Int) = ((C / W : Nat) : Int) := (Int.natCast_ediv C W).symm
  have d2 : (t : Int) / (W : Int) = ((t / W : Nat) : Int) := (Int.natCast_ediv t W).symm
  have D1 := hide d1
  have D2 := hide d2
  clear d1 d2
  go_enter Tryz.func57, Tryz.ntmps57
  go_wp2_with fail
  go_quiet (fail)
  go_wp2_with fail
  go_ret
  refine ⟨?_, _, rfl⟩
  apply retI
  rw [unhide D1, unhide D2]
  generalize C / W = a at *
  generalize t / W = b at *
  unfold wrap64
  omega

theorem zero_tally (w : World) : (zeroValue 96).run Tryz.prog w = .ok (.map none) w := by kernel_rfl

theorem zeroCells_nil (n : Nat) : Builtin.zeroCells (Value.map none).cells n = Array.replicate n (.map none) := by
  apply Array.ext
  · simp [Builtin.zeroCells, Value.cells]
  · intro i h1 h2
    simp [Builtin.zeroCells, Value.cells, Nat.mod_one]

theorem run_clear (w : World) (ty : TypeId) (g n c : Nat) (cur : Array Value) (hg : w.heap[g]? = some (.cells cur 96 (0, 0))) (hn : n ≤ cur.size) :
    (Builtin.clear_ #[91] ty #[.slice (some ⟨g, 0, none⟩) n c]).run Tryz.prog w = .ok (.tuple #[]) (w.setRow g (List.replicate n (Value.map none) ++ cur.toList.drop n).toArray) := by
  cases n with
  | zero =>
    have : (List.replicate 0 (Value.map none) ++ cur.toList.drop 0).toArray = cur := by simp
    rw [this, setRow_self w g cur _ _ hg]
    simp [Builtin.clear_, run_underlying (P := Tryz.prog) Tryz.underlying91]
  | succ m =>
    have hst := run_storeCells_at Tryz.prog g 0 96 (List.replicate (m + 1) (Value.map none)) 0 cur w hg (by simpa using hn) (fun v hv => by rw [List.eq_of_mem_replicate hv]; rfl)
    simp only [Nat.zero_add, List.take_zero, List.nil_append, List.length_replicate] at hst
    have hz := zero_tally w
    have hc := zeroCells_nil (m + 1)
    simp [Builtin.clear_, run_underlying (P := Tryz.prog) Tryz.underlying91, hz, hc, hst]

/-- slices shifted by the fresh ones -/
def shifted (f : Nat) (ms : List (Option Nat)) : List (Option Nat) := List.replicate f none ++ ms.take (ms.length - f)

theorem shifted_length (f : Nat) (ms : List (Option Nat)) (h : f ≤ ms.length) : (shifted f ms).length = ms.length := by
  simp [shifted]; omega

theorem run_copy_kept (w : World) (ty : TypeId) (g f : Nat) (ms : List (Option Nat)) (hg : w.heap[g]? = some (.cells (ms.map Value.map).toArray 96 (0, 0))) (hf : f ≤ ms.length) :
    (Builtin.copy_ #[91, 91] ty #[.slice (some ⟨g, f, none⟩) (ms.length - f) (ms.length - f), .slice (some ⟨g, 0, none⟩) ms.length ms.length]).run Tryz.prog w =
        .ok (goInt ((ms.length - f : Nat) : Int)) (w.setRow g ((ms.take f ++ ms.take (ms.length - f)).map Value.map).toArray) := by
  have hl : ((ms.take (ms.length - f)).map Value.map).length = ms.length - f := by simp
  have h := run_copy_row (P := Tryz.prog) w 91 91 ty 96 g f (ms.length - f) (ms.length - f) ⟨g, 0, none⟩ ms.length ms.length (ms.map Value.map).toArray 96 ((ms.take (ms.length - f)).map Value.map)
    Tryz.underlying91 (by kernel_rfl) hg (by rw [hl]; simp) (fun j v hj => ?_) (by rw [hl]; simp; omega) (fun v hv => by obtain ⟨m, _, rfl⟩ := List.mem_map.1 hv; rfl)
  · rw [h, hl]
    have e : ((ms.map Value.map).toArray.toList.take f ++ (ms.take (ms.length - f)).map Value.map ++ (ms.map Value.map).toArray.toList.drop (f + (ms.length - f))) = (ms.take f ++ ms.take (ms.length - f)).map Value.map := by
      rw [List.drop_eq_nil_of_le (by simp; omega)]
      simp [List.map_take]
    rw [e]
  · have hadd : (⟨g, 0, none⟩ : Addr).add j = ⟨g, j, none⟩ := by unfold Addr.add; split <;> simp_all
    rw [hadd]
    rw [List.getElem?_map] at hj
    simp only [World.cell?, hg]
    obtain ⟨x, hx, rfl⟩ := Option.map_eq_some_iff.1 hj
    have := List.getElem?_take (l := ms) (i := ms.length - f) (j := j)
    rw [this] at hx
    split at hx
    · simp [hx]
    · cases hx

theorem run_copy_none' (w : World) (ty : TypeId) (g n : Nat) (cur : Array Value) (hg : w.heap[g]? = some (.cells cur 96 (0, 0))) :
    (Builtin.copy_ #[91, 91] ty #[.slice (some ⟨g, 0, none⟩) 0 0, .slice (some ⟨g, 0, none⟩) n n]).run Tryz.prog w = .ok (goInt 0) w := by
  have h := run_copy_row (P := Tryz.prog) w 91 91 ty 96 g 0 0 0 ⟨g, 0, none⟩ n n cur 96 [] Tryz.underlying91 (by kernel_rfl) hg (by simp) (fun j v hj => by simp at hj) (by simp) (fun v hv => by cases hv)
  rw [h]
  have e : (cur.toList.take 0 ++ [] ++ cur.toList.drop (0 + ([] : List Value).length)).toArray = cur := by simp
  rw [e, setRow_self w g cur _ _ hg]
  rfl

theorem shifted_row (f : Nat) (ms : List (Option Nat)) (hf : f ≤ ms.length) :
    (List.replicate f (Value.map none) ++ ((ms.take f ++ ms.take (ms.length - f)).map Value.map).toArray.toList.drop f).toArray = ((shifted f ms).map Value.map).toArray := by
  congr 1
  show List.replicate f (Value.map none) ++ ((ms.take f ++ ms.take (ms.length - f)).map Value.map).drop f = _
  rw [List.map_append, List.drop_append_of_le_length (by simp; omega), List.drop_eq_nil_of_le (by simp; omega), List.nil_append]
  simp [shifted]

set_option maxRecDepth 20000 in
set_option maxHeartbeats 400000 in
theorem begin_low (mb kb W C f : Nat) {S : MS} (ms : List (Option Nat)) (w : World) (h : Mt0 w mb kb W C S ms) (_hn : ms.length ≤ 8) (hf : f < ms.length) :
    Calls Tryz.prog 56 #[.pointer (some ⟨mb, 0, none⟩), .int .i64 f] w fun e w' => e = .returned (.tuple #[]) ∧ w' = w.drew.setRow kb ((shifted f ms).map Value.map).toArray := by
  have c2 := h.c2
  have c2' : w.drew.cell? ⟨mb, 2, none⟩ = some (.slice (some ⟨kb, 0, none⟩) ms.length ms.length) := c2
  have hcp := fun ty => run_copy_kept w.drew ty kb f ms h.hk (by omega)
  have h1 := setRow_heap w.drew kb _ ((ms.take f ++ ms.take (ms.length - f)).map Value.map).toArray _ _ h.hk
  have c2'' : (w.drew.setRow kb ((ms.take f ++ ms.take (ms.length - f)).map Value.map).toArray).cell? ⟨mb, 2, none⟩ = some (.slice (some ⟨kb, 0, none⟩) ms.length ms.length) := by
    rw [cell_setRow_other _ _ _ _ h.ne]; exact c2
  have hcl := fun ty c => run_clear _ ty kb f c _ h1 (by simp; omega)
  have hne : ¬ ms.length = f := by omega
  simp only [setRow_setRow, shifted_row f ms (by omega)] at hcl
  clear h1
  generalize ((shifted f ms).map Value.map).toArray = r2 at *
  generalize ((ms.take f ++ ms.take (ms.length - f)).map Value.map).toArray = r1 at *
  generalize hnn : ms.length = n at *
  clear hnn h
  go_enter Tryz.func56, Tryz.ntmps56
  go_wp2_with fail
  go_region
  all_goals go_wp2_with fail
  go_end0
  exact ⟨rfl, rfl⟩

set_option maxRecDepth 20000 in
set_option maxHeartbeats 400000 in
theorem begin_high (mb kb W C f : Nat) {S : MS} (ms : List (Option Nat)) (w : World) (h : Mt0 w mb kb W C S ms) (hn : ms.length ≤ 8) (hn1 : 1 ≤ ms.length) (hf : ms.length ≤ f) (hf2 : f ≤ 1099511627776) :
    Calls Tryz.prog 56 #[.pointer (some ⟨mb, 0, none⟩), .int .i64 f] w fun e w' => e = .returned (.tuple #[]) ∧ w' = w.drew.setRow kb ((shifted ms.length ms).map Value.map).toArray := by
  have c2 := h.c2
  have c2' : w.drew.cell? ⟨mb, 2, none⟩ = some (.slice (some ⟨kb, 0, none⟩) ms.length ms.length) := c2
  have hcp := fun ty => run_copy_none' w.drew ty kb ms.length _ h.hk
  have hcl := fun ty c => run_clear w.drew ty kb ms.length c _ h.hk (by simp)
  have hr : (List.replicate ms.length (Value.map none) ++ ((ms.map Value.map).toArray.toList.drop ms.length)).toArray = ((shifted ms.length ms).map Value.map).toArray := by
    rw [List.drop_eq_nil_of_le (by simp)]
    simp [shifted]
  rw [hr] at hcl
  clear hr
  generalize ((shifted ms.length ms).map Value.map).toArray = r2 at *
  generalize hnn : ms.length = n at *
  clear hnn h
  rcases Nat.eq_or_lt_of_le hf with e | hlt
  · subst e
    clear hf
    go_enter Tryz.func56, Tryz.ntmps56
    go_wp2_with fail
    go_region
    all_goals go_wp2_with fail
    go_end0
    exact ⟨rfl, rfl⟩
  · clear hf
    go_enter Tryz.func56, Tryz.ntmps56
    go_wp2_with fail
    go_region
    all_goals go_wp2_with fail
    go_end0
    exact ⟨rfl, rfl⟩
end Go.Proofs.YtgekdmjneogdoaaGreatDoor

namespace Go.Proofs.YtgekdmjneogdoaaGreatDoor
open Go.RowKit Go.Maps

def shiftB (f : Nat) (bags : List (List Nat)) : List (List Nat) := List.replicate f [] ++ bags.take (bags.length - f)

/-- the meter with what its slices hold; K: blocks that are not its own -/
structure Mtr (K : Nat → Prop) (w : World) (mb kb W C : Nat) (S : MS) (ms : List (Option Nat)) (bags : List (List Nat)) : Prop where
  z : Mt0 w mb kb W C S ms
  len : ms.length = bags.length
  sl : ∀ (i : Nat) (m : Option Nat) (g : List Nat), ms[i]? = some m → bags[i]? = some g → Slot w m g
  nd : ms.Pairwise (fun a b => a = none ∨ a ≠ b)
  hW : 1 ≤ W ∧ W ≤ 1000000
  hC : C ≤ 1099511627776
  hn : 1 ≤ ms.length ∧ ms.length ≤ 8
  out : ∀ k, K k → k < w.heap.size ∧ k ≠ mb ∧ k ≠ kb ∧ some k ∉ ms

theorem Slot.block {w w' : World} {m : Option Nat} {g : List Nat} (h : Slot w m g) (hb : ∀ b, m = some b → w'.heap[b]? = w.heap[b]?) : Slot w' m g := by
  rcases h with h | ⟨b, rfl, h⟩
  · exact Or.inl h
  · exact Or.inr ⟨b, rfl, h.block (hb b rfl)⟩

/-- a map's block is no row -/
theorem Mtr.apart {K : Nat → Prop} {w : World} {mb kb W C : Nat} {S : MS} {ms : List (Option Nat)} {bags : List (List Nat)} (h : Mtr K w mb kb W C S ms bags) {b : Nat} (hb : some b ∈ ms) : b ≠ mb ∧ b ≠ kb ∧ b < w.heap.size := by
  obtain ⟨i, hi⟩ := List.mem_iff_getElem?.1 hb
  have hi2 : i < ms.length := (List.getElem?_eq_some_iff.1 hi).1
  obtain ⟨g, hg⟩ : ∃ g, bags[i]? = some g := ⟨_, List.getElem?_eq_getElem (by rw [← h.len]; exact hi2)⟩
  rcases h.sl i _ g hi hg with ⟨e, _⟩ | ⟨b', e, hT⟩
  · cases e
  · cases e
    obtain ⟨D, n, ⟨es, clock, h0, _⟩, _⟩ := hT
    refine ⟨fun e => ?_, fun e => ?_, (Array.getElem?_eq_some_iff.1 h0).1⟩
    · subst e; rw [h.z.hm] at h0; cases h0
    · subst e; rw [h.z.hk] at h0; cases h0

theorem shifted_get (f : Nat) (ms : List (Option Nat)) (bags : List (List Nat)) (_hl : ms.length = bags.length) (i : Nat) (m : Option Nat) (g : List Nat) (h1 : (shifted f ms)[i]? = some m) (h2 : (shiftB f bags)[i]? = some g) :
    (m = none ∧ g = []) ∨ ∃ j : Nat, ms[j]? = some m ∧ bags[j]? = some g := by
  unfold shifted at h1
  unfold shiftB at h2
  by_cases hi : i < f
  · rw [List.getElem?_append_left (by simpa using hi)] at h1 h2
    rw [List.getElem?_replicate, if_pos hi] at h1 h2
    cases h1; cases h2
    exact Or.inl ⟨rfl, rfl⟩
  · rw [List.getElem?_append_right (by simp; omega)] at h1 h2
    rw [List.length_replicate, List.getElem?_take] at h1 h2
    split at h1
    · split at h2
      · exact Or.inr ⟨_, h1, h2⟩
      · cases h2
    · cases h1

theorem mem_shifted {f : Nat} {ms : List (Option Nat)} {b : Nat} (h : some b ∈ shifted f ms) : some b ∈ ms := by
  unfold shifted at h
  rcases List.mem_append.1 h with h | h
  · exact absurd (List.eq_of_mem_replicate h) (by simp)
  · exact List.mem_of_mem_take h

theorem shifted_nd {f : Nat} {ms : List (Option Nat)} (h : ms.Pairwise (fun a b => a = none ∨ a ≠ b)) : (shifted f ms).Pairwise (fun a b => a = none ∨ a ≠ b) := by
  unfold shifted
  rw [List.pairwise_append]
  refine ⟨?_, h.sublist (List.take_sublist _ _), fun a ha _ _ => Or.inl (List.eq_of_mem_replicate ha)⟩
  rw [List.pairwise_replicate]
  exact Or.inr (Or.inl rfl)

theorem shiftB_length (f : Nat) (bags : List (List Nat)) (h : f ≤ bags.length) : (shiftB f bags).length = bags.length := by
  simp [shiftB]; omega

theorem begin_any (mb kb W C f : Nat) {S : MS} (ms : List (Option Nat)) (w : World) (h : Mt0 w mb kb W C S ms) (hn : 1 ≤ ms.length ∧ ms.length ≤ 8) (hf : f ≤ 1099511627776) :
    Calls Tryz.prog 56 #[.pointer (some ⟨mb, 0, none⟩), .int .i64 f] w fun e w' => e = .returned (.tuple #[]) ∧ w' = w.drew.setRow kb ((shifted (min f ms.length) ms).map Value.map).toArray := by
  rcases Nat.lt_or_ge f ms.length with hlt | hge
  · rw [Nat.min_eq_left (by omega)]
    exact begin_low mb kb W C f ms w h hn.2 hlt
  · rw [Nat.min_eq_right hge]
    exact begin_high mb kb W C f ms w h hn.2 hn.1 hge hf

set_option maxRecDepth 20000 in
set_option maxHeartbeats 400000 in
theorem tick_ok {K : Nat → Prop} {w : World} {mb kb W C : Nat} {S : MS} {ms : List (Option Nat)} {bags : List (List Nat)} (h : Mtr K w mb kb W C S ms bags) (t : Nat) (ht1 : C ≤ t) (ht2 : t ≤ 1099511627776) :
    Calls Tryz.prog 31 #[.pointer (some ⟨mb, 0, none⟩), .int .i64 t] w fun e w' => e = .returned (.int .i64 0) ∧
      Mtr K w' mb kb W t S (shifted (min (t / W - C / W) ms.length) ms) (shiftB (min (t / W - C / W) ms.length) bags) ∧ Kept K w w' := by
  have c1 := h.z.c1
  have HA := hide (age_any mb W C t w h.z.c0 h.z.c1 h.hW.1 h.hW.2 h.hC ht2)
  have q1 : C / W ≤ t / W := Nat.div_le_div_right ht1
  have q2 : t / W ≤ t := Nat.div_le_self _ _
  generalize t / W = tw at *
  generalize C / W = cw at *
  have hC := h.hC
  have HB : Hid (∀ n, Calls Tryz.prog 56 #[.pointer (some ⟨mb, 0, none⟩), .int .i64 (tw - cw : Nat)] (w.drewN n) fun e w' => e = .returned (.tuple #[]) ∧ w' = (w.drewN n).drew.setRow kb ((shifted (min (tw - cw) ms.length) ms).map Value.map).toArray) :=
    fun n => begin_any mb kb W C (tw - cw) ms (w.drewN n) ⟨h.z.hm, h.z.hk⟩ h.hn (by omega)
  have H := hide h
  generalize hf : min (tw - cw) ms.length = f at *
  have hf2 : f ≤ ms.length := by omega
  have hneg : wrap64 (-((cw : Int) - (tw : Int))) = ((tw - cw : Nat) : Int) := by unfold wrap64; omega
  have F := hide hf2
  clear h hf hf2 q1 q2
  go_enter Tryz.func31, Tryz.ntmps31
  go_wp2_with fail
  refine (unhide HA).mono ?_
  rintro e w1 ⟨rfl, n, rfl⟩
  go_wp2_with fail
  refine (unhide HB n).mono ?_
  rintro e w2 ⟨rfl, rfl⟩
  obtain ⟨r, hr⟩ : ∃ r, ((shifted f ms).map Value.map).toArray = r := ⟨_, rfl⟩
  obtain ⟨w2, hw2⟩ : ∃ w2, (w.drewN n).drew.setRow kb ((shifted f ms).map Value.map).toArray = w2 := ⟨_, rfl⟩
  rw [hw2]
  have hm2 : w2.heap[mb]? = some (.cells (mcells W C kb ms.length S) 94 (0, 0)) := by
    rw [← hw2, setRow_other _ _ _ _ (unhide H).z.ne]; exact (unhide H).z.hm
  have hk2 : w2.heap[kb]? = some (.cells ((shifted f ms).map Value.map).toArray 96 (0, 0)) := by
    rw [← hw2]; exact setRow_heap _ _ _ _ _ _ (unhide H).z.hk
  have hK2 : ∀ k, k ≠ kb → w2.heap[k]? = w.heap[k]? := fun k hk => by rw [← hw2]; exact setRow_other _ _ _ _ hk
  have hs2 : w2.heap.size = w.heap.size := by rw [← hw2]; simp [World.drewN, World.drew]
  have ho2 : w2.os = w.os ∧ w2.tape = w.tape ∧ w2.output = w.output := by rw [← hw2]; exact ⟨rfl, rfl, rfl⟩
  have d1 : w2.cell? ⟨mb, 1, none⟩ = some (.int .i64 C) := by simp [World.cell?, hm2]
  have f1 : w2.frozen? ⟨mb, 1, none⟩ = false := by simp [World.frozen?, hm2]
  have P2 := hide (And.intro hm2 (And.intro hk2 (And.intro hK2 (And.intro hs2 ho2))))
  clear hm2 hk2 hK2 hs2 ho2 hw2 c1 hr
  go_wp2_with fail
  go_ret
  obtain ⟨hm2, hk2, hK2, hs2, ho1, ho2, ho3⟩ := unhide P2
  have h := unhide H
  have hsc : w2.setCell ⟨mb, 1, none⟩ (.int .i64 (t : Int)) = w2.setRow mb (mcells W t kb ms.length S) := setCell_eq_setRow w2 mb 1 _ _ _ _ hm2
  have hkeep : ∀ k, k ≠ kb → k ≠ mb → (w2.setCell ⟨mb, 1, none⟩ (.int .i64 (t : Int))).heap[k]? = w.heap[k]? := fun k h1 h2 => by
    rw [hsc, setRow_other _ _ _ _ h2, hK2 k h1]
  have hlen := shifted_length f ms (unhide F)
  refine ⟨rfl, ⟨⟨?_, ?_⟩, ?_, ?_, shifted_nd h.nd, h.hW, ht2, by rw [hlen]; exact h.hn, ?_⟩, ?_⟩
  · rw [hsc, setRow_heap _ _ _ _ _ _ hm2, hlen]
  · rw [hsc, setRow_other _ _ _ _ (Ne.symm h.z.ne)]; exact hk2
  · rw [hlen, shiftB_length f bags (by rw [← h.len]; exact unhide F), h.len]
  · intro i m g h1 h2
    rcases shifted_get f ms bags h.len i m g h1 h2 with e | ⟨j, hj1, hj2⟩
    · exact Or.inl e
    · refine (h.sl j m g hj1 hj2).block (fun b hb => ?_)
      have := h.apart (List.mem_of_getElem? (hb ▸ hj1))
      exact hkeep b this.2.1 this.1
  · intro k hk
    obtain ⟨a1, a2, a3, a4⟩ := h.out k hk
    exact ⟨by rw [hsc]; simp [hs2]; exact a1, a2, a3, fun hh => a4 (mem_shifted hh)⟩
  · refine ⟨?_, ?_, ?_, ?_, fun k hk => ?_⟩
    · rw [hsc]; exact ho1
    · rw [hsc]; exact ho2
    · rw [hsc]; exact ho3
    · rw [hsc]; simp [hs2]
    · obtain ⟨a1, a2, a3, a4⟩ := h.out k hk
      exact hkeep k a3 a2
end Go.Proofs.YtgekdmjneogdoaaGreatDoor

namespace Go.Proofs.YtgekdmjneogdoaaGreatDoor
open Go.RowKit Go.Maps

theorem zero_int (w : World) : (zeroValue 3).run Tryz.prog w = .ok (.int .i64 0) w := by kernel_rfl

theorem wfU (x : Nat) (h : x < 18446744073709551616) : (Lit.int .u64 (x : Int)).wf = true := by
  simp only [Lit.wf, Bool.and_eq_true, decide_eq_true_eq]
  exact (by omega : (0 : Int) ≤ x ∧ (x : Int) ≤ 18446744073709551615)

theorem wfI (x : Nat) (h : x < 9223372036854775808) : (Lit.int .i64 (x : Int)).wf = true := by
  simp only [Lit.wf, Bool.and_eq_true, decide_eq_true_eq]
  exact (by omega : (-9223372036854775808 : Int) ≤ x ∧ (x : Int) ≤ 9223372036854775807)

theorem keyU (x : Nat) (h : x < 18446744073709551616) : keyOf Tryz.prog 25 (.int .u64 x) = some (TK x) := keyOf_int_mk Tryz.underlying25 (wfU x h)

theorem lit_inj {a b : Int} (h : (DataW.lit (.int .i64 a) : DataW Unit) = .lit (.int .i64 b)) : a = b := by
  injection h with h1
  injection h1

theorem Tal.look {w : World} {b : Nat} {bag : List Nat} (h : Tal w b bag) (x : Nat) (hx : x < 18446744073709551616) :
    (Instr.lookup 96 (.map (some b)) (.int .u64 x) false).run Tryz.prog w = .ok (.int .i64 (bag.count x : Nat)) w := by
  obtain ⟨D, n, hown, hn, hD⟩ := h
  obtain ⟨c, hrun, hat, _⟩ := hown.lookup_int lawU Tryz.underlying96 Tryz.underlying3 (zero_int w) (keyU x hx)
  have h2 : ((bag.count x : Nat) : Int) = c := lit_inj ((hD.2 x hx).2.symm.trans hat)
  rw [hrun, h2]

theorem Tal.upd {w : World} {b : Nat} {bag bag' : List Nat} (h : Tal w b bag) (x : Nat) (hx : x < 18446744073709551616) (hin : x ∈ bag') (hsub : ∀ y ∈ bag', y < 18446744073709551616) (hoth : ∀ y, y ≠ x → bag'.count y = bag.count y) (hlen : bag.length + 1 ≤ bag'.length) (hl : bag'.length < 4611686018427387904) :
    ∃ w', (Instr.mapUpdate 96 (.map (some b)) (.int .u64 x) (.int .i64 (bag'.count x : Nat))).run Tryz.prog w = .ok () w' ∧ Tal w' b bag' ∧ w.grownBy w' (some b) := by
  obtain ⟨D, n, hown, hn, hD⟩ := h
  have hc : bag'.count x ≤ bag'.length := List.count_le_length
  obtain ⟨w', hrun, hown', hg⟩ := hown.update (val := .int .i64 (bag'.count x : Nat)) lawU Tryz.underlying96 (by unfold maxLen; omega) (keyU x hx) (plainElem_int Tryz.underlying3 (wfI _ (by omega)))
  exact ⟨w', hrun, ⟨_, n + 1, hown', by omega, hD.put hown.isMap hx hin hsub hoth⟩, hg⟩

theorem Tal.all {w : World} {b : Nat} {bag : List Nat} (h : Tal w b bag) : ∀ x ∈ bag, x < 18446744073709551616 := by
  obtain ⟨D, n, _, _, hD⟩ := h
  exact hD.1

theorem Tal.add {w : World} {b : Nat} {bag : List Nat} (h : Tal w b bag) (x : Nat) (hx : x < 18446744073709551616) (hl : bag.length + 1 < 4611686018427387904) :
    ∃ w', (Instr.mapUpdate 96 (.map (some b)) (.int .u64 x) (.int .i64 ((bag.count x + 1 : Nat) : Int))).run Tryz.prog w = .ok () w' ∧ Tal w' b (bag ++ [x]) ∧ w.grownBy w' (some b) := by
  have h1 : (bag ++ [x]).count x = bag.count x + 1 := by simp
  have := h.upd (bag' := bag ++ [x]) x hx (by simp) (fun y hy => by
    rcases List.mem_append.1 hy with hy | hy
    · exact h.all y hy
    · rw [List.mem_singleton.1 hy]; exact hx) (fun y hy => by simp [List.count_append, Ne.symm hy]) (by simp) (by simp; omega)
  rw [h1] at this
  exact this

theorem Mt0.ck {w : World} {mb kb W C : Nat} {S : MS} {ms : List (Option Nat)} (h : Mt0 w mb kb W C S ms) {a : Nat} {m : Option Nat} (ha : ms[a]? = some m) : w.cell? ⟨kb, a, none⟩ = some (.map m) := by
  simp [World.cell?, h.hk, ha]
theorem Mt0.fk {w : World} {mb kb W C : Nat} {S : MS} {ms : List (Option Nat)} (h : Mt0 w mb kb W C S ms) (a : Nat) : w.frozen? ⟨kb, a, none⟩ = false := by
  simp [World.frozen?, h.hk]

/-! what is refused -/
set_option maxRecDepth 20000 in
set_option maxHeartbeats 400000 in
theorem add_soon {w : World} {mb kb W C : Nat} {S : MS} {ms : List (Option Nat)} (h : Mt0 w mb kb W C S ms) (hW : 1 ≤ W ∧ W ≤ 1000000) (hC : C ≤ 1099511627776) (hl : ms.length ≤ 8) (t v : Nat) (ht : t ≤ 1099511627776) (hn : (FloatKind.f64.format.order v v != some .eq) = false)
    (ha : C / W < t / W) :
    Calls Tryz.prog 32 #[.pointer (some ⟨mb, 0, none⟩), .int .i64 t, .int .u64 v] w fun e w' => e = .returned (.int .i64 8) ∧ ∃ n, w' = w.drewN n := by
  have hff := mfromb_run
  have HA := hide (age_any mb W C t w h.c0 h.c1 hW.1 hW.2 hC ht)
  have c2 := h.c2
  generalize t / W = tw at *
  generalize C / W = cw at *
  generalize ms.length = n at *
  clear h
  go_enter Tryz.func32, Tryz.ntmps32
  go_wp2_with fail
  refine (noNum_m v _).mono ?_
  rintro e w1 ⟨rfl, h1⟩
  rw [hn, h1]
  clear h1 w1
  go_wp2_with fail
  refine (unhide HA).mono ?_
  rintro e w1 ⟨rfl, k, rfl⟩
  have c2' : (w.drewN k).cell? ⟨mb, 2, none⟩ = some (.slice (some ⟨kb, 0, none⟩) n n) := c2
  go_wp2_with fail
  go_ret
  exact ⟨rfl, _, rfl⟩
end Go.Proofs.YtgekdmjneogdoaaGreatDoor

namespace Go.Proofs.YtgekdmjneogdoaaGreatDoor
open Go.RowKit Go.Maps

theorem getElem?_set_cases {α : Type} {l : List α} {a i : Nat} {x y : α} (h : (l.set a x)[i]? = some y) : (i = a ∧ y = x) ∨ (i ≠ a ∧ l[i]? = some y) := by
  by_cases e : i = a
  · subst e
    rw [List.getElem?_set_self'] at h
    cases hl : l[i]? with
    | none => rw [hl] at h; cases h
    | some z => rw [hl] at h; cases h; exact Or.inl ⟨rfl, rfl⟩
  · rw [List.getElem?_set_ne (Ne.symm e)] at h
    exact Or.inr ⟨e, h⟩

/-- no other slice has this map -/
theorem Mtr.only {K : Nat → Prop} {w : World} {mb kb W C : Nat} {S : MS} {ms : List (Option Nat)} {bags : List (List Nat)} (h : Mtr K w mb kb W C S ms bags) {a i b c : Nat} (ha : ms[a]? = some (some b)) (hi : ms[i]? = some (some c)) (hne : i ≠ a) : c ≠ b := by
  intro e
  subst e
  have key : ∀ (x y : Nat), x < y → ms[x]? = some (some c) → ms[y]? = some (some c) → False := fun x y hxy h1 h2 => by
    obtain ⟨p1, q1⟩ := List.getElem?_eq_some_iff.1 h1
    obtain ⟨p2, q2⟩ := List.getElem?_eq_some_iff.1 h2
    have := (List.pairwise_iff_getElem.1 h.nd) x y p1 p2 hxy
    rw [q1, q2] at this
    rcases this with e | e
    · cases e
    · exact e rfl
  rcases Nat.lt_or_gt_of_ne hne with hlt | hgt
  · exact key i a hlt hi ha
  · exact key a i hgt ha hi

/-- the meter behind a sample in a slice that has a map -/
theorem Mtr.added {K : Nat → Prop} {w w' : World} {mb kb W C : Nat} {S : MS} {ms : List (Option Nat)} {bags : List (List Nat)} (h : Mtr K w mb kb W C S ms bags) {a b : Nat} {bag bag' : List Nat} (ha : ms[a]? = some (some b)) (_hb : bags[a]? = some bag)
    (hg : w.grownBy w' (some b)) (hT : Tal w' b bag') : Mtr K w' mb kb W C S ms (bags.set a bag') ∧ Kept K w w' := by
  have hap := h.apart (List.mem_of_getElem? ha)
  have hkeep : ∀ k, k < w.heap.size → k ≠ b → w'.heap[k]? = w.heap[k]? := fun k hk hne => hg.block k hk (fun e => hne (by injection e))
  have hmlt : mb < w.heap.size := (Array.getElem?_eq_some_iff.1 h.z.hm).1
  have hklt : kb < w.heap.size := (Array.getElem?_eq_some_iff.1 h.z.hk).1
  refine ⟨⟨⟨(hkeep mb hmlt (Ne.symm hap.1)).trans h.z.hm, (hkeep kb hklt (Ne.symm hap.2.1)).trans h.z.hk⟩, by rw [List.length_set]; exact h.len, ?_, h.nd, h.hW, h.hC, h.hn, ?_⟩, ?_⟩
  · intro i m g h1 h2
    rcases getElem?_set_cases h2 with ⟨rfl, rfl⟩ | ⟨hne, h2⟩
    · rw [ha] at h1
      cases h1
      exact Or.inr ⟨b, rfl, hT⟩
    · refine (h.sl i m g h1 h2).block (fun c hc => ?_)
      subst hc
      exact hkeep c (h.apart (List.mem_of_getElem? h1)).2.2 (h.only ha h1 hne)
  · intro k hk
    obtain ⟨a1, a2⟩ := h.out k hk
    exact ⟨Nat.lt_of_lt_of_le a1 hg.size, a2⟩
  · refine ⟨hg.os, hg.tape, hg.output, hg.size, fun k hk => ?_⟩
    obtain ⟨a1, a2, a3, a4⟩ := h.out k hk
    exact hkeep k a1 (fun e => a4 (e ▸ List.mem_of_getElem? ha))

theorem Mtr.drewN {K : Nat → Prop} {w : World} {mb kb W C : Nat} {S : MS} {ms : List (Option Nat)} {bags : List (List Nat)} (h : Mtr K w mb kb W C S ms bags) (n : Nat) : Mtr K (w.drewN n) mb kb W C S ms bags :=
  ⟨⟨h.z.hm, h.z.hk⟩, h.len, fun i m g h1 h2 => (h.sl i m g h1 h2).block (fun _ _ => rfl), h.nd, h.hW, h.hC, h.hn, h.out⟩

/-- a new map in a slice that had none -/
theorem Mtr.laid {K : Nat → Prop} {w : World} {mb kb W C : Nat} {S : MS} {ms : List (Option Nat)} {bags : List (List Nat)} (h : Mtr K w mb kb W C S ms bags) {a : Nat} (ha : ms[a]? = some none) :
    Mtr K ((w.alloc (.map #[] 0)).setCell ⟨kb, a, none⟩ (.map (some w.heap.size))) mb kb W C S (ms.set a (some w.heap.size)) bags ∧ Kept K w ((w.alloc (.map #[] 0)).setCell ⟨kb, a, none⟩ (.map (some w.heap.size))) := by
  have hmlt : mb < w.heap.size := (Array.getElem?_eq_some_iff.1 h.z.hm).1
  have hklt : kb < w.heap.size := (Array.getElem?_eq_some_iff.1 h.z.hk).1
  have hk1 : (w.alloc (.map #[] 0)).heap[kb]? = some (.cells (ms.map Value.map).toArray 96 (0, 0)) := (Below.heap_alloc w _ kb hklt).trans h.z.hk
  have hsc := setCell_eq_setRow (w.alloc (.map #[] 0)) kb a _ _ _ (.map (some w.heap.size)) hk1
  have hrow : (ms.map Value.map).toArray.setIfInBounds a (.map (some w.heap.size)) = ((ms.set a (some w.heap.size)).map Value.map).toArray := by
    simp [List.map_set]
  rw [hrow] at hsc
  have hkeep : ∀ k, k < w.heap.size → k ≠ kb → ((w.alloc (.map #[] 0)).setCell ⟨kb, a, none⟩ (.map (some w.heap.size))).heap[k]? = w.heap[k]? := fun k hk hne => by
    rw [hsc, setRow_other _ _ _ _ hne]; exact Below.heap_alloc w _ k hk
  have hnew : Tal ((w.alloc (.map #[] 0)).setCell ⟨kb, a, none⟩ (.map (some w.heap.size))) w.heap.size [] := by
    refine (Tal.made w).block ?_
    rw [hsc, setRow_other _ _ _ _ (by omega)]
  have hbag : ∀ g, bags[a]? = some g → g = [] := fun g hg => by
    rcases h.sl a none g ha hg with ⟨_, e⟩ | ⟨b, e, _⟩
    · exact e
    · cases e
  have hsz : ((w.alloc (.map #[] 0)).setCell ⟨kb, a, none⟩ (.map (some w.heap.size))).heap.size = w.heap.size + 1 := by rw [hsc]; simp
  have hnotin : some w.heap.size ∉ ms := fun hm => by have := (h.apart hm).2.2; omega
  refine ⟨⟨⟨?_, ?_⟩, by rw [List.length_set]; exact h.len, ?_, ?_, h.hW, h.hC, by rw [List.length_set]; exact h.hn, ?_⟩, ?_⟩
  · rw [List.length_set]
    exact (hkeep mb hmlt h.z.ne).trans h.z.hm
  · rw [hsc, setRow_heap _ _ _ _ _ _ hk1]
  · intro i m g h1 h2
    rcases getElem?_set_cases h1 with ⟨rfl, rfl⟩ | ⟨hne, h1⟩
    · rw [hbag g h2]
      exact Or.inr ⟨_, rfl, hnew⟩
    · refine (h.sl i m g h1 h2).block (fun c hc => ?_)
      subst hc
      have := h.apart (List.mem_of_getElem? h1)
      exact hkeep c this.2.2 this.2.1
  · rw [List.pairwise_iff_getElem]
    intro x y hx hy hxy
    have hx' : x < ms.length := by simpa using hx
    have hy' : y < ms.length := by simpa using hy
    have hold := (List.pairwise_iff_getElem.1 h.nd) x y hx' hy' hxy
    rw [List.getElem_set, List.getElem_set]
    split
    · split
      · omega
      · right
        intro e
        exact hnotin (e ▸ List.getElem_mem hy')
    · split
      · right
        intro e
        exact hnotin (e ▸ List.getElem_mem hx')
      · exact hold
  · intro k hk
    obtain ⟨a1, a2, a3, a4⟩ := h.out k hk
    refine ⟨by rw [hsz]; omega, a2, a3, fun hm => ?_⟩
    rcases List.mem_or_eq_of_mem_set hm with hm | e
    · exact a4 hm
    · injection e with e; omega
  · refine ⟨by rw [hsc]; rfl, by rw [hsc]; rfl, by rw [hsc]; rfl, by rw [hsz]; omega, fun k hk => ?_⟩
    obtain ⟨a1, a2, a3, a4⟩ := h.out k hk
    exact hkeep k a1 a3
end Go.Proofs.YtgekdmjneogdoaaGreatDoor

namespace Go.Proofs.YtgekdmjneogdoaaGreatDoor
open Go.RowKit Go.Maps

theorem Mt0.alloc {w : World} {mb kb W C : Nat} {S : MS} {ms : List (Option Nat)} (h : Mt0 w mb kb W C S ms) (o : Obj) : Mt0 (w.alloc o) mb kb W C S ms :=
  ⟨(Below.heap_alloc w o mb (Array.getElem?_eq_some_iff.1 h.hm).1).trans h.hm, (Below.heap_alloc w o kb (Array.getElem?_eq_some_iff.1 h.hk).1).trans h.hk⟩

theorem eql_map_none (w : World) : (binOp BinOp.eql 96 (.map none) (.map none)).run Tryz.prog w = .ok (.bool true) w := by kernel_rfl

set_option maxRecDepth 20000 in
set_option maxHeartbeats 800000 in
theorem add_none {K : Nat → Prop} {w : World} {mb kb W C : Nat} {S : MS} {ms : List (Option Nat)} {bags : List (List Nat)} (h : Mtr K w mb kb W C S ms bags) (t v a : Nat) (ht : t ≤ 1099511627776) (hv : v < 18446744073709551616) (hn : (FloatKind.f64.format.order v v != some .eq) = false)
    (ha : t / W + a = C / W) (hm : ms[a]? = some none) :
    Calls Tryz.prog 32 #[.pointer (some ⟨mb, 0, none⟩), .int .i64 t, .int .u64 v] w fun e w' => e = .returned (.int .i64 0) ∧ (∃ b, Mtr K w' mb kb W C S (ms.set a (some b)) (bags.set a [bucketN v])) ∧ Kept K w w' := by
  have hff := mfromb_run
  have heq := eql_map_none
  have hmm := @run_makeMap Tryz.prog
  have HA := hide (age_any mb W C t w h.z.c0 h.z.c1 h.hW.1 h.hW.2 h.hC ht)
  have HB := hide (bucket_any v hv)
  have hx := bucketN_lt v hv
  have hal : a < ms.length := (List.getElem?_eq_some_iff.1 hm).1
  have hn8 := h.hn.2
  have HM := hide (fun k => (h.drewN k).laid hm)
  have HK : Hid (∀ k, Kept K w (w.drewN k)) := fun k => ⟨rfl, rfl, rfl, Nat.le_refl _, fun _ _ => rfl⟩
  have hal2 : a < bags.length := by rw [← h.len]; exact hal
  have HZ := hide (And.intro h hm)
  generalize t / W = tw at *
  generalize C / W = cw at *
  have c2 := h.z.c2
  have ck := h.z.ck hm
  clear h hm
  have HL := hide hal
  have HL2 := hide hal2
  generalize hN : ms.length = n at *
  generalize hX : bucketN v = x at *
  go_enter Tryz.func32, Tryz.ntmps32
  go_wp2_with fail
  refine (noNum_m v _).mono ?_
  rintro e w1 ⟨rfl, h1⟩
  rw [hn, h1]
  clear h1 w1
  go_wp2_with fail
  refine (unhide HA).mono ?_
  rintro e w1 ⟨rfl, k, rfl⟩
  have hage : (cw : Int) - (tw : Int) = (a : Int) := by omega
  rw [hage]
  clear hage
  have HM1 := hide (unhide HM k)
  have HK1 := hide (unhide HK k)
  have c2' : (w.drewN k).cell? ⟨mb, 2, none⟩ = some (.slice (some ⟨kb, 0, none⟩) n n) := c2
  have ck' : (w.drewN k).cell? ⟨kb, a, none⟩ = some (.map none) := ck
  have fk' : (w.drewN k).frozen? ⟨kb, a, none⟩ = false := (unhide HZ).1.z.fk a
  have hf2 : ∀ (o : Obj), ((w.drewN k).alloc o).frozen? ⟨kb, a, none⟩ = false := fun o => ((unhide HZ).1.drewN k).z.alloc o |>.fk a
  have cka : ∀ (o : Obj), ((w.drewN k).alloc o).cell? ⟨kb, a, none⟩ = some (.map none) := fun o => (((unhide HZ).1.drewN k).z.alloc o).ck (unhide HZ).2
  clear c2 ck HA HM HK
  generalize w.drewN k = w1 at *
  have cka' := cka (.map #[] 0)
  have fka' := hf2 (.map #[] 0)
  clear cka hf2
  go_wp2_with fail
  have hM := (unhide HM1).1
  have hK2 := (unhide HM1).2
  have hset : (ms.set a (some w1.heap.size))[a]? = some (some w1.heap.size) := by rw [List.getElem?_set_self (by rw [hN]; exact unhide HL)]
  have d2 := hM.z.c2
  have dk := hM.z.ck hset
  rw [List.length_set, hN] at d2
  have hT1 : Tal ((w1.alloc (.map #[] 0)).setCell ⟨kb, a, none⟩ (.map (some w1.heap.size))) w1.heap.size [] := by
    obtain ⟨g, hg⟩ : ∃ g, bags[a]? = some g := ⟨_, List.getElem?_eq_getElem (unhide HL2)⟩
    have hg0 : g = [] := by
      rcases (unhide HZ).1.sl a none g (unhide HZ).2 hg with ⟨_, e⟩ | ⟨b, e, _⟩
      · exact e
      · cases e
    rcases hM.sl a _ g hset hg with ⟨e, _⟩ | ⟨b', e, hT⟩
    · cases e
    · cases e; rw [hg0] at hT; exact hT
  have HM2 := hide hM
  have HK2 := hide hK2
  have HS := hide hset
  clear hM hK2 hset HM1 cka' fka' ck' c2' fk'
  generalize hb : w1.heap.size = b at *
  generalize (w1.alloc (.map #[] 0)).setCell ⟨kb, a, none⟩ (.map (some b)) = w2 at *
  have d2' : w2.drew.cell? ⟨mb, 2, none⟩ = some (.slice (some ⟨kb, 0, none⟩) n n) := d2
  have dk' : w2.drew.cell? ⟨kb, a, none⟩ = some (.map (some b)) := dk
  have hT2 : Tal w2.drew b [] := hT1.block rfl
  have hlook := hT2.look x hx
  obtain ⟨w3, hupd, hT3, hg⟩ := hT2.add x hx (by simp)
  have hlook' : (Instr.lookup 96 (.map (some b)) (.int .u64 x) false).run Tryz.prog w2.drew = .ok (.int .i64 0) w2.drew := hlook
  have hupd' : (Instr.mapUpdate 96 (.map (some b)) (.int .u64 x) (.int .i64 (IntKind.i64.wrap 1))).run Tryz.prog w2.drew = .ok () w3 := by
    have e1 : IntKind.i64.wrap 1 = 1 := by decide
    rw [e1]; exact hupd
  have G := hide (And.intro hT3 hg)
  clear hT1 hT2 hT3 hg hlook hupd d2 dk
  go_region_with ((go_at_call 59; refine (unhide HB _).mono ?_; rintro e w' ⟨rfl, rfl⟩))
  all_goals
    go_wp2_with fail
    go_ret
    obtain ⟨h1, h2⟩ := unhide G
    obtain ⟨g, hg⟩ : ∃ g, bags[a]? = some g := ⟨_, List.getElem?_eq_getElem (unhide HL2)⟩
    have h3 := (unhide HM2).added (unhide HS) hg (bag' := [x]) (w' := w3) ⟨h2.os, h2.tape, h2.output, h2.size, h2.block⟩ h1
    exact ⟨rfl, ⟨_, h3.1⟩, ((unhide HK1).trans (unhide HK2)).trans h3.2⟩
end Go.Proofs.YtgekdmjneogdoaaGreatDoor

namespace Go.Proofs.YtgekdmjneogdoaaGreatDoor
open Go.RowKit Go.Maps

theorem Mtr.below {K : Nat → Prop} {w w' : World} {mb kb W C : Nat} {S : MS} {ms : List (Option Nat)} {bags : List (List Nat)} (h : Mtr K w mb kb W C S ms bags) (hb : Below w.heap.size w w') : Mtr K w' mb kb W C S ms bags := by
  have hmlt : mb < w.heap.size := (Array.getElem?_eq_some_iff.1 h.z.hm).1
  have hklt : kb < w.heap.size := (Array.getElem?_eq_some_iff.1 h.z.hk).1
  exact ⟨⟨(hb.block mb hmlt).trans h.z.hm, (hb.block kb hklt).trans h.z.hk⟩, h.len, fun i m g h1 h2 => (h.sl i m g h1 h2).block (fun b e => hb.block b (h.apart (List.mem_of_getElem? (e ▸ h1))).2.2), h.nd, h.hW, h.hC, h.hn,
    fun k hk => ⟨Nat.lt_of_lt_of_le (h.out k hk).1 hb.size, (h.out k hk).2⟩⟩

theorem samples_slot {w : World} {m : Option Nat} {g : List Nat} (h : Slot w m g) (hl : g.length < 4611686018427387904) :
    Calls Tryz.prog 53 #[.map m] w fun e w' => e = .returned (.int .i64 g.length) ∧ Below w.heap.size w w' := by
  rcases h with ⟨rfl, rfl⟩ | ⟨b, rfl, hT⟩
  · exact samples_nil w
  · exact tsamples_any b g w hT hl

theorem take_flat (bags : List (List Nat)) (j : Nat) (g : List Nat) (h : bags[j]? = some g) : (bags.take (j + 1)).flatten.length = (bags.take j).flatten.length + g.length := by
  rw [List.take_add_one, h]
  simp

theorem take_flat_le (bags : List (List Nat)) (j : Nat) : (bags.take j).flatten.length ≤ bags.flatten.length := by
  have h : bags.flatten = (bags.take j).flatten ++ (bags.drop j).flatten := by rw [← List.flatten_append, List.take_append_drop]
  rw [h, List.length_append]
  omega

set_option maxRecDepth 20000 in
set_option maxHeartbeats 800000 in
theorem count_ok {K : Nat → Prop} {w : World} {mb kb W C : Nat} {S : MS} {ms : List (Option Nat)} {bags : List (List Nat)} (h : Mtr K w mb kb W C S ms bags) (k : Nat) (hk1 : 1 ≤ k) (hk2 : k ≤ ms.length) (hl : bags.flatten.length < 4611686018427387904) :
    Calls Tryz.prog 33 #[.pointer (some ⟨mb, 0, none⟩), .int .i64 k] w fun e w' => e = .returned (.tuple #[.int .i64 (bags.take k).flatten.length, .int .i64 0]) ∧ Below w.heap.size w w' := by
  have c2 := h.z.c2
  have hn8 := h.hn.2
  have H := hide h
  have HL := hide hl
  clear h hl
  generalize hN : ms.length = n at *
  have hd1 : decide ((k : Int) < 1) = false := by simp; omega
  have hd2 : decide (n < k) = false := by simp; omega
  go_enter Tryz.func33, Tryz.ntmps33
  go_wp2_with fail
  go_loopw [6, 8, 27] (fun c _ i wr => ∃ j : Nat, j ≤ k ∧ i = .int .i64 j ∧ c = .int .i64 ((bags.take j).flatten.length : Nat) ∧ Below w.heap.size w wr) (fun _ _ i _ => k - (RowKit.intOf i).toNat)
  case atStart => exact ⟨0, by omega, rfl, rfl, Below.refl _ _⟩
  case round =>
    obtain ⟨j, hj, rfl, rfl, hb⟩ := hrel
    by_cases hjk : j < k
    · have h := unhide H
      obtain ⟨m, hm⟩ : ∃ m, ms[j]? = some m := ⟨_, List.getElem?_eq_getElem (by rw [hN]; omega)⟩
      obtain ⟨g, hg⟩ : ∃ g, bags[j]? = some g := ⟨_, List.getElem?_eq_getElem (by rw [← h.len, hN]; omega)⟩
      have h2 := h.below hb
      have e1 := take_flat bags j g hg
      have e2 := take_flat_le bags (j + 1)
      have e3 := unhide HL
      have HS := hide (samples_slot (h2.sl j m g hm hg) (by omega))
      have ck := h2.z.ck hm
      have hlt : (bags.take j).flatten.length + g.length < 4611686018427387904 := by omega
      have E1 := hide e1
      have HB := hide hb
      clear h h2 e1 e2 e3
      generalize (bags.take j).flatten.length = s0 at *
      generalize hgl : g.length = s1 at *
      go_wp2_with fail
      refine (unhide HS).mono ?_
      rintro e w1 ⟨rfl, hb1⟩
      go_wp2_with fail
      go_roundw
      case rel => exact ⟨j + 1, by omega, rfl, by rw [unhide E1]; push_cast; rfl, (unhide HB).trans (hb1.mono (unhide HB).size)⟩
      case measure => simp [RowKit.intOf]; omega
    · obtain rfl : j = k := by omega
      have HB := hide hb
      go_wp2_with fail
      go_ret2
      exact ⟨rfl, unhide HB⟩
end Go.Proofs.YtgekdmjneogdoaaGreatDoor

namespace Go.Proofs.YtgekdmjneogdoaaGreatDoor
open Go.RowKit Go.Maps

theorem left_other (left : Lit → Bool) (x y : Nat) (h : y ≠ x) : (left (TK y) && !(TK y).sameKey (TK x)) = left (TK y) := by
  rw [same_TK]; simp [h]

theorem left_same (left : Lit → Bool) (x : Nat) : (left (TK x) && !(TK x).sameKey (TK x)) = false := by
  rw [same_TK]; simp

/-- one entry more of a slice's tally is in the sum -/
theorem sum_step {w : World} {s : Nat} {acc bag : List Nat} {left : Lit → Bool} {x : Nat} (h : Tal w s (acc ++ gone left bag)) (hx : x < 18446744073709551616) (hlx : left (TK x) = true) (hin : x ∈ bag) (hb : ∀ y ∈ bag, y < 18446744073709551616) (hl : (acc ++ bag).length < 4611686018427387904) :
    (Instr.lookup 96 (.map (some s)) (.int .u64 x) false).run Tryz.prog w = .ok (.int .i64 (acc.count x : Nat)) w ∧
    ∃ w', (Instr.mapUpdate 96 (.map (some s)) (.int .u64 x) (.int .i64 ((acc.count x + bag.count x : Nat) : Int))).run Tryz.prog w = .ok () w' ∧ Tal w' s (acc ++ gone (fun z => left z && !z.sameKey (TK x)) bag) ∧ w.grownBy w' (some s) := by
  have hc : (acc ++ gone left bag).count x = acc.count x := by
    rw [List.count_append, gone_count, if_pos hlx, Nat.add_zero]
  have hc2 : (acc ++ gone (fun z => left z && !z.sameKey (TK x)) bag).count x = acc.count x + bag.count x := by
    rw [List.count_append, gone_count, if_neg (by rw [left_same]; simp)]
  have hstep := gone_step_length left bag x hlx
  have hpos : 0 < bag.count x := List.count_pos_iff.2 hin
  have hle := gone_length_le (fun z => left z && !z.sameKey (TK x)) bag
  refine ⟨?_, ?_⟩
  · rw [h.look x hx, hc]
  · rw [← hc2]
    refine h.upd x hx ?_ ?_ ?_ ?_ ?_
    · rw [← List.count_pos_iff, hc2]; omega
    · intro y hy
      rcases List.mem_append.1 hy with hy | hy
      · exact h.all y (List.mem_append.2 (Or.inl hy))
      · exact hb y (gone_sub _ _ _ hy)
    · intro y hy
      rw [List.count_append, List.count_append, gone_count, gone_count, left_other left x y hy]
    · rw [List.length_append, List.length_append, hstep]; omega
    · rw [List.length_append] at hl ⊢; omega

set_option maxRecDepth 100000 in
set_option maxHeartbeats 1600000 in
theorem last_ok {K : Nat → Prop} {w : World} {mb kb W C : Nat} {S : MS} {ms : List (Option Nat)} {bags : List (List Nat)} (h : Mtr K w mb kb W C S ms bags) (k : Nat) (hk1 : 1 ≤ k) (hk2 : k ≤ ms.length) (hl : bags.flatten.length < 4611686018427387904) :
    Calls Tryz.prog 52 #[.pointer (some ⟨mb, 0, none⟩), .int .i64 k] w fun e w' => e = .returned (.map (some w.heap.size)) ∧ Tal w' w.heap.size (bags.take k).flatten ∧ Below w.heap.size w w' := by
  have hmm := @run_makeMap Tryz.prog
  have c2 := (h.z.alloc (.map #[] 0)).c2
  have hn8 := h.hn.2
  have H := hide h
  have HL := hide hl
  clear h hl
  generalize hN : ms.length = n at *
  go_enter Tryz.func52, Tryz.ntmps52
  go_wp2_with fail
  go_loopw [7, 8, 9, 18] (fun _ _ _ i wr => ∃ j : Nat, j ≤ k ∧ i = .int .i64 j ∧ Hid (Tal wr w.heap.size (bags.take j).flatten) ∧ Below w.heap.size w wr) (fun _ _ _ i _ => k - (RowKit.intOf i).toNat)
  case atStart => exact ⟨0, by omega, rfl, Tal.made w, (Below.refl _ w).alloc (Nat.le_refl _) _⟩
  case round =>
    obtain ⟨j, hj, rfl, hT, hb⟩ := hrel
    by_cases hjk : j < k
    · have h := unhide H
      obtain ⟨m, hm⟩ : ∃ m, ms[j]? = some m := ⟨_, List.getElem?_eq_getElem (by rw [hN]; omega)⟩
      obtain ⟨g, hg⟩ : ∃ g, bags[j]? = some g := ⟨_, List.getElem?_eq_getElem (by rw [← h.len, hN]; omega)⟩
      have h2 := h.below hb
      have hsl := h2.sl j m g hm hg
      have ck := h2.z.ck hm
      have E1 : Hid ((bags.take (j + 1)).flatten = (bags.take j).flatten ++ g) := by
        show _ = _
        rw [List.take_add_one, hg]; simp
      have E2 : Hid (((bags.take j).flatten ++ g).length < 4611686018427387904) := by
        have e1 := take_flat bags j g hg
        have e2 := take_flat_le bags (j + 1)
        have e3 := unhide HL
        show _ < _
        rw [List.length_append]; omega
      have hblt : Hid (∀ b, m = some b → b < w.heap.size) := fun b e => (h.apart (List.mem_of_getElem? (e ▸ hm))).2.2
      clear h h2
      rcases hsl with ⟨rfl, rfl⟩ | ⟨b, rfl, hTb⟩
      · have hrg := run_range_nilMap (P := Tryz.prog) wr 96 25 3 Tryz.underlying96
        have hnx : ∀ ty, (Instr.next (.pointer (some ⟨wr.heap.size, 0, none⟩)) false ty).run Tryz.prog (wr.alloc (.mapIter none 0 #[] 0)) = _ := fun ty => run_next_nilMap wr ty 0 0 #[]
        go_wp2_with fail
        refine wp_loop_rounds 1 ?_
        rw [rounds_succ]
        go_wp2_with fail
        go_roundw
        case rel => exact ⟨j + 1, by omega, rfl, by
          have := unhide E1
          rw [List.append_nil] at this
          show Tal _ _ _
          rw [this]
          exact (unhide hT).block (Below.heap_alloc _ _ _ (unhide hT).lt), hb.alloc hb.size _⟩
        case measure => simp [RowKit.intOf]; omega
      · obtain ⟨D, nn, hown, hnn, hD⟩ := hTb
        have hbs := unhide hblt b rfl
        go_wp2_with (first
          | (at_range; refine wpList_range_own _ rfl _ 96 rfl 25 3 lawU Tryz.underlying96 _ b nn _ rfl hown ?_; intro w0 hrg0 hg0 hs0)
          | go_in)
        go_frame
        have hb0 : Below w.heap.size w w0 := hb.grown hg0 hb.size (fun j hj => by cases hj)
        have hT0 : Tal w0 w.heap.size (bags.take j).flatten := (unhide hT).grown hg0 (by simp)
        have hsr : w.heap.size < wr.heap.size := (unhide hT).lt
        clear hg0 hs0
        generalize hacc : (bags.take j).flatten = acc at *
        generalize wr.heap.size = r at *
        go_loopw [8, 9] (fun _ _ wx => ∃ (left : Lit → Bool) (cnt : Nat), wx.ranges Tryz.prog 25 (plainElem Tryz.prog 3) b r nn D left cnt ∧ Hid (Tal wx w.heap.size (acc ++ gone left g)) ∧ Below w.heap.size w wx)
          (fun _ _ wx => wx.rangeLeft b r)
        case atStart => exact ⟨_, _, hrg0, by show Tal _ _ _; rw [gone_start D g hD, List.append_nil]; exact hT0, hb0⟩
        case round =>
          obtain ⟨left, cnt, hrg, hTx, hbx⟩ := hrel
          go_wp2_with (first
            | (at_next; refine wpList_next_ranges_ii _ rfl _ rfl 25 3 .u64 .i64 lawU Tryz.underlying25 Tryz.underlying3 b r nn _ _ _ rfl hrg ?_ ?_)
            | go_in)
          · intro _ hl0
            have he := hide (gone_end left g hl0)
            clear hl0
            go_wp2_with fail
            go_roundw
            case rel => exact ⟨j + 1, by omega, rfl, by show Tal _ _ _; rw [unhide E1, ← unhide he]; exact unhide hTx, hbx⟩
            case measure => simp [RowKit.intOf]; omega
          · intro x c w1 cnt1 hwx hwc hlx hat hrg1 hlt hg1 hs1 hen
            obtain ⟨x', rfl, hx'⟩ : ∃ x' : Nat, x = (x' : Int) ∧ x' < 18446744073709551616 := by
              have : 0 ≤ x ∧ x ≤ 18446744073709551615 := by
                have h := hwx
                simp only [Lit.wf, Bool.and_eq_true, decide_eq_true_eq] at h
                exact h
              exact ⟨x.toNat, by omega, by omega⟩
            obtain rfl : c = (g.count x' : Nat) := by
              have h1 := (hD.2 x' hx').2
              rw [hat] at h1
              exact lit_inj h1
            have hin : x' ∈ g := by
              have h1 := has_true_of_atKey hat
              rw [(hD.2 x' hx').1] at h1
              exact of_decide_eq_true h1
            have hT1 : Tal w1 w.heap.size (acc ++ gone left g) := (unhide hTx).grown hg1 (fun e => by injection e with e; omega)
            obtain ⟨hlook, w2, hupd, hT2, hg2⟩ := sum_step hT1 hx' hlx hin hD.1 (unhide E2)
            have hcb : acc.count x' + g.count x' < 4611686018427387904 := by
              have e1 : acc.count x' ≤ acc.length := List.count_le_length
              have e2 : g.count x' ≤ g.length := List.count_le_length
              have e3 := unhide E2
              rw [List.length_append] at e3
              omega
            have hwr : wrap64 ((acc.count x' : Nat) + (g.count x' : Nat) : Int) = ((acc.count x' + g.count x' : Nat) : Int) := by unfold wrap64; omega
            rw [← hwr] at hupd
            clear hwr
            have hb1 : Below w.heap.size w w1 := hbx.grown hg1 hbx.size (fun j hj => by cases hj; omega)
            have hb2 : Below w.heap.size w w2 := hb1.grown hg2 hb1.size (fun j hj => by cases hj; exact Nat.le_refl _)
            have hrg2 := hrg1.kept hg2 (fun e => by injection e with e; omega) (fun e => by injection e with e; omega)
            have HT2 := hide hT2
            clear hT1 hT2 hg1 hg2 hs1 hcb
            go_wp2_with fail
            go_roundw
            case rel => exact ⟨_, cnt1, hrg2, HT2, hb2⟩
            case measure => rw [hrg2.left_eq, hrg.left_eq]; exact hlt
    · obtain rfl : j = k := by omega
      go_wp2_with fail
      go_ret
      exact ⟨rfl, unhide hT, hb⟩
end Go.Proofs.YtgekdmjneogdoaaGreatDoor
