import Derived.Test.YtgekdmjneogdoaaGreatDoorZMt1
import Derived.Maps.Own
import Derived.Maps.OwnOps
import Derived.Maps.OwnSet
import Derived.Maps.RangeWalk
namespace Go.Proofs.YtgekdmjneogdoaaGreatDoor
open Go.RowKit Go.Maps

/-! tallies: a map that tells how often each bucket is in a bag -/
theorem lawU : Keyed Tryz.prog 25 := int_keyed Tryz.underlying25

abbrev TK (x : Nat) : Lit := .int .u64 x

def TalD (D : DataW Unit) (bag : List Nat) : Prop :=
  (∀ x ∈ bag, x < 18446744073709551616) ∧ ∀ x : Nat, x < 18446744073709551616 → has D (TK x) = decide (x ∈ bag) ∧ D.atKey (TK x) (.lit (.int .i64 0)) = .lit (.int .i64 (bag.count x : Nat))

def Tal (w : World) (b : Nat) (bag : List Nat) : Prop :=
  ∃ (D : DataW Unit) (n : Nat), w.ownsMap Tryz.prog 25 (plainElem Tryz.prog 3) b n D ∧ n ≤ bag.length ∧ TalD D bag

theorem TalD.empty : TalD (.map []) [] := ⟨by simp, fun x _ => ⟨rfl, rfl⟩⟩

theorem Tal.made (w : World) : Tal (w.alloc (.map #[] 0)) w.heap.size [] := ⟨.map [], 0, World.ownsMap_made w _ _ _, Nat.le_refl _, TalD.empty⟩

theorem Tal.lt {w : World} {b : Nat} {bag : List Nat} (h : Tal w b bag) : b < w.heap.size := by
  obtain ⟨D, n, h1, _⟩ := h
  exact h1.lt

theorem Tal.grown {w w' : World} {b : Nat} {bag : List Nat} {row : Option Nat} (h : Tal w b bag) (hg : w.grownBy w' row) (hne : some b ≠ row) : Tal w' b bag := by
  obtain ⟨D, n, h1, h2, h3⟩ := h
  exact ⟨D, n, h1.kept hg hne, h2, h3⟩

theorem Tal.block {w w' : World} {b : Nat} {bag : List Nat} (h : Tal w b bag) (hb : w'.heap[b]? = w.heap[b]?) : Tal w' b bag := by
  obtain ⟨D, n, ⟨es, clock, h0, h1⟩, h2, h3⟩ := h
  exact ⟨D, n, ⟨es, clock, hb.trans h0, h1⟩, h2, h3⟩

theorem Tal.kept {K : Nat → Prop} {w w' : World} {b : Nat} {bag : List Nat} (h : Tal w b bag) (hk : Kept K w w') (hb : K b) : Tal w' b bag := h.block (hk.block b hb)

theorem Tal.below {B : Nat} {w w' : World} {b : Nat} {bag : List Nat} (h : Tal w b bag) (hk : Below B w w') (hb : b < B) : Tal w' b bag := h.block (hk.block b hb)

theorem TalD.put {D : DataW Unit} {bag bag' : List Nat} (h : TalD D bag) (hm : IsMap D) {x : Nat} (hx : x < 18446744073709551616) (hin : x ∈ bag') (hsub : ∀ y ∈ bag', y < 18446744073709551616) (hoth : ∀ y, y ≠ x → bag'.count y = bag.count y) :
    TalD (D.put (TK x) (.lit (.int .i64 (bag'.count x : Nat)))) bag' := by
  refine ⟨hsub, fun y hy => ?_⟩
  by_cases e : y = x
  · subst e
    refine ⟨?_, ?_⟩
    · rw [has_put_same hm (by trivial : WideAt.IsKeyLit (Lit.int .u64 (y : Int)))]; simp [hin]
    · rw [atKey_put_same hm (by trivial : WideAt.IsKeyLit (Lit.int .u64 (y : Int)))]
  · have hne : TK y ≠ TK x := fun h => e (by injection h with _ h2; exact Int.ofNat.inj h2)
    refine ⟨?_, ?_⟩
    · rw [has_put_other hne, (h.2 y hy).1]
      apply decide_eq_decide.2
      rw [← List.count_pos_iff, ← List.count_pos_iff, hoth y e]
    · rw [atKey_put_other hne, (h.2 y hy).2, hoth y e]

/-- of a bag what is no longer to come -/
def gone (left : Lit → Bool) (bag : List Nat) : List Nat := bag.filter fun x => !left (TK x)

theorem gone_start (D : DataW Unit) (bag : List Nat) (h : TalD D bag) : gone (has D) bag = [] := by
  unfold gone
  rw [List.filter_eq_nil_iff]
  intro x hx
  rw [(h.2 x (h.1 x hx)).1]
  simp [hx]

theorem gone_end (left : Lit → Bool) (bag : List Nat) (h : ∀ k, left k = false) : gone left bag = bag := by
  unfold gone
  rw [List.filter_eq_self]
  intro x _
  rw [h]; rfl

theorem same_TK (x y : Nat) : (TK y).sameKey (TK x) = decide (y = x) := by
  show decide (IntKind.u64 = IntKind.u64 ∧ (y : Int) = (x : Int)) = _
  apply decide_eq_decide.2
  constructor
  · rintro ⟨_, h⟩; omega
  · rintro rfl; exact ⟨rfl, rfl⟩

theorem gone_count (left : Lit → Bool) (bag : List Nat) (y : Nat) : (gone left bag).count y = if left (TK y) then 0 else bag.count y := by
  unfold gone
  split
  · rename_i h
    rw [List.count_eq_zero]
    simp [h]
  · rename_i h
    rw [List.count_filter]
    simp [h]

theorem gone_step_length (left : Lit → Bool) (bag : List Nat) (x : Nat) (hx : left (TK x) = true) :
    (gone (fun z => left z && !z.sameKey (TK x)) bag).length = (gone left bag).length + bag.count x := by
  unfold gone
  induction bag with
  | nil => rfl
  | cons y r ih =>
    have hs := same_TK x y
    dsimp only at ih
    by_cases e : y = x
    · subst e
      simp only [List.filter_cons, hx, hs, List.count_cons_self, decide_true, Bool.not_true, Bool.and_false, Bool.not_false, if_true, Bool.false_eq_true, if_false, List.length_cons]
      omega
    · cases hl : left (TK y) <;>
      · simp only [List.filter_cons, hl, hs, List.count_cons_of_ne (Ne.symm e |>.symm), e, decide_false, Bool.not_false, Bool.and_true, Bool.not_true, if_true, Bool.false_eq_true, if_false, List.length_cons]
        omega

theorem gone_length_le (left : Lit → Bool) (bag : List Nat) : (gone left bag).length ≤ bag.length := List.length_filter_le _ _

theorem gone_sub (left : Lit → Bool) (bag : List Nat) (y : Nat) (h : y ∈ gone left bag) : y ∈ bag := (List.mem_filter.1 h).1

set_option maxRecDepth 100000 in
set_option maxHeartbeats 800000 in
theorem tsamples_any (b : Nat) (bag : List Nat) (w : World) (hT : Tal w b bag) (hl : bag.length < 4611686018427387904) :
    Calls Tryz.prog 53 #[.map (some b)] w fun e w' => e = .returned (.int .i64 bag.length) ∧ Below w.heap.size w w' := by
  obtain ⟨D, n, hown, hn, hD⟩ := hT
  go_enter Tryz.func53, Tryz.ntmps53
  go_wp2_with (first
    | (at_range; refine wpList_range_own _ rfl _ 96 rfl 25 3 lawU Tryz.underlying96 _ b n _ rfl hown ?_; intro w0 hrg0 hg0 hs0)
    | go_in)
  go_frame
  have hb0 : Below w.heap.size w w0 := (Below.refl _ w).grown hg0 (Nat.le_refl _) (fun j hj => by cases hj)
  clear hg0 hs0
  go_loopw [3, 5] (fun s _ wr => ∃ (left : Lit → Bool) (cnt : Nat), wr.ranges Tryz.prog 25 (plainElem Tryz.prog 3) b w.heap.size n D left cnt ∧ s = .int .i64 ((gone left bag).length : Nat) ∧ Below w.heap.size w wr)
    (fun _ _ wr => wr.rangeLeft b w.heap.size)
  case atStart => exact ⟨_, _, hrg0, by rw [gone_start D bag hD]; rfl, hb0⟩
  case round =>
    obtain ⟨left, cnt, hrg, rfl, hb⟩ := hrel
    go_wp2_with (first
      | (at_next; refine wpList_next_ranges_ii _ rfl _ rfl 25 3 .u64 .i64 lawU Tryz.underlying25 Tryz.underlying3 b w.heap.size n _ _ _ rfl hrg ?_ ?_)
      | go_in)
    · intro _ hl0
      have he := gone_end left bag hl0
      go_wp2_with fail
      go_ret
      refine ⟨?_, hb⟩
      show Ending.returned (.int .i64 ((gone left bag).length : Nat)) = _
      rw [he]
    · intro x c w1 cnt1 hwx hwc hlx hat hrg1 hlt hg1 hs1 hen
      obtain ⟨x', rfl, hx'⟩ : ∃ x' : Nat, x = (x' : Int) ∧ x' < 18446744073709551616 := by
        have : 0 ≤ x ∧ x ≤ 18446744073709551615 := by
          have h := hwx
          simp only [Lit.wf, Bool.and_eq_true, decide_eq_true_eq] at h
          exact h
        exact ⟨x.toNat, by omega, by omega⟩
      obtain rfl : c = (bag.count x' : Nat) := by
        have h1 := (hD.2 x' hx').2
        rw [hat] at h1
        injection h1 with h2
        injection h2
      have hstep := gone_step_length left bag x' hlx
      have hle := gone_length_le (fun z => left z && !z.sameKey (TK x')) bag
      have hb1 : Below w.heap.size w w1 := hb.grown hg1 (hb.size) (fun j hj => by cases hj; exact Nat.le_refl _)
      clear hs1 hg1
      go_wp2_with fail
      go_roundw
      case rel => exact ⟨_, cnt1, hrg1, by rw [hstep]; push_cast; rfl, hb1⟩
      case measure => rw [hrg1.left_eq, hrg.left_eq]; exact hlt

set_option maxRecDepth 100000 in
theorem samples_nil (w : World) :
    Calls Tryz.prog 53 #[.map none] w fun e w' => e = .returned (.int .i64 0) ∧ Below w.heap.size w w' := by
  have hrg := run_range_nilMap (P := Tryz.prog) w 96 25 3 Tryz.underlying96
  have hnx : ∀ ty, (Instr.next (.pointer (some ⟨w.heap.size, 0, none⟩)) false ty).run Tryz.prog (w.alloc (.mapIter none 0 #[] 0)) = _ := fun ty => run_next_nilMap w ty 0 0 #[]
  go_enter Tryz.func53, Tryz.ntmps53
  go_wp2
  refine wp_loop_rounds 1 ?_
  rw [rounds_succ]
  go_wp2
  go_ret
  exact ⟨rfl, (Below.refl _ w).alloc (Nat.le_refl _) _⟩
end Go.Proofs.YtgekdmjneogdoaaGreatDoor
