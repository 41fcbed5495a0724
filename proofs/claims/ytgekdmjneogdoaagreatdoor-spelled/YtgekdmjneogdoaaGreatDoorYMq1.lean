import Derived.Test.YtgekdmjneogdoaaGreatDoorYMt1
import Derived.RangeFuncNested
import Derived.RangeFuncBound
import Derived.RangeFuncCalls
import Derived.RangeFuncBox
import Derived.RangeFuncLeaves
import Derived.RangeFuncWrites
import Derived.Shelf.Abstract
import Derived.Shelf.RegionOpen
import Derived.OwnWalkIn
import Derived.TacticsInMore
import Derived.LoopNIn
import Derived.LoopIn
import Derived.Maps.AppendAt
import Derived.Maps.OwnIn
import Derived.Sort.MapsRangeIn
namespace Go.Proofs.YtgekdmjneogdoaaGreatDoor
open Go.RowKit Go.Shelf Go.Maps

/-! the keys of a tally, in some order -/
theorem natOf (x : Int) (h : (Lit.int .u64 x).wf = true) : ∃ x' : Nat, x = (x' : Int) ∧ x' < 18446744073709551616 := by
  have : 0 ≤ x ∧ x ≤ 18446744073709551615 := by
    simp only [Lit.wf, Bool.and_eq_true, decide_eq_true_eq] at h
    exact h
  exact ⟨x.toNat, by omega, by omega⟩

/-- what has come: no key twice; each a key that is no longer to come -/
def Met (bag : List Nat) (left : Lit → Bool) (ss : List Nat) : Prop := ss.Nodup ∧ ∀ y, y ∈ ss ↔ y ∈ bag ∧ left (TK y) = false

theorem Met.start {D : DataW Unit} {bag : List Nat} (h : TalD D bag) : Met bag (has D) [] := by
  refine ⟨List.nodup_nil, fun y => ?_⟩
  constructor
  · intro hy; cases hy
  · rintro ⟨h1, h2⟩
    rw [(h.2 y (h.1 y h1)).1] at h2
    simp [h1] at h2

theorem Met.step {bag : List Nat} {left : Lit → Bool} {ss : List Nat} {x : Nat} (h : Met bag left ss) (hlx : left (TK x) = true) (hin : x ∈ bag) : Met bag (fun z => left z && !z.sameKey (TK x)) (ss ++ [x]) := by
  have hno : x ∉ ss := fun hx => by
    have := ((h.2 x).1 hx).2
    rw [hlx] at this; cases this
  refine ⟨?_, fun y => ?_⟩
  · rw [List.nodup_append]
    refine ⟨h.1, by simp, fun a ha b hb => ?_⟩
    rw [List.mem_singleton.1 hb]
    intro e
    exact hno (e ▸ ha)
  · rw [List.mem_append, h.2 y, List.mem_singleton]
    dsimp only
    by_cases e : y = x
    · subst e
      rw [left_same]
      simp [hin]
    · rw [left_other left x y e]
      simp [e]

set_option maxRecDepth 100000 in
set_option maxHeartbeats 1000000 in
theorem keys1_in {α : Type} (val : α → Nat) (F : Fence) (n : Nat) (hf : F.fn 144) (hro : F.round = none) (hn : 1 ≤ n) (l Bm b : Nat) (xs : List α) (J Jx : List α → World → Prop)
    (hY : ∀ pre x W, J pre W → pre.length < xs.length → YieldAt F (n - 1) Tryz.prog l #[.int .u64 (val x)] W fun e W' =>
      (e = .returned (.bool true) ∧ J (pre ++ [x]) W' ∧ KeepsWalks W W') ∨ (e = .returned (.bool false) ∧ Jx (pre ++ [x]) W'))
    (W : World) (hJ : AbidesFrom W.heap.size J) (hm : W.cell? ⟨Bm, 0, none⟩ = some (.map (some b))) (hT : Tal W b (xs.map val)) (h0 : J [] W) :
    CallsIn F n Tryz.prog 144 #[.func (.yield l) #[] #[], .pointer (some ⟨Bm, 0, none⟩)] W fun e W' => (∃ v, e = .returned v) ∧
      ((∃ ys : List α, ((ys.map val).Nodup ∧ ∀ y, y ∈ ys.map val ↔ y ∈ xs.map val) ∧ J ys W') ∨ (∃ pre : List α, True ∧ Jx pre W')) := by
  obtain ⟨D, nn, hown, hnn, hD⟩ := hT
  have hsz := hown.size_le
  rw [List.length_map] at hnn
  refine callsIn_of_wp Tryz.func144 rfl hf ?_ hro
  simp only [Tryz.ntmps144, List.size_toArray, List.length_cons, List.length_nil, Nat.reduceAdd, Nat.reduceSub, Array.replicate_succ, Array.replicate_zero, List.push_toArray, List.append_toArray, List.nil_append, List.cons_append]
  gi_wp2_with (first
    | (gi_at_range; refine wpListIn_range_own _ rfl _ 96 rfl 25 3 lawU Tryz.underlying96 _ b nn _ rfl hown ?_; intro w0 hrg0 hg0 hs0)
    | gi_in)
  go_frame
  gi_loopw [3] (fun _ wr => ∃ (left : Lit → Bool) (cnt : Nat) (ys : List α), wr.ranges Tryz.prog 25 (plainElem Tryz.prog 3) b W.heap.size nn D left cnt ∧ ys.length + cnt ≤ xs.length ∧ Met (xs.map val) left (ys.map val) ∧ J ys wr)
    (fun _ wr => wr.rangeLeft b W.heap.size)
  case atStart =>
    exact ⟨_, _, [], hrg0, by simp; omega, Met.start hD, hJ [] W w0 none h0 hg0 (fun r e => by cases e)⟩
  case round =>
    obtain ⟨left, cnt, ys, hrg, hcs, hC, hJs⟩ := hrel
    gi_wp2_with (first
      | (gi_at_next; refine wpListIn_next_ranges _ rfl _ rfl 25 lawU (plainElem Tryz.prog 3) (Value.int .u64) id (fun key kl hk => by obtain ⟨x, hx, _⟩ := Maps.keyOf_int_inv Tryz.underlying25 hk; exact ⟨x, hx⟩) (fun v _ _ => ⟨v, rfl⟩) b W.heap.size nn _ _ _ rfl hrg ?_ ?_)
      | gi_in)
    · intro hc0 hl0
      gi_wp2
      go_end0
      refine ⟨⟨_, rfl⟩, .inl ⟨ys, ⟨hC.1, fun y => ?_⟩, hJs⟩⟩
      rw [hC.2 y, hl0]
      simp
    · intro x c kl yd yp w2 cnt2 hkey hlk hv hat hrg2 hlt hg2 hs2 hen
      obtain ⟨x', ex, rfl, hwx⟩ := Maps.keyOf_int_inv Tryz.underlying25 hkey
      cases ex
      obtain ⟨k, rfl, hk⟩ := natOf x hwx
      have hin : k ∈ xs.map val := by
        have h1 := has_true_of_atKey hat
        rw [(hD.2 k hk).1] at h1
        exact of_decide_eq_true h1
      obtain ⟨a, _, rfl⟩ := List.mem_map.1 hin
      have hJ2 : J ys w2 := hJ ys wr w2 (some W.heap.size) hJs hg2 (fun r e => by cases e; exact ⟨Nat.le_refl _, hrg.iter_walk⟩)
      obtain ⟨fn, tmps, assign, body, hy, hR⟩ := hY ys a w2 hJ2 (by omega)
      clear hs2
      gi_wp2
      refine hR.mono ?_
      have hC2 := hC.step hlk hin
      rintro e W3 (⟨rfl, hJ3, hk3⟩ | ⟨rfl, hJx3⟩)
      · gi_wp2
        have hrg3 := hrg2.of_walks hk3
        go_roundw
        case rel => exact ⟨_, cnt2, ys ++ [a], hrg3, by simp; omega, by rw [List.map_append]; exact hC2, hJ3⟩
        case measure => rw [hrg3.left_eq, hrg.left_eq]; exact hlt
      · gi_wp2
        refine bodyPost_ret (results_none rfl _ _ _) rfl ?_
        exact ⟨⟨_, rfl⟩, .inr ⟨ys ++ [a], trivial, hJx3⟩⟩

theorem keys_stops {α : Type} (val : α → Nat) (F : Fence) (n : Nat) (hf : F.fn 144) (hro : F.round = none) (hn : 1 ≤ n) (Bm b : Nat) (xs : List α) (w : World) (hBm : Bm < w.heap.size)
    (hm : w.cell? ⟨Bm, 0, none⟩ = some (.map (some b))) (hT : Tal w b (xs.map val)) :
    SeqStopsK F n Tryz.prog 144 #[.pointer (some ⟨Bm, 0, none⟩)] (fun x : α => #[Value.int .u64 (val x)]) KeepsWalks (fun ys => (ys.map val).Nodup ∧ ∀ y, y ∈ ys.map val ↔ y ∈ xs.map val) (fun _ => True) xs.length w := fun l J Jx W hW hJ _ hY h0 =>
  keys1_in val F n hf hro hn l Bm b xs J Jx hY W hJ ((hW.cell (p := ⟨Bm, 0, none⟩) hBm).trans hm) (hT.below hW hT.lt) h0

set_option maxHeartbeats 1000000 in
theorem keys_in (F : Fence) (n : Nat) (hf : F.fn 87) (hro : F.round = none) (mb : Option Nat) (w : World) :
    CallsIn F n Tryz.prog 87 #[.map mb] w fun e w' => e = .returned (.func (.func 144) #[] #[.pointer (some ⟨w.heap.size, 0, none⟩)]) ∧ w' = w.alloc (.cells #[.map mb] 96) := by
  refine callsIn_of_wp Tryz.func87 rfl hf ?_ hro
  simp only [Tryz.ntmps87, List.size_toArray, List.length_cons, List.length_nil, Nat.reduceAdd, Nat.reduceSub, Array.replicate_succ, Array.replicate_zero, List.push_toArray, List.append_toArray, List.nil_append, List.cons_append]
  gi_wp2
  go_ret
  exact ⟨rfl, rfl⟩
end Go.Proofs.YtgekdmjneogdoaaGreatDoor

namespace Go.Proofs.YtgekdmjneogdoaaGreatDoor
open Go.RowKit Go.Shelf Go.Maps

theorem infoU : (Tryz.prog.info? 25).map (fun i => (i.zero, i.size, i.bytes)) = some (some (.int .u64 0), 1, 8) := by kernel_rfl

abbrev encV {α : Type} (val : α → Nat) : α → Value := fun x => .int .u64 (val x)

set_option maxRecDepth 100000 in
set_option maxHeartbeats 2000000 in
theorem append_in {α : Type} (val : α → Nat) (F : Fence) (n : Nat) (hf : F.fn 195) (hg : F.fn 144) (hro : F.round = none) (hn : 3 ≤ n) (Bm b : Nat) (xs : List α) (w : World) (hl : xs.length < 4611686018427387904 / 1000000) (hBm : Bm < w.heap.size)
    (hm : w.cell? ⟨Bm, 0, none⟩ = some (.map (some b))) (hT : Tal w b (xs.map val)) :
    CallsIn F n Tryz.prog 195 #[.slice none 0 0, .func (.func 144) #[] #[.pointer (some ⟨Bm, 0, none⟩)]] w fun e W' => ∃ (v : Value) (ys : List α), e = .returned v ∧ ((ys.map val).Nodup ∧ ∀ y, y ∈ ys.map val ↔ y ∈ xs.map val) ∧
      W'.ownsRow w.heap.size 25 1 v ys.length (ys.map (encV val)) ∧ (v = .slice none 0 0 ↔ ys = []) ∧ Below w.heap.size w W' := by
  have hsem := @Oper.semAt_some
  have h1 : 1 ≤ n := by omega
  obtain ⟨i0, hi, hz0, hz1, hz2⟩ := info_parts infoU
  refine callsIn_of_wp_marks Tryz.func195 rfl hf ?_ hro
  simp only [Tryz.ntmps195, List.size_toArray, List.length_cons, List.length_nil, Nat.reduceAdd, Nat.reduceSub, Array.replicate_succ, Array.replicate_zero, List.push_toArray, List.append_toArray, List.nil_append, List.cons_append]
  gi_wp2
  have bO := Boxed.new w 47 (.slice none 0 0)
  have hB0 : Below w.heap.size w (w.alloc (.cells #[.slice none 0 0] 47)) := (Below.refl _ w).alloc (Nat.le_refl _) _
  refine wpIn_rangeFunc_ownG hro h1 (gf := 144) (lb := #[.pointer (some ⟨Bm, 0, none⟩)]) rfl hg (enters_of Tryz.func144 (by kernel_rfl) rfl)
    (keys_stops val F (n - 1) hg hro (by omega) Bm b xs _ (by simp; omega) ((hB0.cell (p := ⟨Bm, 0, none⟩) hBm).trans hm) (hT.below hB0 hT.lt)) walksK_t walksK_b (Below.refl _ _) (fun _ => rfl)
    (fun pre W => (∃ v, Boxed W w.heap.size 47 v ∧ W.ownsRow w.heap.size 25 1 v pre.length (pre.map (encV val)) ∧ (v = .slice none 0 0 ↔ pre = [])) ∧ Below w.heap.size w W)
    (fun _ _ _ => False)
    (OwnFrom.and (Own.from (holdsRow_own w.heap.size w.heap.size 47 25 1 (fun pre => pre.length) (fun pre => pre.map (encV val)) (fun pre v => v = .slice none 0 0 ↔ pre = [])) _) (ownFrom_below (Nat.le_refl _) (by simp)))
    (fun _ _ _ _ _ hs _ _ => hs)
    ⟨⟨_, bO, World.ownsRow_nil _ _ _ _, by simp⟩, hB0⟩
    (fun x => { tmps := #[.slice none 0 0, .func (.func 144) #[] #[.pointer (some ⟨Bm, 0, none⟩)], .pointer (some ⟨w.heap.size, 0, none⟩), undef, .slice none 0 0, .int .u64 (val x), .func (.func 144) #[] #[.pointer (some ⟨Bm, 0, none⟩)], .int .u64 (val x), undef, undef, undef, undef, undef], defers := [] }) ?assign ?body ?done ?stop
  case assign =>
    intro l x W K hK
    gi_wp2
    exact hK
  case body =>
    rintro l pre x W ⟨⟨v, hv, hrow, hnil⟩, hB⟩ hlt
    have hc := hv.cell
    gi_wp2_with (gi_at_builtin; refine wpListIn_append_own _ rfl _ _ 47 rfl w.heap.size 25 i0 (.int .u64 0) 1 8 Tryz.underlying47 hi hz0 hz1 hz2 rfl (by decide) _ _ _ rfl (hrow.alloc _) ⟨W.heap.size, 0, none⟩ 1 1 [.int .u64 (val x)] rfl rfl (cell_one_new _ _ _) (by simp [Value.oneCell']) (by unfold maxLen; omega) (by omega) (by have := hB.size; simp; omega) ?_; intro v' w1 hown' hgrow _; obtain ⟨g', cap', rfl⟩ := ownsRow_succ hown'; obtain ⟨hv1, hv2, hr2, hk2, hb2⟩ := hv.appended (by decide) hrow hB.size (Nat.le_refl _) hown' hgrow; have hc1 := hv1.cell; have hf1 := hv1.frozen)
    exact ⟨hk2.from _, KeepsOthers.walks hk2, ⟨_, hv2, by simpa using hr2, by simp⟩, hB.trans hb2⟩
  case done =>
    rintro D ys W hD hS ⟨⟨v, hv, hrow, hnil⟩, hB⟩ hK
    have hc := hv.cell
    gi_wp2
    refine ⟨by simp, .inl ⟨_, _, rfl, run_takeDeferred hK, ?_⟩⟩
    exact ⟨_, results_tmp rfl _ _ _, v, ys, rfl, hS, ownsRow_putObj hrow _ hK rfl, hnil, hB.trans (belowK_b (w := w) (Nat.le_refl _) W D _ _ (by simp at hD; omega) hK rfl rfl)⟩
  case stop =>
    rintro D c pre W _ _ h _
    exact h.elim
end Go.Proofs.YtgekdmjneogdoaaGreatDoor

namespace Go.Proofs.YtgekdmjneogdoaaGreatDoor
open Go.RowKit Go.Shelf Go.Maps

set_option maxHeartbeats 1000000 in
theorem collect_in {α : Type} (val : α → Nat) (F : Fence) (n : Nat) (hf0 : F.fn 142) (hf : F.fn 195) (hg : F.fn 144) (hro : F.round = none) (hn : 4 ≤ n) (Bm b : Nat) (xs : List α) (w : World) (hl : xs.length < 4611686018427387904 / 1000000) (hBm : Bm < w.heap.size)
    (hm : w.cell? ⟨Bm, 0, none⟩ = some (.map (some b))) (hT : Tal w b (xs.map val)) :
    CallsIn F n Tryz.prog 142 #[.func (.func 144) #[] #[.pointer (some ⟨Bm, 0, none⟩)]] w fun e W' => ∃ (v : Value) (ys : List α), e = .returned v ∧ ((ys.map val).Nodup ∧ ∀ y, y ∈ ys.map val ↔ y ∈ xs.map val) ∧
      W'.ownsRow w.heap.size 25 1 v ys.length (ys.map (encV val)) ∧ (v = .slice none 0 0 ↔ ys = []) ∧ Below w.heap.size w W' := by
  have h1 : 1 ≤ n := by omega
  have cA := append_in val F (n - 1) hf hg hro (by omega) Bm b xs w hl hBm hm hT
  refine callsIn_of_wp Tryz.func142 rfl hf0 ?_ hro
  simp only [Tryz.ntmps142, List.size_toArray, List.length_cons, List.length_nil, Nat.reduceAdd, Nat.reduceSub, Array.replicate_succ, Array.replicate_zero, List.push_toArray, List.append_toArray, List.nil_append, List.cons_append]
  gi_wp2_with (gi_at_call 195; refine cA.mono ?_; rintro e w' ⟨v, ys, rfl, hS, hrow, hnil, hb⟩)
  go_ret
  exact ⟨v, ys, rfl, hS, hrow, hnil, hb⟩

/-! comparing -/
def cmpV (x y : Nat) : Int := if (FloatKind.f64.format.order x y == some .lt) then -1 else if (FloatKind.f64.format.order x y == some .gt) then 1 else 0

set_option maxHeartbeats 400000 in
theorem cisNaN_any (v : Nat) (w : World) :
    Calls Tryz.prog 198 #[.float .f64 v] w fun e w' => e = .returned (.bool (FloatKind.f64.format.order v v != some .eq)) ∧ w' = w := by
  go_enter Tryz.func198, Tryz.ntmps198
  go_wp2_with fail
  go_ret
  exact ⟨rfl, rfl⟩

set_option maxRecDepth 20000 in
set_option maxHeartbeats 800000 in
theorem ccompare_any (x y : Nat) (w : World) (hx : (FloatKind.f64.format.order x x != some .eq) = false) (hy : (FloatKind.f64.format.order y y != some .eq) = false) :
    Calls Tryz.prog 145 #[.float .f64 x, .float .f64 y] w fun e w' => e = .returned (.int .i64 (cmpV x y)) ∧ w' = w := by
  have HX : Hid (∀ w, Calls Tryz.prog 198 #[.float .f64 x] w fun e w' => e = .returned (.bool false) ∧ w' = w) := fun w => by rw [← hx]; exact cisNaN_any x w
  have HY : Hid (∀ w, Calls Tryz.prog 198 #[.float .f64 y] w fun e w' => e = .returned (.bool false) ∧ w' = w) := fun w => by rw [← hy]; exact cisNaN_any y w
  clear hx hy
  unfold cmpV
  cases h1 : (FloatKind.f64.format.order x y == some .lt) <;> cases h2 : (FloatKind.f64.format.order x y == some .gt)
  all_goals
    go_enter Tryz.func145, Tryz.ntmps145
    go_wp2_with fail
    refine (unhide HX _).mono ?_
    rintro e w1 ⟨rfl, e1⟩
    rw [e1]
    clear e1 w1
    go_wp2_with fail
    refine (unhide HY _).mono ?_
    rintro e w1 ⟨rfl, e1⟩
    rw [e1]
    clear e1 w1
    go_wp2_with fail
    go_ret
    exact ⟨rfl, rfl⟩

set_option maxRecDepth 20000 in
set_option maxHeartbeats 800000 in
theorem compare_any (x y : Nat) (w : World) (hx : (FloatKind.f64.format.order x x != some .eq) = false) (hy : (FloatKind.f64.format.order y y != some .eq) = false) :
    Calls Tryz.prog 88 #[.int .u64 x, .int .u64 y] w fun e w' => e = .returned (.int .i64 (cmpV x y)) ∧ w' = w := by
  have hff := mfromb_run
  have HC := hide (ccompare_any x y w hx hy)
  clear hx hy
  generalize cmpV x y = c at *
  go_enter Tryz.func88, Tryz.ntmps88
  go_wp2_with fail
  refine (unhide HC).mono ?_
  rintro e w1 ⟨rfl, e1⟩
  rw [e1]
  go_wp2_with fail
  go_ret
  exact ⟨rfl, rfl⟩
end Go.Proofs.YtgekdmjneogdoaaGreatDoor

namespace Go.Proofs.YtgekdmjneogdoaaGreatDoor
open Go.RowKit Go.Shelf Go.Maps

/-- the key at a rank -/
def rankOf (cnt : Nat → Nat) : List Nat → Nat → Nat
  | [], _ => 0
  | k :: ks, r => if r ≤ cnt k then k else rankOf cnt ks (r - cnt k)

def totalOf (cnt : Nat → Nat) (ks : List Nat) : Nat := (ks.map cnt).sum

theorem totalOf_cons (cnt : Nat → Nat) (k : Nat) (ks : List Nat) : totalOf cnt (k :: ks) = cnt k + totalOf cnt ks := by simp [totalOf]

abbrev encK : Nat → Value := fun x => .int .u64 (x : Int)

theorem keysC (mb : Option Nat) (w : World) : Calls Tryz.prog 87 #[.map mb] w fun e w' => e = .returned (.func (.func 144) #[] #[.pointer (some ⟨w.heap.size, 0, none⟩)]) ∧ w' = w.alloc (.cells #[.map mb] 96) :=
  (callsIn_wide (n := 5)).1 (keys_in Fence.wide 5 trivial rfl mb w)

set_option maxRecDepth 20000 in
set_option maxHeartbeats 800000 in
theorem atRank_of (b r : Nat) (bag ks : List Nat) (w : World) (hT : Tal w b bag) (hbl : bag.length < 4611686018427387904) (hk : ∀ k ∈ ks, k < 18446744073709551616) (hr1 : 1 ≤ r) (hr2 : r ≤ totalOf (fun k => bag.count k) ks) (hr3 : r < 4611686018427387904) (hkl : ks.length < 4611686018427387904)
    (HS : Calls Tryz.prog 86 #[.func (.func 144) #[] #[.pointer (some ⟨w.heap.size, 0, none⟩)], .func (.func 88) #[] #[]] (w.alloc (.cells #[.map (some b)] 96)) fun e W' =>
      ∃ v, e = .returned v ∧ W'.ownsRow (w.heap.size + 1) 25 1 v ks.length (ks.map encK) ∧ Below (w.heap.size + 1) (w.alloc (.cells #[.map (some b)] 96)) W') :
    Calls Tryz.prog 54 #[.map (some b), .int .i64 r] w fun e w' => e = .returned (.int .u64 (rankOf (fun k => bag.count k) ks r)) ∧ Below w.heap.size w w' := by
  have HS2 := hide HS
  have HKe := hide (keysC (some b) w)
  have HT := hide hT
  have HK := hide hk
  have HR := hide hr2
  clear HS hT hk hr2
  go_enter Tryz.func54, Tryz.ntmps54
  go_wp2_with fail
  refine (unhide HKe).mono ?_
  rintro e w1 ⟨rfl, rfl⟩
  go_wp2_with fail
  refine (unhide HS2).mono ?_
  rintro e w1 ⟨v, rfl, hrow, hb1⟩
  have hb : Below w.heap.size w w1 := ((Below.refl _ w).alloc (Nat.le_refl _) _).trans (hb1.mono (by omega))
  obtain ⟨m, hm⟩ : ∃ m, ks.length = m + 1 := by
    cases ks with
    | nil =>
      have := unhide HR
      simp [totalOf] at this
      omega
    | cons k r => exact ⟨r.length, rfl⟩
  obtain ⟨g, cp, rfl⟩ : ∃ g cp, v = .slice (some ⟨g, 0, none⟩) ks.length cp := by
    rw [hm] at hrow ⊢
    exact own_form hrow
  have HO := hide hrow
  have HT1 := hide ((unhide HT).below hb (unhide HT).lt)
  have HB := hide hb
  clear hrow hb hb1 HS2 HKe hm
  go_wp2_with fail
  go_loopw [1, 6] (fun x i wr => ∃ (j r' : Nat), j < ks.length ∧ i = .int .i64 j ∧ x = .int .i64 r' ∧ r' < 4611686018427387904 ∧ wr = w1 ∧ Hid (1 ≤ r' ∧ r' ≤ totalOf (fun k => bag.count k) (ks.drop j) ∧ rankOf (fun k => bag.count k) ks r = rankOf (fun k => bag.count k) (ks.drop j) r')) (fun _ i _ => ks.length - (RowKit.intOf i).toNat)
  case atStart =>
    refine ⟨0, r, ?_, rfl, rfl, hr3, rfl, hr1, unhide HR, rfl⟩
    cases ks with
    | nil =>
      have := unhide HR
      simp [totalOf] at this
      omega
    | cons k r => simp
  case round =>
    obtain ⟨j, r', hj, rfl, rfl, hr', rfl, hI⟩ := hrel
    have hd : ks.drop j = ks[j] :: ks.drop (j + 1) := List.drop_eq_getElem_cons hj
    have hkj := unhide HK ks[j] (List.getElem_mem hj)
    have hcell : wr.cell? ⟨g, j, none⟩ = some (.int .u64 (ks[j] : Nat)) := by
      rw [(unhide HO).cellAt j (by omega), List.getElem?_map, List.getElem?_eq_getElem hj]
      rfl
    have hlook := (unhide HT1).look ks[j] hkj
    have hcnt : bag.count ks[j] ≤ bag.length := List.count_le_length
    have hj2 : (j : Int) < ks.length := by omega
    generalize ks[j] = k at *
    generalize hN : ks.length = n at *
    by_cases hle : r' ≤ bag.count k
    · have hdec : decide (((bag.count k : Nat) : Int) < (r' : Int)) = false := by simp; omega
      go_wp2_with fail
      go_ret
      refine ⟨?_, unhide HB⟩
      obtain ⟨_, _, h3⟩ := unhide hI
      rw [h3, hd, rankOf, if_pos hle]
      rfl
    · have hlt2 : bag.count k < r' := by omega
      have hdec : decide (((bag.count k : Nat) : Int) < (r' : Int)) = true := by simp; omega
      have hI2 : Hid (1 ≤ r' - bag.count k ∧ r' - bag.count k ≤ totalOf (fun k => bag.count k) (ks.drop (j + 1)) ∧ rankOf (fun k => bag.count k) ks r = rankOf (fun k => bag.count k) (ks.drop (j + 1)) (r' - bag.count k)) := by
        obtain ⟨h1, h2, h3⟩ := unhide hI
        rw [hd, totalOf_cons] at h2
        refine ⟨by omega, by omega, ?_⟩
        rw [h3, hd, rankOf, if_neg hle]
      have hj3 : j + 1 < n := by
        obtain ⟨h1, h2, _⟩ := unhide hI2
        rcases Nat.lt_or_ge (j + 1) n with h | h
        · exact h
        · rw [List.drop_eq_nil_of_le (by rw [hN]; exact h)] at h2
          simp [totalOf] at h2
          omega
      have hw1 : wrap64 ((r' : Int) - ((bag.count k : Nat) : Int)) = ((r' - bag.count k : Nat) : Int) := by unfold wrap64; omega
      go_wp2_with fail
      go_roundw
      case rel => exact ⟨j + 1, r' - bag.count k, hj3, rfl, by first | rfl | (rw [Int.natCast_sub (by omega)]), by omega, trivial, hI2⟩
      case measure => simp [RowKit.intOf]; omega
end Go.Proofs.YtgekdmjneogdoaaGreatDoor

namespace Go.Proofs.YtgekdmjneogdoaaGreatDoor
open Go.RowKit Go.Shelf Go.Maps

/-- what SortedFunc makes of the keys of a tally of this bag -/
def SortsTo (bag ks : List Nat) : Prop := ∀ (w : World) (b : Nat), Tal w b bag →
  Calls Tryz.prog 86 #[.func (.func 144) #[] #[.pointer (some ⟨w.heap.size, 0, none⟩)], .func (.func 88) #[] #[]] (w.alloc (.cells #[.map (some b)] 96)) fun e W' =>
      ∃ v, e = .returned v ∧ W'.ownsRow (w.heap.size + 1) 25 1 v ks.length (ks.map encK) ∧ Below (w.heap.size + 1) (w.alloc (.cells #[.map (some b)] 96)) W'

set_option maxHeartbeats 400000 in
theorem rounded_any (n b : Nat) (hn : n < 10000000000000000) (hb1 : 1 ≤ b) (hb2 : b ≤ 1000) (w : World) :
    Calls Tryz.prog 55 #[.int .i64 n, .int .i64 b] w fun e w' => e = .returned (.int .i64 ((n + b - 1) / b : Nat)) ∧ w' = w := by
  have q1 : (n + b - 1) / b ≤ n + b - 1 := Nat.div_le_self _ _
  have D1 := hide (Int.natCast_ediv (n + b - 1) b)
  have hw1 : wrap64 ((n : Int) + (b : Int)) = (n : Int) + b := by unfold wrap64; omega
  have hw2 : wrap64 ((n : Int) + (b : Int) - 1) = ((n + b - 1 : Nat) : Int) := by unfold wrap64; omega
  go_enter Tryz.func55, Tryz.ntmps55
  go_wp2_with fail
  go_ret
  refine ⟨?_, rfl⟩
  apply retI
  have d := unhide D1
  rw [d]
  congr 1
  omega

/-- the rank that is asked for -/
def rankN (a b n : Nat) : Nat := max 1 ((a * n + b - 1) / b)

theorem rankN_le {a b n : Nat} (hab : a ≤ b) (hb : 1 ≤ b) (hn : 1 ≤ n) : rankN a b n ≤ n := by
  unfold rankN
  have h1 : a * n ≤ b * n := Nat.mul_le_mul_right n hab
  have h2 : (a * n + b - 1) / b ≤ n := by
    apply Nat.le_of_lt_succ
    rw [Nat.div_lt_iff_lt_mul hb]
    have : (n + 1) * b = b * n + b := by rw [Nat.add_mul, Nat.one_mul, Nat.mul_comm]
    show a * n + b - 1 < (n + 1) * b
    omega
  omega

set_option maxRecDepth 20000 in
set_option maxHeartbeats 1600000 in
theorem quant_ok {K : Nat → Prop} {w : World} {mb kb W C : Nat} {S : MS} {ms : List (Option Nat)} {bags : List (List Nat)} (h : Mtr K w mb kb W C S ms bags) (k a b : Nat) (hk1 : 1 ≤ k) (hk2 : k ≤ ms.length) (hl : bags.flatten.length < 4000000000000) (hb1 : 1 ≤ b) (hb2 : b ≤ 1000) (hab : a ≤ b)
    (bag ks : List Nat) (hbag : (bags.take k).flatten = bag) (hne : bag ≠ []) (hS : SortsTo bag ks) (hks : ∀ x ∈ ks, x < 18446744073709551616) (hkl : ks.length < 4611686018427387904) (htot : totalOf (fun x => bag.count x) ks = bag.length) :
    Calls Tryz.prog 28 #[.pointer (some ⟨mb, 0, none⟩), .int .i64 k, .int .i64 a, .int .i64 b] w fun e w' => e = .returned (.tuple #[.int .u64 (rankOf (fun x => bag.count x) ks (rankN a b bag.length)), .int .i64 0]) ∧ Below w.heap.size w w' := by
  have c2 := h.z.c2
  have hn8 := h.hn.2
  have hle : bag.length ≤ bags.flatten.length := by rw [← hbag]; exact take_flat_le bags k
  have HLa := hide (last_ok h k hk1 hk2 (by omega))
  have HKe := hide h
  have hpos : 1 ≤ bag.length := by
    cases bag with
    | nil => exact absurd rfl hne
    | cons x r => simp
  have HH := hide (And.intro hS (And.intro hks (And.intro hkl htot)))
  have hm1 : a * bag.length ≤ 1000 * bag.length := Nat.mul_le_mul_right _ (by omega)
  have HR := hide (rankN_le hab hb1 hpos)
  clear h hne hS hks hkl htot
  have hd1 : decide ((k : Int) < 1) = false := by simp; omega
  generalize hN : ms.length = n at *
  have hd2 : decide (n < k) = false := by simp; omega
  have hbl : bag.length < 4000000000000 := by omega
  have hmul : ((a : Int) * (bag.length : Int)) = ((a * bag.length : Nat) : Int) := by push_cast; rfl
  have hmw : wrap64 ((a : Int) * (bag.length : Int)) = ((a * bag.length : Nat) : Int) := by rw [hmul]; unfold wrap64; omega
  have HRo : Hid (∀ w, Calls Tryz.prog 55 #[.int .i64 ((a : Int) * (bag.length : Int)), .int .i64 b] w fun e w' => e = .returned (.int .i64 ((a * bag.length + b - 1) / b : Nat)) ∧ w' = w) := fun w => by
    rw [hmul]; exact rounded_any (a * bag.length) b (by omega) hb1 hb2 w
  obtain ⟨q, hq⟩ : ∃ q, (a * bag.length + b - 1) / b = q := ⟨_, rfl⟩
  have hrq : rankN a b bag.length = max 1 q := by unfold rankN; rw [hq]
  rw [hq] at HRo
  rw [hrq] at HR ⊢
  rw [hbag] at HLa
  clear hq hrq
  clear hbag hmul
  go_enter Tryz.func28, Tryz.ntmps28
  go_wp2_with fail
  refine (unhide HLa).mono ?_
  rintro e w1 ⟨rfl, hT1, hb1'⟩
  have HSa := hide (tsamples_any w.heap.size bag w1 hT1 (by omega))
  have HT1 := hide hT1
  have HB1 := hide hb1'
  clear hT1 hb1'
  go_wp2_with fail
  refine (unhide HSa).mono ?_
  rintro e w2 ⟨rfl, hb2'⟩
  have HT2 := hide ((unhide HT1).below hb2' (unhide HT1).lt)
  have HB2 := hide ((unhide HB1).trans (hb2'.mono (unhide HB1).size))
  clear hb2' HT1 HB1
  go_wp2_with fail
  refine (unhide HRo _).mono ?_
  rintro e w3 ⟨rfl, e3⟩
  rw [e3]
  clear e3 w3
  have HA : Hid (Calls Tryz.prog 54 #[.map (some w.heap.size), .int .i64 ((max 1 q : Nat) : Int)] w2 fun e w' => e = .returned (.int .u64 (rankOf (fun x => bag.count x) ks (max 1 q))) ∧ Below w2.heap.size w2 w') := by
    obtain ⟨h1, h2, h3, h4⟩ := unhide HH
    exact atRank_of w.heap.size (max 1 q) bag ks w2 (unhide HT2) (by omega) h2 (by omega) (by rw [h4]; exact unhide HR) (by have := unhide HR; have : max 1 q ≤ bag.length := this; omega) h3 (h1 w2 w.heap.size (unhide HT2))
  by_cases h1q : 1 < q
  · have hmx : max 1 q = q := by omega
    rw [hmx] at HA
    have HX := hide hmx
    clear hmx
    go_wp2_with fail
    refine (unhide HA).mono ?_
    rintro e w3 ⟨rfl, hb3⟩
    have HB3 := hide ((unhide HB2).trans (hb3.mono (unhide HB2).size))
    clear hb3
    go_wp2_with fail
    go_ret2
    exact ⟨by rw [unhide HX]; rfl, unhide HB3⟩
  · have hmx : max 1 q = 1 := by omega
    rw [hmx] at HA
    have HX := hide hmx
    clear hmx
    go_wp2_with fail
    refine (unhide HA).mono ?_
    rintro e w3 ⟨rfl, hb3⟩
    have HB3 := hide ((unhide HB2).trans (hb3.mono (unhide HB2).size))
    clear hb3
    go_wp2_with fail
    go_ret2
    exact ⟨by rw [unhide HX]; rfl, unhide HB3⟩
end Go.Proofs.YtgekdmjneogdoaaGreatDoor
