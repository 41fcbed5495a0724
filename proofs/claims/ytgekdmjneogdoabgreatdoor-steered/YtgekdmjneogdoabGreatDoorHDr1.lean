import Derived.Test.YtgekdmjneogdoabGreatDoorHMq1
namespace Go.Proofs.YtgekdmjneogdoabGreatDoor
open Go.RowKit Go.Maps

/-! the rule: its leaves -/
abbrev ruleV (low high : Nat) (least most rest : Int) : Value := .agg #[.float .f64 low, .float .f64 high, .int .i64 least, .int .i64 most, .int .i64 rest]
abbrev ruleCells (low high : Nat) (least most rest : Int) : Array Value := #[.float .f64 low, .float .f64 high, .int .i64 least, .int .i64 most, .int .i64 rest]

def leB (a b : Nat) : Bool := FloatKind.f64.format.order a b == some .lt || FloatKind.f64.format.order a b == some .eq
def gtB (a b : Nat) : Bool := FloatKind.f64.format.order a b == some .gt
def ltB (a b : Nat) : Bool := FloatKind.f64.format.order a b == some .lt

def mayB (low high : Nat) (least most rest : Int) : Bool :=
  leB low high && decide (1 ≤ least) && decide (least ≤ most) && decide (most ≤ 100) && decide (0 ≤ rest) && decide (rest ≤ 1099511627776)

set_option maxRecDepth 20000 in
set_option maxHeartbeats 400000 in
theorem maybe_any (low high : Nat) (least most rest : Int) (w : World) :
    Calls Tryz.prog 28 #[ruleV low high least most rest] w fun e w' => e = .returned (.bool (mayB low high least most rest)) ∧ Below w.heap.size w w' := by
  go_enter Tryz.func28, Tryz.ntmps28
  go_wp2_with fail
  all_goals
    go_ret
    refine ⟨?_, (Below.refl _ w).alloc (Nat.le_refl _) _⟩
    first
      | (simp_all [mayB, leB]; done)
      | (simp [mayB, leB]; omega)

/-- how many there should be -/
def wantN (low high least most wk q : Nat) : Nat :=
  if gtB q high && decide (wk < most) then wk + 1 else if ltB q low && decide (least < wk) then wk - 1 else wk

set_option maxRecDepth 20000 in
set_option maxHeartbeats 400000 in
theorem wanted_any (low high least most rest wk q : Nat) (hw : wk ≤ 1000) (w : World) :
    Calls Tryz.prog 33 #[ruleV low high least most rest, .int .i64 wk, .float .f64 q] w fun e w' => e = .returned (.int .i64 (wantN low high least most wk q)) ∧ Below w.heap.size w w' := by
  go_enter Tryz.func33, Tryz.ntmps33
  go_wp2_with fail
  all_goals
    go_ret
    refine ⟨?_, (Below.refl _ w).alloc (Nat.le_refl _) _⟩
    apply retI
    first
      | (simp_all [wantN, gtB, ltB]; done)
      | (simp_all [wantN, gtB, ltB]; repeat' split
         all_goals omega)

/-- the meter's block where the rule's part is another -/
theorem Mtr.reS {K K' : Nat → Prop} {w w' : World} {mb kb W C : Nat} {S S' : MS} {ms : List (Option Nat)} {bags : List (List Nat)} (h : Mtr K w mb kb W C S ms bags) (hmb : w'.heap[mb]? = some (.cells (mcells W C kb ms.length S') 63 (0, 0)))
    (hk : ∀ k, k < w.heap.size → k ≠ mb → w'.heap[k]? = w.heap[k]?) (_hs : w.heap.size ≤ w'.heap.size) (hK : ∀ k, K' k → k < w'.heap.size ∧ (k < w.heap.size → K k)) : Mtr K' w' mb kb W C S' ms bags := by
  have hmlt : mb < w.heap.size := (Array.getElem?_eq_some_iff.1 h.z.hm).1
  have hklt : kb < w.heap.size := (Array.getElem?_eq_some_iff.1 h.z.hk).1
  refine ⟨⟨hmb, (hk kb hklt (Ne.symm h.z.ne)).trans h.z.hk⟩, h.len, fun i m g h1 h2 => (h.sl i m g h1 h2).block (fun b e => ?_), h.nd, h.hW, h.hC, h.hn, fun k hk' => ?_⟩
  · have := h.apart (List.mem_of_getElem? (e ▸ h1))
    exact hk b this.2.2 this.1
  · obtain ⟨a1, a2⟩ := hK k hk'
    by_cases hlt : k < w.heap.size
    · exact ⟨a1, (h.out k (a2 hlt)).2⟩
    · refine ⟨a1, by omega, by omega, fun hm => ?_⟩
      have := (h.apart hm).2.2
      omega

theorem Mt0.c3 {w : World} {mb kb W C : Nat} {S : MS} {ms : List (Option Nat)} (h : Mt0 w mb kb W C S ms) : w.cell? ⟨mb, 3, none⟩ = some (rulePtr S.rb) := by
  simp [World.cell?, h.hm]
theorem Mt0.c4 {w : World} {mb kb W C : Nat} {S : MS} {ms : List (Option Nat)} (h : Mt0 w mb kb W C S ms) : w.cell? ⟨mb, 4, none⟩ = some (.int .i64 S.wk) := by
  simp [World.cell?, h.hm]
theorem Mt0.c5 {w : World} {mb kb W C : Nat} {S : MS} {ms : List (Option Nat)} (h : Mt0 w mb kb W C S ms) : w.cell? ⟨mb, 5, none⟩ = some (.int .i64 S.ch) := by
  simp [World.cell?, h.hm]
theorem Mt0.fm {w : World} {mb kb W C : Nat} {S : MS} {ms : List (Option Nat)} (h : Mt0 w mb kb W C S ms) (i : Nat) : w.frozen? ⟨mb, i, none⟩ = false := by
  simp [World.frozen?, h.hm]

/-- the rule in memory -/
def RuleAt (w : World) (rb low high : Nat) (least most rest : Int) : Prop := w.heap[rb]? = some (.cells (ruleCells low high least most rest) 68 (0, 0))

/-- the state behind a change -/
def chS (S : MS) (C nw : Nat) : MS := if nw = S.wk then S else ⟨S.rb, nw, C⟩

set_option maxRecDepth 20000 in
set_option maxHeartbeats 400000 in
theorem change_any {K : Nat → Prop} {w : World} {mb kb W C : Nat} {S : MS} {ms : List (Option Nat)} {bags : List (List Nat)} (h : Mtr K w mb kb W C S ms bags) (nw : Nat) :
    Calls Tryz.prog 32 #[.pointer (some ⟨mb, 0, none⟩), .int .i64 nw] w fun e w' => e = .returned (.tuple #[]) ∧ Mtr K w' mb kb W C (chS S C nw) ms bags ∧ Kept K w w' ∧ w'.heap.size = w.heap.size := by
  have c4 := h.z.c4
  have c1 := h.z.c1
  by_cases e : nw = S.wk
  · have hd : decide ((nw : Int) = (S.wk : Int)) = true := by simp [e]
    have H := hide h
    have hc : chS S C nw = S := if_pos e
    rw [hc]
    clear h hc
    subst e
    go_enter Tryz.func32, Tryz.ntmps32
    go_wp2_with fail
    go_end0
    exact ⟨rfl, unhide H, Kept.refl _ _, rfl⟩
  · have hd : decide ((nw : Int) = (S.wk : Int)) = false := by simp; omega
    have hc : chS S C nw = ⟨S.rb, nw, C⟩ := if_neg e
    rw [hc]
    have f4 := h.z.fm 4
    have hm := h.z.hm
    have hsc : w.setCell ⟨mb, 4, none⟩ (.int .i64 (nw : Int)) = w.setRow mb (mcells W C kb ms.length ⟨S.rb, nw, S.ch⟩) := setCell_eq_setRow w mb 4 _ _ _ _ hm
    have hm2 := setRow_heap w mb _ (mcells W C kb ms.length ⟨S.rb, nw, S.ch⟩) _ _ hm
    have c5 : (w.setCell ⟨mb, 4, none⟩ (.int .i64 (nw : Int))).cell? ⟨mb, 5, none⟩ = some (.int .i64 S.ch) := by rw [hsc]; simp [World.cell?, hm2]
    have f5 : (w.setCell ⟨mb, 4, none⟩ (.int .i64 (nw : Int))).frozen? ⟨mb, 5, none⟩ = false := by rw [hsc]; simp [World.frozen?, hm2]
    have hsc2 : (w.setCell ⟨mb, 4, none⟩ (.int .i64 (nw : Int))).setCell ⟨mb, 5, none⟩ (.int .i64 (C : Int)) = (w.setRow mb (mcells W C kb ms.length ⟨S.rb, nw, S.ch⟩)).setRow mb (mcells W C kb ms.length ⟨S.rb, nw, C⟩) := by
      rw [hsc]; exact setCell_eq_setRow _ mb 5 _ _ _ _ hm2
    rw [setRow_setRow] at hsc2
    have H := hide (And.intro h (And.intro hm hsc2))
    clear h hm hm2 hsc hsc2 hc
    go_enter Tryz.func32, Tryz.ntmps32
    go_wp2_with fail
    go_end0
    obtain ⟨h, hm, hsc2⟩ := unhide H
    rw [hsc2]
    refine ⟨rfl, h.reS (setRow_heap _ _ _ _ _ _ hm) (fun k _ hk => setRow_other _ _ _ _ hk) (by simp) (fun k hk => ⟨by simpa using (h.out k hk).1, fun _ => hk⟩), ⟨rfl, rfl, rfl, by simp, fun k hk => setRow_other _ _ _ _ (h.out k hk).2.1⟩, by simp⟩
end Go.Proofs.YtgekdmjneogdoabGreatDoor

namespace Go.Proofs.YtgekdmjneogdoabGreatDoor
open Go.RowKit Go.Maps

set_option maxRecDepth 20000 in
set_option maxHeartbeats 800000 in
theorem rule_ok {K : Nat → Prop} {w : World} {mb kb W C : Nat} {S : MS} {ms : List (Option Nat)} {bags : List (List Nat)} (h : Mtr K w mb kb W C S ms bags) (low high least most rest : Nat) (hn1 : (FloatKind.f64.format.order low low != some .eq) = false) (hn2 : (FloatKind.f64.format.order high high != some .eq) = false)
    (hm : mayB low high least most rest = true) (_hw : S.wk ≤ 1000) (_h1 : least ≤ 1000) (_h2 : most ≤ 1000) :
    Calls Tryz.prog 11 #[.pointer (some ⟨mb, 0, none⟩), .int .u64 low, .int .u64 high, .int .i64 least, .int .i64 most, .int .i64 rest] w fun e w' => e = .returned (.int .i64 0) ∧
      ∃ rb, w.heap.size ≤ rb ∧ RuleAt w' rb low high least most rest ∧ Mtr (fun k => K k ∨ k = rb) w' mb kb W C ⟨some rb, min (max S.wk least) most, S.ch⟩ ms bags ∧ Kept K w w' := by
  have hff := mfromb_run
  have hsf : ∀ (a : Addr) (m : Mode) (x : Nat) (w : World), (store a (.float .f64 x) m).run Tryz.prog w = stored Tryz.prog w a (.float .f64 x) m := fun a m x w => run_store _ w a _ m rfl
  have HM := hide (maybe_any low high least most rest)
  rw [hm] at HM
  have H := hide h
  clear h hm
  go_enter Tryz.func11, Tryz.ntmps11
  go_wp2_with fail
  refine (noNum_m low _).mono ?_
  rintro e w1 ⟨rfl, h1⟩
  rw [hn1, h1]
  clear h1 w1
  go_wp2_with fail
  refine (noNum_m high _).mono ?_
  rintro e w1 ⟨rfl, h1⟩
  rw [hn2, h1]
  clear h1 w1
  go_wp2_with fail
  refine (unhide HM _).mono ?_
  rintro e w1 ⟨rfl, hb1⟩
  have hmlt : mb < w.heap.size := (Array.getElem?_eq_some_iff.1 (unhide H).z.hm).1
  have hm1 : w1.heap[mb]? = some (.cells (mcells W C kb ms.length S) 63 (0, 0)) :=
    (hb1.block mb (by simp; omega)).trans ((Below.heap_alloc w _ mb hmlt).trans (unhide H).z.hm)
  have hr1 : w1.heap[w.heap.size]? = some (.cells (ruleCells low high least most rest) 68 (0, 0)) :=
    (hb1.block _ (by simp)).trans (World.alloc_heap_new w _)
  have hs1 : w.heap.size + 1 ≤ w1.heap.size := by have := hb1.size; simpa using this
  have hk1 : ∀ k, k < w.heap.size → w1.heap[k]? = w.heap[k]? := fun k hk => (hb1.block k (by simp; omega)).trans (Below.heap_alloc w _ k hk)
  have ho1 : w1.os = w.os ∧ w1.tape = w.tape ∧ w1.output = w.output := ⟨hb1.os, hb1.tape, hb1.output⟩
  generalize hrb : w.heap.size = rb at *
  have c3 : w1.cell? ⟨mb, 3, none⟩ = some (rulePtr S.rb) := by simp [World.cell?, hm1]
  have f3 : w1.frozen? ⟨mb, 3, none⟩ = false := by simp [World.frozen?, hm1]
  have hsc : w1.setCell ⟨mb, 3, none⟩ (.pointer (some ⟨rb, 0, none⟩)) = w1.setRow mb (mcells W C kb ms.length ⟨some rb, S.wk, S.ch⟩) := setCell_eq_setRow w1 mb 3 _ _ _ _ hm1
  have hm2 := setRow_heap w1 mb _ (mcells W C kb ms.length ⟨some rb, S.wk, S.ch⟩) _ _ hm1
  have c4 : (w1.setCell ⟨mb, 3, none⟩ (.pointer (some ⟨rb, 0, none⟩))).cell? ⟨mb, 4, none⟩ = some (.int .i64 S.wk) := by rw [hsc]; simp [World.cell?, hm2]
  have f4 : (w1.setCell ⟨mb, 3, none⟩ (.pointer (some ⟨rb, 0, none⟩))).frozen? ⟨mb, 4, none⟩ = false := by rw [hsc]; simp [World.frozen?, hm2]
  have hsc2 : (w1.setCell ⟨mb, 3, none⟩ (.pointer (some ⟨rb, 0, none⟩))).setCell ⟨mb, 4, none⟩ (.int .i64 ((min (max S.wk least) most : Nat) : Int)) = w1.setRow mb (mcells W C kb ms.length ⟨some rb, min (max S.wk least) most, S.ch⟩) := by
    rw [hsc, setCell_eq_setRow _ mb 4 _ _ _ _ hm2, setRow_setRow]
    rfl
  have H1 := hide (And.intro hm1 (And.intro hr1 (And.intro hs1 (And.intro hk1 (And.intro ho1 (And.intro hsc2 hmlt))))))
  have hmx : ∀ w, (Builtin.max_ #[3, 3] 3 #[.int .i64 S.wk, .int .i64 least]).run Tryz.prog w = .ok (.int .i64 ((max S.wk least : Nat) : Int)) w := fun w => by
    have e : (if (least : Int) > (S.wk : Int) then (least : Int) else (S.wk : Int)) = ((max S.wk least : Nat) : Int) := by split <;> omega
    rw [← e]; rfl
  have hmn : ∀ w, (Builtin.min_ #[3, 3] 3 #[.int .i64 ((max S.wk least : Nat) : Int), .int .i64 most]).run Tryz.prog w = .ok (.int .i64 ((min (max S.wk least) most : Nat) : Int)) w := fun w => by
    have e : (if (most : Int) < ((max S.wk least : Nat) : Int) then (most : Int) else ((max S.wk least : Nat) : Int)) = ((min (max S.wk least) most : Nat) : Int) := by split <;> omega
    rw [← e]; rfl
  clear hb1 hm1 hr1 hs1 hk1 ho1 hsc hm2 hsc2 hmlt
  go_wp2_with fail
  go_ret
  obtain ⟨hm1, hr1, hs1, hk1, ho1, hsc2, hmlt⟩ := unhide H1
  rw [hsc2]
  have h := unhide H
  have hne : ∀ k, k ≠ mb → (w1.setRow mb (mcells W C kb ms.length ⟨some rb, min (max S.wk least) most, S.ch⟩)).heap[k]? = w1.heap[k]? := fun k hk => setRow_other _ _ _ _ hk
  refine ⟨rfl, rb, by omega, (hne rb (by omega)).trans hr1, h.reS (setRow_heap _ _ _ _ _ _ hm1) (fun k hk hk2 => (hne k hk2).trans (hk1 k (by omega))) (by simp; omega) (fun k hk => ?_), ⟨ho1.1, ho1.2.1, ho1.2.2, by simp; omega, fun k hk => (hne k (h.out k hk).2.1).trans (hk1 k (by have := (h.out k hk).1; omega))⟩⟩
  rcases hk with hk | rfl
  · exact ⟨by have := (h.out k hk).1; simp; omega, fun _ => hk⟩
  · exact ⟨by simp; omega, fun hlt => absurd hlt (by omega)⟩
end Go.Proofs.YtgekdmjneogdoabGreatDoor

namespace Go.Proofs.YtgekdmjneogdoabGreatDoor
open Go.RowKit Go.Maps

set_option maxRecDepth 20000 in
set_option maxHeartbeats 1600000 in
theorem decide_val {K : Nat → Prop} {w : World} {mb kb W C : Nat} {S : MS} {ms : List (Option Nat)} {bags : List (List Nat)} (h : Mtr K w mb kb W C S ms bags) (rb low high least most rest q : Nat) (hS : S.rb = some rb) (hK : K rb) (hR : RuleAt w rb low high least most rest) (k a b : Int)
    (hQ : Calls Tryz.prog 21 #[.pointer (some ⟨mb, 0, none⟩), .int .i64 k, .int .i64 a, .int .i64 b] w fun e w' => e = .returned (.tuple #[.int .u64 q, .int .i64 0]) ∧ Below w.heap.size w w')
    (hc1 : -1099511627776 ≤ S.ch) (hc2 : S.ch ≤ 1099511627776) (hwk : S.wk ≤ 1000) (hrest : rest ≤ 1099511627776)
    (S' : MS) (hS' : S' = (if (rest : Int) ≤ (C : Int) - S.ch then chS S C (wantN low high least most S.wk q) else S)) :
    Calls Tryz.prog 14 #[.pointer (some ⟨mb, 0, none⟩), .int .i64 k, .int .i64 a, .int .i64 b] w fun e w' =>
      e = .returned (.tuple #[.int .i64 S'.wk, .int .i64 0]) ∧ Mtr K w' mb kb W C S' ms bags ∧ Kept K w w' := by
  have hff := mfromb_run
  have HQ := hide hQ
  have c3 : w.cell? ⟨mb, 3, none⟩ = some (.pointer (some ⟨rb, 0, none⟩)) := by have := h.z.c3; rw [hS] at this; exact this
  have H := hide (And.intro h (And.intro hK (And.intro hR hS)))
  have hCb := h.hC
  clear h hQ hR hK
  obtain ⟨sr, wk, ch⟩ := S
  simp only at hc1 hc2 hwk hS hS'
  subst hS
  go_enter Tryz.func14, Tryz.ntmps14
  go_wp2_with fail
  refine (unhide HQ).mono ?_
  rintro e w1 ⟨rfl, hb1⟩
  have hM1 := (unhide H).1.below hb1
  have hrlt : rb < w.heap.size := (Array.getElem?_eq_some_iff.1 (unhide H).2.2.1).1
  have hR1 : w1.heap[rb]? = some (.cells (ruleCells low high least most rest) 68 (0, 0)) := (hb1.block rb hrlt).trans (unhide H).2.2.1
  have d1 : w1.cell? ⟨mb, 1, none⟩ = some (.int .i64 C) := hM1.z.c1
  have d3 : w1.cell? ⟨mb, 3, none⟩ = some (.pointer (some ⟨rb, 0, none⟩)) := hM1.z.c3
  have d4 : w1.cell? ⟨mb, 4, none⟩ = some (.int .i64 wk) := hM1.z.c4
  have d5 : w1.cell? ⟨mb, 5, none⟩ = some (.int .i64 ch) := hM1.z.c5
  have r4 : w1.cell? ⟨rb, 4, none⟩ = some (.int .i64 rest) := by simp [World.cell?, hR1]
  have HK1 : Hid (Kept K w w1) := (unhide H).1.keptBelow hb1
  have HM1 := hide hM1
  have HR1 := hide hR1
  clear hM1 hR1 hb1 hrlt c3
  have hwr : wrap64 ((C : Int) - ch) = (C : Int) - ch := by unfold wrap64; omega
  by_cases hge : (rest : Int) ≤ (C : Int) - ch
  · have hd : decide ((rest : Int) ≤ (C : Int) - ch) = true := by simp [hge]
    rw [if_pos hge] at hS'
    have HE := hide hS'
    clear hS'
    go_wp2_with fail
    go_quiet (fail)
    have HM2 : Hid (Mtr K (w1.drewN nq).drew mb kb W C ⟨some rb, wk, ch⟩ ms bags) := ((unhide HM1).drewN nq).drewN 1
    have hr2 : (w1.drewN nq).drew.heap[rb]? = some (.cells (ruleCells low high least most rest) 68 (0, 0)) := unhide HR1
    have HK2 : Hid (Kept K w (w1.drewN nq).drew) := (unhide HK1).trans ⟨rfl, rfl, rfl, Nat.le_refl _, fun _ _ => rfl⟩
    generalize w1.drewN nq = w2 at *
    have e3 : w2.drew.cell? ⟨mb, 3, none⟩ = some (.pointer (some ⟨rb, 0, none⟩)) := (unhide HM2).z.c3
    have e4 : w2.drew.cell? ⟨mb, 4, none⟩ = some (.int .i64 wk) := (unhide HM2).z.c4
    have r0 : w2.drew.cell? ⟨rb, 0, none⟩ = some (.float .f64 low) := by simp [World.cell?, hr2]
    have r1 : w2.drew.cell? ⟨rb, 1, none⟩ = some (.float .f64 high) := by simp [World.cell?, hr2]
    have r2 : w2.drew.cell? ⟨rb, 2, none⟩ = some (.int .i64 least) := by simp [World.cell?, hr2]
    have r3 : w2.drew.cell? ⟨rb, 3, none⟩ = some (.int .i64 most) := by simp [World.cell?, hr2]
    have r4' : w2.drew.cell? ⟨rb, 4, none⟩ = some (.int .i64 rest) := by simp [World.cell?, hr2]
    have HW := hide (wanted_any low high least most rest wk q hwk)
    have hss : w2.drew.heap.size = w2.heap.size := rfl
    generalize wantN low high least most wk q = nw at *
    clear d1 d3 d4 d5 r4 HM1 HR1 HK1 hr2 hwr
    go_wp2_with fail
    go_region_with (first
      | (go_at_call 33; refine (unhide HW _).mono ?_; rintro e w3 ⟨rfl, hb3⟩; have HM3 := hide ((unhide HM2).below hb3); have HK3 : Hid (Kept K w w3) := (unhide HK2).trans ((unhide HM2).keptBelow hb3); clear hb3)
      | (go_at_call 32; refine (change_any (unhide HM3) nw).mono ?_; rintro e w4 ⟨rfl, hM4, hk4, hs4⟩))
    all_goals
      have hm4 : w4.cell? ⟨mb, 4, none⟩ = some (.int .i64 (chS ⟨some rb, wk, ch⟩ C nw).wk) := hM4.z.c4
      have HM4 := hide hM4
      have HK4 : Hid (Kept K w w4) := (unhide HK3).trans hk4
      clear hM4 hk4 HM3 HK3
      go_wp2_with fail
      go_ret2
      exact ⟨by rw [unhide HE]; rfl, by rw [unhide HE]; exact unhide HM4, unhide HK4⟩
  · have hd : decide ((rest : Int) ≤ (C : Int) - ch) = false := by simp [hge]
    rw [if_neg hge] at hS'
    have HE := hide hS'
    clear hS'
    go_wp2_with fail
    go_quiet (fail)
    go_wp2_with fail
    go_ret2
    exact ⟨by rw [unhide HE]; rfl, by rw [unhide HE]; exact (unhide HM1).drewN nq, (unhide HK1).trans ⟨rfl, rfl, rfl, Nat.le_refl _, fun _ _ => rfl⟩⟩
end Go.Proofs.YtgekdmjneogdoabGreatDoor
