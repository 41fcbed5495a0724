import Derived.Test.YtgekdmjneogdoaaGreatDoorXDeK
import Derived.Test.YtgekdmjneogdoaaGreatDoorXFo2
import Derived.Test.YtgekdmjneogdoaaGreatDoorXLd4
import Derived.Test.YtgekdmjneogdoaaGreatDoorXRt5
import Derived.ChangeSlices
import Derived.Carry
namespace Go.Proofs.YtgekdmjneogdoaaGreatDoor
open Go.RowKit Go.Shelf Go.Maps

/-! Numbers: a script of Number and Short -/
set_option maxRecDepth 40000 in
set_option maxHeartbeats 1600000 in
theorem step_num {w0 w : World} {zb : Nat} {av : Value} {ps : List Pr} {tot : Nat} (h : WS w0 w zb av ps tot) (p : OpR) (hp : p.good) (hk : 1 ≤ p.kd ∧ p.kd ≤ 2) (a : Option Addr) (l c : Nat) (hlv : p.Lv = .slice a l c) (hS : p.S.size ≤ 9223372036854775807) (hT : Tabs w0) (hW0 : SlowW w0) :
    Calls Tryz.prog 37 #[.pointer (some ⟨zb, 0, none⟩), opV p.kd p.wn p.A p.B p.Cc p.S p.V p.U p.Lv] w fun e w' => e = .returned (.bool true) ∧ WS w0 w' zb av ps (tot + 1) := by
  obtain ⟨_, _, _, _, g5⟩ := hp
  have hba : Below w.heap.size w (w.alloc (opB p.kd p.wn p.A p.B p.Cc p.S p.V p.U p.Lv)) := (Below.refl _ w).alloc (Nat.le_refl _) _
  have hh := h.below hba
  have hN : Calls Tryz.prog 67 #[opV p.kd p.wn p.A p.B p.Cc p.S p.V p.U p.Lv] (w.alloc (opB p.kd p.wn p.A p.B p.Cc p.S p.V p.U p.Lv)) fun e w' => e = .returned (.bool true) ∧ WS w0 w' zb av ps (tot + 1) := by
    rw [hlv] at hh ⊢
    by_cases h1 : p.kd = 1
    · obtain ⟨x, y, hb⟩ := num_both p.S hS (w.alloc (opB p.kd p.wn p.A p.B p.Cc p.S p.V p.U (.slice a l c))) (hT.below hh.bel) (hW0.below hh.bel)
      rw [h1] at hh hb ⊢
      refine (numbers_number p.wn p.A p.B p.Cc p.S p.V p.U a l c x y _ hb).mono ?_
      rintro e w' ⟨r1, r2⟩
      exact ⟨r1, (hh.below r2).more (by omega)⟩
    · obtain ⟨x, hb⟩ := short_both p.V g5 (w.alloc (opB p.kd p.wn p.A p.B p.Cc p.S p.V p.U (.slice a l c))) (hT.below hh.bel)
      refine (numbers_short p.kd p.wn p.A p.B p.Cc h1 p.S p.V p.U a l c x _ hb).mono ?_
      rintro e w' ⟨r1, r2⟩
      exact ⟨r1, (hh.below r2).more (by omega)⟩
  have HN := hide hN
  rw [hlv] at HN ⊢
  have hk1 : p.kd = 1 ∨ p.kd = 2 := by omega
  generalize p.kd = kd at *
  generalize p.wn = wn at *
  generalize p.A = A at *
  generalize p.B = B at *
  generalize p.Cc = Cc at *
  generalize p.S = S at *
  generalize p.V = V at *
  generalize p.U = U at *
  clear h hba hh hN hT hW0 hlv hk
  rcases hk1 with rfl | rfl
  · go_enter Tryz.func37, Tryz.ntmps37
    go_wp2_with fail
    refine (unhide HN).mono ?_
    rintro e w1 ⟨rfl, hh⟩
    have HH := hide hh
    clear hh HN
    go_wp2_with fail
    go_ret
    exact ⟨rfl, unhide HH⟩
  · go_enter Tryz.func37, Tryz.ntmps37
    go_wp2_with fail
    refine (unhide HN).mono ?_
    rintro e w1 ⟨rfl, hh⟩
    have HH := hide hh
    clear hh HN
    go_wp2_with fail
    go_ret
    exact ⟨rfl, unhide HH⟩

set_option maxRecDepth 40000 in
set_option maxHeartbeats 3200000 in
theorem plays_num (v : Value) (os : List OpR) (w : World) (hv : RdO (Under w) w v os) (hg : ∀ p ∈ os, p.good) (hl : os.length < 1800000000000) (hS : ∀ p ∈ os, p.S.size ≤ 9223372036854775807) (hT : Tabs w) (hW0 : SlowW w) :
    Calls Tryz.prog 15 #[v, .int .i64 1, .int .i64 2] w fun e w' => e = .returned (.bool true) ∧ Below w.heap.size w w' := by
  have HS := hide hS
  have HTT := hide (And.intro hT hW0)
  have WS0 := hide (ws_start w)
  clear hS hT hW0
  obtain ⟨ao, cap, rfl, hcap, hcells⟩ := hv
  have HCe := hide hcells
  have HG := hide hg
  clear hcells hg
  generalize hL : os.length = L at *
  go_enter Tryz.func15, Tryz.ntmps15
  go_wp2_with fail
  go_loopw [9, 10, 11, 12] (fun i _ _ _ wr => ∃ (j : Nat), j ≤ L ∧ i = .int .i64 j ∧ Hid (WS w wr w.heap.size (.slice none 0 0) [] (j + 1))) (fun i _ _ _ _ => L - (RowKit.intOf i).toNat)
  case atStart => exact ⟨0, by omega, rfl, (unhide WS0).more (by omega)⟩
  case round =>
    obtain ⟨j, hj, rfl, hW⟩ := hrel
    by_cases hjl : j < L
    · obtain ⟨g, o, hgK, rfl, hce⟩ := unhide HCe (by omega)
      obtain ⟨p, hp⟩ : ∃ p, os[j]? = some p := ⟨_, List.getElem?_eq_getElem (by rw [hL]; exact hjl)⟩
      have hgd := unhide HG p (List.mem_of_getElem? hp)
      have hsz := hide (unhide HS p (List.mem_of_getElem? hp))
      obtain ⟨e0, e1, e2, e3, e4, e5, e6, e7, e8, lv1, lv2, lv3, hlv⟩ := hce j p hp
      have hB := (unhide hW).bel
      have d0 := (hB.cell (p := ⟨g, o + j * 9, none⟩) hgK).trans e0
      have d1 := (hB.cell (p := ⟨g, o + j * 9 + 1, none⟩) hgK).trans e1
      have d2 := (hB.cell (p := ⟨g, o + j * 9 + 2, none⟩) hgK).trans e2
      have d3 := (hB.cell (p := ⟨g, o + j * 9 + 3, none⟩) hgK).trans e3
      have d4 := (hB.cell (p := ⟨g, o + j * 9 + 4, none⟩) hgK).trans e4
      have d5 := (hB.cell (p := ⟨g, o + j * 9 + 5, none⟩) hgK).trans e5
      have d6 := (hB.cell (p := ⟨g, o + j * 9 + 6, none⟩) hgK).trans e6
      have d7 := (hB.cell (p := ⟨g, o + j * 9 + 7, none⟩) hgK).trans e7
      have d8 := (hB.cell (p := ⟨g, o + j * 9 + 8, none⟩) hgK).trans e8
      have hdj : decide (j < L) = true := by simp; omega
      have HGd := hide hgd
      have HPj := hide hp
      clear hce hp hgd e0 e1 e2 e3 e4 e5 e6 e7 e8 hB
      by_cases hin : 1 ≤ p.kd ∧ p.kd ≤ 2
      · have k1 : decide (1 ≤ p.kd) = true := by simp; omega
        have k2 : decide (p.kd ≤ 2) = true := by simp; omega
        have HIn := hide hin
        clear hin
        have hSt := step_num ((unhide hW).below ((Below.refl _ wr).alloc (Nat.le_refl _) (opB p.kd p.wn p.A p.B p.Cc p.S p.V p.U p.Lv))) p (unhide HGd) (unhide HIn) lv1 lv2 lv3 hlv (unhide hsz) (unhide HTT).1 (unhide HTT).2
        rw [hlv] at d8 hSt
        have HSt := hide hSt
        clear hSt
        go_wp2_with fail
        refine (unhide HSt).mono ?_
        rintro e w4 ⟨rfl, hW4⟩
        have HW4 := hide hW4
        have HKe := hide (lawkept_ok hW4)
        clear hW4 HSt d0 d1 d2 d3 d4 d5 d6 d7 d8
        go_wp2_with fail
        refine (unhide HKe).mono ?_
        rintro e w5 ⟨rfl, e5⟩
        rw [e5]
        clear e5 w5 HKe
        go_wp2_with fail
        go_roundw
        case rel => exact ⟨j + 1, by omega, rfl, HW4⟩
        case measure => simp [RowKit.intOf]; omega
      · have hWn : Hid (WS w (wr.alloc (opB p.kd p.wn p.A p.B p.Cc p.S p.V p.U p.Lv)) w.heap.size (.slice none 0 0) [] (j + 1 + 1)) := ((unhide hW).below ((Below.refl _ wr).alloc (Nat.le_refl _) _)).more (by omega)
        rw [hlv] at d8 hWn
        by_cases h1k : 1 ≤ p.kd
        · have k1 : decide (1 ≤ p.kd) = true := by simp; omega
          have k2 : decide (p.kd ≤ 2) = false := by simp; omega
          clear hin h1k
          go_wp2_with fail
          go_roundw
          case rel => exact ⟨j + 1, by omega, rfl, hWn⟩
          case measure => simp [RowKit.intOf]; omega
        · have k1 : decide (1 ≤ p.kd) = false := by simp; omega
          clear hin h1k
          go_wp2_with fail
          go_roundw
          case rel => exact ⟨j + 1, by omega, rfl, hWn⟩
          case measure => simp [RowKit.intOf]; omega
    · have hdj : decide (j < L) = false := by simp; omega
      go_wp2_with fail
      go_ret
      exact ⟨rfl, (unhide hW).bel⟩

set_option maxHeartbeats 400000 in
theorem numbersLaw_ok (v : Value) (os : List OpR) (w : World) (hv : RdO (Under w) w v os) (hg : ∀ p ∈ os, p.good) (hl : os.length < 1800000000000) (hS : ∀ p ∈ os, p.S.size ≤ 9223372036854775807) (hT : Tabs w) (hW0 : SlowW w) :
    Calls Tryz.prog 3 #[v] w fun e w' => e = .returned (.bool true) ∧ Below w.heap.size w w' := by
  have HP := hide (plays_num v os w hv hg hl hS hT hW0)
  clear hv hg hl hS hT hW0
  go_enter Tryz.func3, Tryz.ntmps3
  go_wp2_with fail
  refine (unhide HP).mono ?_
  rintro e w1 ⟨rfl, hb⟩
  have HB := hide hb
  clear hb HP
  go_wp2_with fail
  go_ret
  exact ⟨rfl, unhide HB⟩
end Go.Proofs.YtgekdmjneogdoaaGreatDoor

namespace Go.Proofs.YtgekdmjneogdoaaGreatDoor
open Go.RowKit Go.Lib Go.ChangeShapes Go.WideShapes Go.ChangeAt Go.ChangeMaps

theorem wf64N {x : Int} (h : (Lit.int .i64 x).wf = true) : -9223372036854775808 ≤ x ∧ x ≤ 9223372036854775807 := by
  simp only [Lit.wf, Bool.and_eq_true, decide_eq_true_eq] at h
  exact h

theorem wfu64N {x : Int} (h : (Lit.int .u64 x).wf = true) : ∃ n : Nat, x = (n : Int) ∧ n < 18446744073709551616 := by
  simp only [Lit.wf, Bool.and_eq_true, decide_eq_true_eq] at h
  have h2 : 0 ≤ x ∧ x ≤ 18446744073709551615 := h
  exact ⟨x.toNat, by omega, by omega⟩

theorem laidOutN : laidOutB Tryz.prog = true := by kernel_rfl

theorem list9N {cs : List Value} (h : cs.length = 9) : ∃ c0 c1 c2 c3 c4 c5 c6 c7 c8, cs = [c0, c1, c2, c3, c4, c5, c6, c7, c8] := by
  match cs, h with
  | [c0, c1, c2, c3, c4, c5, c6, c7, c8], _ => exact ⟨c0, c1, c2, c3, c4, c5, c6, c7, c8, rfl⟩

theorem nsize3 : Tryz.prog.cellsOf 3 = 1 := by kernel_rfl
theorem nsize9 : Tryz.prog.cellsOf 9 = 1 := by kernel_rfl
theorem nsize25 : Tryz.prog.cellsOf 25 = 1 := by kernel_rfl
theorem nsizeLL : Tryz.prog.cellsOf 74 = 1 := by kernel_rfl
theorem nsizeOp : Tryz.prog.cellsOf 76 = 9 := by kernel_rfl

/-- one step that came in -/
theorem opS_of {H : Type} {enc : TypeId × Value → H} {W : World} {base : Nat} {sp : Nat → Bool} {held : Bool} {n : Nat} {cs : List Value} {y : DataW H × List MemPlace} (h : DataW.trod enc Tryz.prog W base sp held n 76 cs = some y) :
    ∃ p : OpR, (p.good ∧ p.S.size ≤ 9223372036854775807) ∧ (∃ a l c, p.Lv = .slice a l c) ∧ cs = [.int .i64 p.kd, .int .i64 p.wn, .int .i64 p.A, .int .i64 p.B, .int .i64 p.Cc, .string p.S, .int .u64 p.V, .int .u64 p.U, p.Lv] := by
  obtain ⟨xs, m, rfl, rfl, hlen, hxl, hf⟩ := DataW.trod_struct Tryz.underlying76 h
  obtain ⟨c0, c1, c2, c3, c4, c5, c6, c7, c8, rfl⟩ := list9N (hlen.trans nsizeOp)
  have hx9 : xs.length = 9 := hxl
  have g : ∀ i, i < 9 → ∃ x, xs[i]? = some x := fun i hi => ⟨_, List.getElem?_eq_getElem (by omega)⟩
  have f0 : DataW.trod enc Tryz.prog W base sp held m 3 (([c0, c1, c2, c3, c4, c5, c6, c7, c8].drop 0).take (Tryz.prog.cellsOf 3)) = xs[0]? := hf 0 _ rfl
  rw [nsize3] at f0
  have f0 : DataW.trod enc Tryz.prog W base sp held m 3 [c0] = xs[0]? := f0
  have f1 : DataW.trod enc Tryz.prog W base sp held m 3 (([c0, c1, c2, c3, c4, c5, c6, c7, c8].drop 1).take (Tryz.prog.cellsOf 3)) = xs[1]? := hf 1 _ rfl
  rw [nsize3] at f1
  have f1 : DataW.trod enc Tryz.prog W base sp held m 3 [c1] = xs[1]? := f1
  have f2 : DataW.trod enc Tryz.prog W base sp held m 3 (([c0, c1, c2, c3, c4, c5, c6, c7, c8].drop 2).take (Tryz.prog.cellsOf 3)) = xs[2]? := hf 2 _ rfl
  rw [nsize3] at f2
  have f2 : DataW.trod enc Tryz.prog W base sp held m 3 [c2] = xs[2]? := f2
  have f3 : DataW.trod enc Tryz.prog W base sp held m 3 (([c0, c1, c2, c3, c4, c5, c6, c7, c8].drop 3).take (Tryz.prog.cellsOf 3)) = xs[3]? := hf 3 _ rfl
  rw [nsize3] at f3
  have f3 : DataW.trod enc Tryz.prog W base sp held m 3 [c3] = xs[3]? := f3
  have f4 : DataW.trod enc Tryz.prog W base sp held m 3 (([c0, c1, c2, c3, c4, c5, c6, c7, c8].drop 4).take (Tryz.prog.cellsOf 3)) = xs[4]? := hf 4 _ rfl
  rw [nsize3] at f4
  have f4 : DataW.trod enc Tryz.prog W base sp held m 3 [c4] = xs[4]? := f4
  have f5 : DataW.trod enc Tryz.prog W base sp held m 9 (([c0, c1, c2, c3, c4, c5, c6, c7, c8].drop 5).take (Tryz.prog.cellsOf 9)) = xs[5]? := hf 5 _ rfl
  rw [nsize9] at f5
  have f5 : DataW.trod enc Tryz.prog W base sp held m 9 [c5] = xs[5]? := f5
  have f6 : DataW.trod enc Tryz.prog W base sp held m 25 (([c0, c1, c2, c3, c4, c5, c6, c7, c8].drop 6).take (Tryz.prog.cellsOf 25)) = xs[6]? := hf 6 _ rfl
  rw [nsize25] at f6
  have f6 : DataW.trod enc Tryz.prog W base sp held m 25 [c6] = xs[6]? := f6
  have f7 : DataW.trod enc Tryz.prog W base sp held m 25 (([c0, c1, c2, c3, c4, c5, c6, c7, c8].drop 7).take (Tryz.prog.cellsOf 25)) = xs[7]? := hf 7 _ rfl
  rw [nsize25] at f7
  have f7 : DataW.trod enc Tryz.prog W base sp held m 25 [c7] = xs[7]? := f7
  have f8 : DataW.trod enc Tryz.prog W base sp held m 74 (([c0, c1, c2, c3, c4, c5, c6, c7, c8].drop 8).take (Tryz.prog.cellsOf 74)) = xs[8]? := hf 8 _ rfl
  rw [nsizeLL] at f8
  have f8 : DataW.trod enc Tryz.prog W base sp held m 74 [c8] = xs[8]? := f8
  obtain ⟨x0, q0⟩ := g 0 (by omega)
  obtain ⟨x1, q1⟩ := g 1 (by omega)
  obtain ⟨x2, q2⟩ := g 2 (by omega)
  obtain ⟨x3, q3⟩ := g 3 (by omega)
  obtain ⟨x4, q4⟩ := g 4 (by omega)
  obtain ⟨x5, q5⟩ := g 5 (by omega)
  obtain ⟨x6, q6⟩ := g 6 (by omega)
  obtain ⟨x7, q7⟩ := g 7 (by omega)
  obtain ⟨x8, q8⟩ := g 8 (by omega)
  obtain ⟨z0, e0, _, w0⟩ := DataW.trod_int Tryz.underlying3 (f0.trans q0)
  obtain ⟨z1, e1, _, w1⟩ := DataW.trod_int Tryz.underlying3 (f1.trans q1)
  obtain ⟨z2, e2, _, _⟩ := DataW.trod_int Tryz.underlying3 (f2.trans q2)
  obtain ⟨z3, e3, _, _⟩ := DataW.trod_int Tryz.underlying3 (f3.trans q3)
  obtain ⟨z4, e4, _, _⟩ := DataW.trod_int Tryz.underlying3 (f4.trans q4)
  obtain ⟨s5, e5, _, w5⟩ := DataW.trod_string Tryz.underlying9 (f5.trans q5)
  obtain ⟨z6, e6, _, w6⟩ := DataW.trod_int Tryz.underlying25 (f6.trans q6)
  obtain ⟨z7, e7, _, w7⟩ := DataW.trod_int Tryz.underlying25 (f7.trans q7)
  obtain ⟨v6, rfl, l6⟩ := wfu64N w6
  obtain ⟨v7, rfl, l7⟩ := wfu64N w7
  have b0 := wf64N w0
  have b1 := wf64N w1
  have hL : ∃ a l c, c8 = .slice a l c := by
    rcases DataW.trod_slice Tryz.underlying74 (f8.trans q8) with ⟨e, _⟩ | ⟨a, l, c, _, _, _, _, e, _⟩
    · exact ⟨_, _, _, by simpa using e⟩
    · exact ⟨_, _, _, by simpa using e⟩
  simp only [List.cons.injEq, and_true] at e0 e1 e2 e3 e4 e5 e6 e7
  subst e0 e1 e2 e3 e4 e5 e6 e7
  exact ⟨⟨z0, z1, z2, z3, z4, s5, v6, v7, c8⟩, ⟨⟨b0.1, b0.2, b1.1, b1.2, l6⟩, Nat.le_trans w5 (by decide)⟩, hL, rfl⟩
end Go.Proofs.YtgekdmjneogdoaaGreatDoor

namespace Go.Proofs.YtgekdmjneogdoaaGreatDoor
open Go.RowKit Go.Lib Go.ChangeShapes Go.WideShapes Go.ChangeAt Go.ChangeMaps

/-- a script that came in -/
theorem rdoS_of {H : Type} {enc : TypeId × Value → H} {W : World} {a0 : Option Addr} {len cap : Nat} {d : DataW H} {p : List MemPlace} (h : DataW.Trod enc Tryz.prog W 0 (fun _ => true) true 22 (.slice a0 len cap) d p) :
    ∃ os : List OpR, RdO (Under W) W (.slice a0 len cap) os ∧ (∀ q ∈ os, q.good ∧ q.S.size ≤ 9223372036854775807) ∧ os.length = len ∧ (len = 0 ∨ ∃ el re, d = .slice el re ∧ el.length = len) := by
  obtain ⟨fuel, hf⟩ := h
  rcases DataW.trod_slice Tryz.underlying22 hf with ⟨hcs, _⟩ | ⟨a, l, c, elems, rest, n, _, hcs, hx, _, h1, h2, h3, h4, _, _⟩
  · simp [Value.cells] at hcs
    obtain ⟨rfl, rfl, rfl⟩ := hcs
    exact ⟨[], ⟨none, 0, rfl, by simp, fun h => by simp at h⟩, by simp, rfl, Or.inl rfl⟩
  · simp [Value.cells] at hcs
    obtain ⟨rfl, rfl, rfl⟩ := hcs
    have hex : ∀ i, i < len → ∃ q : OpR, (q.good ∧ q.S.size ≤ 9223372036854775807) ∧ (∃ a l c, q.Lv = .slice a l c) ∧ ∀ k, k < 9 → W.cell? ((a.add (i * 9)).add k) = [.int .i64 q.kd, .int .i64 q.wn, .int .i64 q.A, .int .i64 q.B, .int .i64 q.Cc, .string q.S, .int .u64 q.V, .int .u64 q.U, q.Lv][k]? := by
      intro i hi
      have h5 := h4 i hi
      rw [nsizeOp, List.getElem?_eq_getElem (by omega), Option.bind_eq_some_iff] at h5
      obtain ⟨cs, hc, ht⟩ := h5
      obtain ⟨q, hq, hL, rfl⟩ := opS_of ht
      obtain ⟨_, _, hcell⟩ := World.cells?_some hc
      exact ⟨q, hq, hL, hcell⟩
    let f : Nat → OpR := fun i => if h : i < len then Classical.choose (hex i h) else ⟨0, 0, 0, 0, 0, ByteArray.empty, 0, 0, .bool true⟩
    have hfs : ∀ i (hi : i < len), f i = Classical.choose (hex i hi) := fun i hi => by
      show (if h : i < len then Classical.choose (hex i h) else _) = _
      rw [dif_pos hi]
    have hl : ((List.range len).map f).length = len := by simp
    refine ⟨(List.range len).map f, ⟨some a, cap, by rw [hl], by rw [hl]; exact h1, fun h0 => ?_⟩, fun q hq => ?_, hl, Or.inr ⟨_, _, (Prod.mk.inj hx).1, by rw [List.length_map]; exact h3⟩⟩
    · rw [hl] at h0
      obtain ⟨R, o, sR⟩ := a
      have h00 := (Classical.choose_spec (hex 0 h0)).2.2 0 (by omega)
      have e0 : (Addr.add (Addr.add ⟨R, o, sR⟩ (0 * 9)) 0) = ⟨R, o, sR⟩ := by simp [Addr.add]
      rw [e0] at h00
      obtain rfl : sR = none := Go.Proofs.cell_spot h00
      refine ⟨R, o, lt_of_cell h00, rfl, fun j q hj => ?_⟩
      have hjl : j < len := by
        have := (List.getElem?_eq_some_iff.1 hj).1
        rw [hl] at this; exact this
      have hq : q = Classical.choose (hex j hjl) := by
        rw [← hfs j hjl]
        simp [hjl] at hj
        exact hj.symm
      obtain ⟨_, hL, hc⟩ := Classical.choose_spec (hex j hjl)
      rw [← hq] at hL hc
      have g : ∀ k, Addr.add (Addr.add ⟨R, o, none⟩ (j * 9)) k = ⟨R, o + j * 9 + k, none⟩ := fun k => by rw [Addr.add_lit, Addr.add_lit]
      exact ⟨(g 0) ▸ hc 0 (by omega), (g 1) ▸ hc 1 (by omega), (g 2) ▸ hc 2 (by omega), (g 3) ▸ hc 3 (by omega), (g 4) ▸ hc 4 (by omega), (g 5) ▸ hc 5 (by omega), (g 6) ▸ hc 6 (by omega), (g 7) ▸ hc 7 (by omega), (g 8) ▸ hc 8 (by omega), hL⟩
    · obtain ⟨i, hi, rfl⟩ := List.mem_map.1 hq
      have hil := List.mem_range.1 hi
      rw [hfs i hil]
      exact (Classical.choose_spec (hex i hil)).1

theorem nbytesOp : Tryz.prog.bytesOf 76 = 96 := by kernel_rfl

set_option maxRecDepth 100000 in
theorem numbers_lifted (os : Os) (started : os.Started) (H : Type) (enc : TypeId × Value → H) :
    ReturnsInHanded {} Tryz.checked os 3 .any (fun w args => (Rows.numbersSpec.pre enc Tryz.prog Tryz.f3 [] false w args ∧ laidMetH Tryz.prog laidL w) ∧ sizedMet enc Tryz.prog Tryz.f3 (OpenSpec.ofChange Rows.numbersSpec) false w args)
      (Rows.numbersSpec.post enc Tryz.prog Tryz.f3 false true false false) := by
  refine returns_laid (C := Tryz.checked) (X := fun w _ => laidMetH Tryz.prog laidL w) (fun _ _ _ hh h => h.of_heap hh) own started (by kernel_rfl) Tryz.func3
    (ChangeSpec.witness_shaped (enc := enc) (C := Tryz.checked) (os := os) (X := fun w _ => laidMetH Tryz.prog laidL w) false (World.laidAll Tryz.prog os laidL) #[.slice none 0 0] 8 (World.laidAll_os _ _ _)
      (start_shaped os _) (by kernel_rfl) (by kernel_rfl) (by kernel_rfl) (start_met os _)) ?_
  intro W base args ds gs before hval0 hW hsz hL hsh
  have hval : ∀ (j : Nat) t v, Tryz.f3.params[j]? = some t → args[j]? = some v → Value.okWide Tryz.prog W .any base t v := hval0
  have hW' := hW
  obtain ⟨p, q, hA0, hV, rfl, _, _⟩ := hW
  have hA : DataW.TrodAll enc Tryz.prog W 0 (fun _ => true) true Tryz.f3.params.toList args.toList ds p := hA0
  rw [Tryz.params3] at hA hval
  obtain ⟨v0, d0, rfl, rfl, h0⟩ := trodAll_one hA
  obtain ⟨rfl, rfl⟩ := trodVars_none hV
  obtain ⟨a0, len, cap, rfl⟩ := okWide_slice Tryz.underlying22 (hval 0 22 v0 rfl rfl)
  simp only [List.append_nil] at hW'
  have hlt : ∀ x ∈ p, x.block < W.heap.size := fun x hx => by simpa using hW'.lt x hx
  have hargs : ∀ (W' : World), Below W.heap.size W W' → DataW.Trod enc Tryz.prog W' 0 (fun b => decide (b < W.heap.size)) true 22 (.slice a0 len cap) d0 p :=
    fun W' hn => Below.trod laidOutN (by kernel_rfl) (of_decide_eq_true (by kernel_rfl)) h0 hn hlt
  obtain ⟨osl, hz, hzg, hzl, hd⟩ := rdoS_of h0
  have hlenb : osl.length < 1800000000000 := by
    rw [hzl]
    rcases hd with h | ⟨el, re, rfl, hel⟩
    · omega
    · have hs : ((DataW.weightsEach Tryz.prog [22] [DataW.slice el re]).all fun x => decide (x ≤ reachBytes)) = true := hsz
      unfold DataW.weightsEach DataW.weights at hs
      rw [Tryz.underlying22] at hs
      have h1 := List.all_eq_true.1 hs ((el.length + re.length) * Tryz.prog.bytesOf 76) (by simp)
      have h2 := of_decide_eq_true h1
      rw [nbytesOp] at h2
      unfold reachBytes at h2
      omega
  rw [MakeChecks.laidMetH_plain _ _ _ (by kernel_rfl)] at hL
  have hSl := slow_of_laid hL
  obtain ⟨hT, hC, hG⟩ := tabs_of_laid hL hsh
  refine (numbersLaw_ok _ osl W hz (fun p hp => (hzg p hp).1) hlenb (fun p hp => (hzg p hp).2) hT hSl).mono fun e W' ⟨he, hb⟩ => ?_
  subst he
  exact ⟨_, rfl, _, _, _, [], p, [], hW', trodAll_mk1 (shut_bool Tryz.underlying4 _), trodAll_mk1 (hargs W' hb), rfl, hb.frame _, fun h => by cases h⟩

theorem numbers_named : Tryz.pinned.checked.prog.funcNamed Rows.numbersRow.func = some 3 := by kernel_rfl
theorem numbers_inst : Tryz.f3.isInstance Tryz.pinned.checked.prog Rows.numbersRow.origin Rows.numbersRow.targs := of_decide_eq_true (by kernel_rfl)
theorem numbers_wrap : Tryz.f3.isWrapper Tryz.pinned.checked.prog Rows.numbersRow.wrapper Rows.numbersRow.mainSum := by
  unfold Func.isWrapper; first | (rw [if_pos (by decide +kernel)]; kernel_rfl) | (rw [if_neg (by decide +kernel)]; exact ⟨rfl, rfl⟩)
end Go.Proofs.YtgekdmjneogdoaaGreatDoor
