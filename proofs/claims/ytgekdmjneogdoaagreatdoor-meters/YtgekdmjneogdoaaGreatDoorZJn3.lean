import Derived.Test.YtgekdmjneogdoaaGreatDoorZJn1
import Derived.Test.YtgekdmjneogdoaaGreatDoorZJn2
namespace Go.Proofs.YtgekdmjneogdoaaGreatDoor
open Go.RowKit Go.Shelf Go.Maps

structure OpR where
  kd : Int
  wn : Int
  A : Int
  B : Int
  Cc : Int
  S : ByteArray
  V : Nat
  U : Nat
  Lv : Value

def OpR.good (o : OpR) : Prop := -9223372036854775808 ≤ o.kd ∧ o.kd ≤ 9223372036854775807 ∧ -9223372036854775808 ≤ o.wn ∧ o.wn ≤ 9223372036854775807 ∧ o.V < 18446744073709551616

/-- a slice that reads as steps, in blocks of K -/
def RdO (K : Nat → Prop) (w : World) (v : Value) (os : List OpR) : Prop :=
  ∃ ao cap, v = .slice ao os.length cap ∧ os.length ≤ cap ∧ (0 < os.length → ∃ g o, K g ∧ ao = some ⟨g, o, none⟩ ∧ ∀ (j : Nat) (p : OpR), os[j]? = some p →
    w.cell? ⟨g, o + j * 9, none⟩ = some (.int .i64 p.kd) ∧ w.cell? ⟨g, o + j * 9 + 1, none⟩ = some (.int .i64 p.wn) ∧ w.cell? ⟨g, o + j * 9 + 2, none⟩ = some (.int .i64 p.A) ∧ w.cell? ⟨g, o + j * 9 + 3, none⟩ = some (.int .i64 p.B) ∧ w.cell? ⟨g, o + j * 9 + 4, none⟩ = some (.int .i64 p.Cc) ∧
    w.cell? ⟨g, o + j * 9 + 5, none⟩ = some (.string p.S) ∧ w.cell? ⟨g, o + j * 9 + 6, none⟩ = some (.int .u64 p.V) ∧ w.cell? ⟨g, o + j * 9 + 7, none⟩ = some (.int .u64 p.U) ∧ w.cell? ⟨g, o + j * 9 + 8, none⟩ = some p.Lv ∧ (∃ a l c, p.Lv = .slice a l c))

theorem ws_start (w : World) : WS w (w.alloc (.cells (wcells (.slice none 0 0)) 72)) w.heap.size (.slice none 0 0) [] 0 :=
  ⟨heap_alloc_new w _, World.ownsRow_nil _ _ _ _, (fun p hp => by cases hp), List.Pairwise.nil, (fun p hp => by cases hp), Nat.le_refl _, (Below.refl _ w).alloc (Nat.le_refl _) _, (fun p hp => by cases hp), by simp⟩

/-- any step that Meters plays -/
theorem step_any {w0 w : World} {zb : Nat} {av : Value} {ps : List Pr} {tot : Nat} (h : WS w0 w zb av ps tot) (p : OpR) (hp : p.good) (hk : 7 ≤ p.kd ∧ p.kd ≤ 11) (ht : tot < 1900000000000) (h1 : 1 ≤ ps.length) :
    Calls Tryz.prog 37 #[.pointer (some ⟨zb, 0, none⟩), opV p.kd p.wn p.A p.B p.Cc p.S p.V p.U p.Lv] w fun e w' => e = .returned (.bool true) ∧ ∃ av' ps', WS w0 w' zb av' ps' (tot + 1) ∧ 1 ≤ ps'.length := by
  obtain ⟨_, _, g3, g4, g5⟩ := hp
  by_cases h7 : p.kd = 7
  · rw [h7]
    refine (step_new h p.wn p.A p.B p.Cc p.S p.V p.U p.Lv ht).mono ?_
    rintro e w' ⟨r1, av', ps', r2, r3⟩
    exact ⟨r1, av', ps', r2, by omega⟩
  · refine (step_met h p.kd ⟨by omega, by omega⟩ p.wn p.A p.B p.Cc p.S p.V p.U p.Lv g3 g4 g5 ht h1).mono ?_
    rintro e w' ⟨r1, ps', r2, r3⟩
    exact ⟨r1, av, ps', r2, by omega⟩

set_option maxRecDepth 40000 in
set_option maxHeartbeats 3200000 in
theorem plays_ok (v : Value) (os : List OpR) (w : World) (hv : RdO (Under w) w v os) (hg : ∀ p ∈ os, p.good) (hl : os.length < 1800000000000) :
    Calls Tryz.prog 15 #[v, .int .i64 7, .int .i64 11] w fun e w' => e = .returned (.bool true) ∧ Below w.heap.size w w' := by
  have HM := hide (made_ok (ws_start w) 3 10 ⟨by omega, by omega, by omega, by omega⟩ (by omega))
  obtain ⟨ao, cap, rfl, hcap, hcells⟩ := hv
  have HCe := hide hcells
  have HG := hide hg
  clear hcells hg
  generalize hL : os.length = L at *
  go_enter Tryz.func15, Tryz.ntmps15
  go_wp2_with fail
  refine (unhide HM).mono ?_
  rintro e w1 ⟨rfl, av, ps, hW, hps⟩
  have hpr := pair_read hW
  obtain ⟨ao2, cap2, rfl, hcap2, _⟩ := hpr
  have hp1 : ps.length = 1 := hps
  have c0 := hW.c0
  rw [hp1] at c0
  have HW := hide hW
  clear hW hps HM
  go_wp2_with fail
  clear c0
  go_loopw [9, 10, 11, 12] (fun i _ _ _ wr => ∃ (j : Nat) (av : Value) (ps : List Pr), j ≤ L ∧ i = .int .i64 j ∧ 1 ≤ ps.length ∧ Hid (WS w wr w.heap.size av ps (j + 1))) (fun i _ _ _ _ => L - (RowKit.intOf i).toNat)
  case atStart => exact ⟨0, _, ps, by omega, rfl, by omega, HW⟩
  case round =>
    clear HW hp1 hcap2
    obtain ⟨j, av, ps, hj, rfl, h1, hW⟩ := hrel
    by_cases hjl : j < L
    · obtain ⟨g, o, hgK, rfl, hce⟩ := unhide HCe (by omega)
      obtain ⟨p, hp⟩ : ∃ p, os[j]? = some p := ⟨_, List.getElem?_eq_getElem (by rw [hL]; exact hjl)⟩
      have hgd := unhide HG p (List.mem_of_getElem? hp)
      obtain ⟨e0, e1, e2, e3, e4, e5, e6, e7, e8, lv1, lv2, lv3, hlv⟩ := hce j p hp
      have hB := (unhide hW).bel
      have d0 := (hB.cell (p := ⟨g, o + j * 9, none⟩) hgK).trans e0
      have d1 := (hB.cell (p := ⟨g, o + j * 9 + 1, none⟩) hgK).trans e1
      have d2 := (hB.cell (p := ⟨g, o + j * 9 + 2, none⟩) hgK).trans e2
      have d3 := (hB.cell (p := ⟨g, o + j * 9 + 3, none⟩) hgK).trans e3
      have d4 := (hB.cell (p := ⟨g, o + j * 9 + 4, none⟩) hgK).trans e4
      have d5 := (hB.cell (p := ⟨g, o + j * 9 + 5, none⟩) hgK).trans e5
      have d6 := (hB.cell (p := ⟨g, o + j * 9 + 6, none⟩) hgK).trans e6
      have d7 := (hB.cell (p := ⟨g, o + j * 9 + 7, none⟩) hgK).trans e7
      have d8 := (hB.cell (p := ⟨g, o + j * 9 + 8, none⟩) hgK).trans e8
      have hdj : decide (j < L) = true := by simp; omega
      have HGd := hide hgd
      have HPj := hide hp
      clear hce hp hgd e0 e1 e2 e3 e4 e5 e6 e7 e8 hB
      by_cases hin : 7 ≤ p.kd ∧ p.kd ≤ 11
      · have k1 : decide (7 ≤ p.kd) = true := by simp; omega
        have k2 : decide (p.kd ≤ 11) = true := by simp; omega
        have HIn := hide hin
        clear hin
        have hSt := step_any ((unhide hW).below ((Below.refl _ wr).alloc (Nat.le_refl _) (opB p.kd p.wn p.A p.B p.Cc p.S p.V p.U p.Lv))) p (unhide HGd) (unhide HIn) (by omega) h1
        rw [hlv] at d8 hSt
        have HSt := hide hSt
        clear hSt
        go_wp2_with fail
        refine (unhide HSt).mono ?_
        rintro e w4 ⟨rfl, av4, ps4, hW4, h14⟩
        have HW4 := hide hW4
        have HKe := hide (lawkept_ok hW4)
        clear hW4 HSt d0 d1 d2 d3 d4 d5 d6 d7 d8
        go_wp2_with fail
        refine (unhide HKe).mono ?_
        rintro e w5 ⟨rfl, e5⟩
        rw [e5]
        clear e5 w5 HKe
        go_wp2_with fail
        go_roundw
        case rel => exact ⟨j + 1, av4, ps4, by omega, rfl, h14, HW4⟩
        case measure => simp [RowKit.intOf]; omega
      · have hWn : Hid (WS w (wr.alloc (opB p.kd p.wn p.A p.B p.Cc p.S p.V p.U p.Lv)) w.heap.size av ps (j + 1 + 1)) := ((unhide hW).below ((Below.refl _ wr).alloc (Nat.le_refl _) _)).more (by omega)
        rw [hlv] at d8 hWn
        by_cases h7 : 7 ≤ p.kd
        · have k1 : decide (7 ≤ p.kd) = true := by simp; omega
          have k2 : decide (p.kd ≤ 11) = false := by simp; omega
          clear hin h7
          go_wp2_with fail
          go_roundw
          case rel => exact ⟨j + 1, av, ps, by omega, rfl, h1, hWn⟩
          case measure => simp [RowKit.intOf]; omega
        · have k1 : decide (7 ≤ p.kd) = false := by simp; omega
          clear hin h7
          go_wp2_with fail
          go_roundw
          case rel => exact ⟨j + 1, av, ps, by omega, rfl, h1, hWn⟩
          case measure => simp [RowKit.intOf]; omega
    · have hdj : decide (j < L) = false := by simp; omega
      go_wp2_with fail
      go_ret
      exact ⟨rfl, (unhide hW).bel⟩

set_option maxHeartbeats 400000 in
theorem metersLaw_ok (v : Value) (os : List OpR) (w : World) (hv : RdO (Under w) w v os) (hg : ∀ p ∈ os, p.good) (hl : os.length < 1800000000000) :
    Calls Tryz.prog 4 #[v] w fun e w' => e = .returned (.bool true) ∧ Below w.heap.size w w' := by
  have HP := hide (plays_ok v os w hv hg hl)
  clear hv hg hl
  go_enter Tryz.func4, Tryz.ntmps4
  go_wp2_with fail
  refine (unhide HP).mono ?_
  rintro e w1 ⟨rfl, hb⟩
  have HB := hide hb
  clear hb HP
  go_wp2_with fail
  go_ret
  exact ⟨rfl, unhide HB⟩
end Go.Proofs.YtgekdmjneogdoaaGreatDoor
