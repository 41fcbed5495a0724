import Derived.Test.YtgekdmjneogdoaaGreatDoorYAw1
import Derived.Test.YtgekdmjneogdoaaGreatDoorYAw4
import Derived.Test.YtgekdmjneogdoaaGreatDoorYChU3
import Derived.Test.YtgekdmjneogdoaaGreatDoorYMq1
namespace Go.Proofs.YtgekdmjneogdoaaGreatDoor
open Go.RowKit Go.Shelf Go.Maps

set_option maxRecDepth 20000 in
set_option maxHeartbeats 400000 in
theorem reads_of (s : ByteArray) (v : Nat) (w : World) (hN : Calls Tryz.prog 18 #[.string s] w fun e w' => e = .returned (.tuple #[.int .u64 v, .int .i64 0]) ∧ Below w.heap.size w w') :
    Calls Tryz.prog 39 #[.string s, .int .u64 v] w fun e w' => e = .returned (.bool true) ∧ Below w.heap.size w w' := by
  have HN := hide hN
  clear hN
  go_enter Tryz.func39, Tryz.ntmps39
  go_wp2_with fail
  refine (unhide HN).mono ?_
  rintro e w1 ⟨rfl, hb⟩
  go_wp2_with fail
  go_ret
  exact ⟨rfl, hb⟩

theorem reads_1 (w : World) (hT : Tabs w) : Calls Tryz.prog 39 #[.string ⟨#[49]⟩, .int .u64 4607182418800017408] w fun e w' => e = .returned (.bool true) ∧ Below w.heap.size w w' := reads_of _ 4607182418800017408 w (number_one w hT)
theorem reads_2 (w : World) (hT : Tabs w) : Calls Tryz.prog 39 #[.string ⟨#[48, 46, 49]⟩, .int .u64 4591870180066957722] w fun e w' => e = .returned (.bool true) ∧ Below w.heap.size w w' := reads_of _ 4591870180066957722 w (number_tenth w hT)
theorem reads_3 (w : World) (hT : Tabs w) : Calls Tryz.prog 39 #[.string ⟨#[45, 48]⟩, .int .u64 9223372036854775808] w fun e w' => e = .returned (.bool true) ∧ Below w.heap.size w w' := reads_of _ 9223372036854775808 w (number_minus w hT)
theorem reads_4 (w : World) (hT : Tabs w) : Calls Tryz.prog 39 #[.string ⟨#[49, 101, 52, 48, 48]⟩, .int .u64 9218868437227405312] w fun e w' => e = .returned (.bool true) ∧ Below w.heap.size w w' := reads_of _ 9218868437227405312 w (number_huge w hT)
theorem reads_5 (w : World) (hT : Tabs w) : Calls Tryz.prog 39 #[.string ⟨#[53, 101, 45, 51, 50, 52]⟩, .int .u64 1] w fun e w' => e = .returned (.bool true) ∧ Below w.heap.size w w' := reads_of _ 1 w (number_least w hT)
theorem reads_6 (w : World) (hT : Tabs w) : Calls Tryz.prog 39 #[.string ⟨#[50, 101, 45, 51, 50, 52]⟩, .int .u64 0] w fun e w' => e = .returned (.bool true) ∧ Below w.heap.size w w' := reads_of _ 0 w (number_below w hT)
theorem reads_7 (w : World) (hT : Tabs w) : Calls Tryz.prog 39 #[.string ⟨#[57, 48, 48, 55, 49, 57, 57, 50, 53, 52, 55, 52, 48, 57, 57, 51]⟩, .int .u64 4845873199050653696] w fun e w' => e = .returned (.bool true) ∧ Below w.heap.size w w' := reads_of _ 4845873199050653696 w (number_even w hT)
end Go.Proofs.YtgekdmjneogdoaaGreatDoor

namespace Go.Proofs.YtgekdmjneogdoaaGreatDoor
open Go.RowKit Go.Shelf Go.Maps

/-- a meter that New has laid -/
theorem new_mtr (K : Nat → Prop) (n wd : Nat) (hn1 : 1 ≤ n) (hn2 : n ≤ 8) (hw1 : 1 ≤ wd) (hw2 : wd ≤ 1000000) (w : World) (hK : ∀ k, K k → k < w.heap.size) :
    Mtr K ((w.alloc (.cells (Array.replicate n (.map none)) 96)).alloc (.cells #[.int .i64 wd, .int .i64 0, .slice (some ⟨w.heap.size, 0, none⟩) n n, .pointer none, .int .i64 1, .int .i64 (-1099511627776)] 94)) (w.heap.size + 1) w.heap.size wd 0 MS.zero (List.replicate n none) (List.replicate n []) := by
  refine ⟨⟨?_, ?_⟩, by simp, ?_, ?_, ⟨hw1, hw2⟩, by omega, by simpa using ⟨hn1, hn2⟩, ?_⟩
  · have h := World.alloc_heap_new (w.alloc (.cells (Array.replicate n (.map none)) 96)) (.cells #[.int .i64 wd, .int .i64 0, .slice (some ⟨w.heap.size, 0, none⟩) n n, .pointer none, .int .i64 1, .int .i64 (-1099511627776)] 94)
    rw [World.size_alloc] at h
    rw [h]
    simp [mcells, rulePtr]
  · rw [Below.heap_alloc _ _ _ (by simp), World.alloc_heap_new]
    simp
  · intro i m g h1 h2
    rw [List.getElem?_replicate] at h1 h2
    split at h1
    · rename_i hi
      rw [if_pos hi] at h2
      cases h1; cases h2
      exact Or.inl ⟨rfl, rfl⟩
    · cases h1
  · rw [List.pairwise_replicate]
    exact Or.inr (Or.inl rfl)
  · intro k hk
    have := hK k hk
    refine ⟨by simp; omega, by omega, by omega, fun hm => ?_⟩
    exact absurd (List.eq_of_mem_replicate hm) (by simp)

abbrev halfN : Nat := 4609434218613702656

theorem half_bucket : bucketN halfN = halfN := by kernel_rfl
theorem half1_bucket : bucketN 4609434218613702657 = halfN := by kernel_rfl
theorem half_num : (FloatKind.f64.format.order halfN halfN != some .eq) = false := by kernel_rfl
theorem half1_num : (FloatKind.f64.format.order 4609434218613702657 4609434218613702657 != some .eq) = false := by kernel_rfl

theorem below_of_under {w0 w w' : World} (h : Below w0.heap.size w0 w) (hk : Kept (Under w0) w w') : Below w0.heap.size w0 w' := h.trans hk.below

theorem below_drewN {B : Nat} {a w : World} (h : Below B a w) (n : Nat) : Below B a (w.drewN n) := ⟨h.os, h.tape, h.output, h.size, h.block⟩

theorem pair_rds (w : World) : RdS (Under (w.alloc (.cells #[.int .i64 0, .int .u64 7, .int .i64 0, .int .u64 7] 39))) (w.alloc (.cells #[.int .i64 0, .int .u64 7, .int .i64 0, .int .u64 7] 39)) (.slice (some ⟨w.heap.size, 0, none⟩) 2 2) [(0, 7), (0, 7)] := by
  refine ⟨_, 2, rfl, by simp, fun _ => ⟨w.heap.size, 0, ?_, rfl, fun j hj => ?_⟩⟩
  · show w.heap.size < _
    simp
  · have h : ∀ i, (w.alloc (.cells #[.int .i64 0, .int .u64 7, .int .i64 0, .int .u64 7] 39)).cell? ⟨w.heap.size, i, none⟩ = (#[.int .i64 0, .int .u64 7, .int .i64 0, .int .u64 7] : Array Value)[i]? := fun i => World.cell?_alloc_at _ _ _ _ rfl
    have hj2 : j < 2 := hj
    rcases j with _ | _ | j
    · exact ⟨h 0, h 1⟩
    · exact ⟨h 2, h 3⟩
    · omega

set_option maxRecDepth 40000 in
set_option maxHeartbeats 4000000 in
theorem awake_ok (w : World) (hT : Tabs w) (hC : CTabs w) (hG : GK (Under w)) (hS : SortsTo [halfN, halfN] [halfN]) :
    Calls Tryz.prog 16 #[] w fun e w' => e = .returned (.bool true) ∧ Below w.heap.size w w' := by
  have HS := hide hS
  have HT := hide hT
  have HC := hide hC
  have HG := hide hG
  have HB0 : Hid (Below w.heap.size w w) := Below.refl _ w
  clear hS hT hC hG
  go_enter Tryz.func16, Tryz.ntmps16
  go_wp2_with fail
  refine (reads_1 w ((unhide HT).below (unhide HB0))).mono ?_
  rintro e w1 ⟨rfl, hb1⟩
  have HB1 : Hid (Below w.heap.size w w1) := (unhide HB0).trans (hb1.mono (unhide HB0).size)
  clear hb1
  go_wp2_with fail
  refine (reads_2 w1 ((unhide HT).below (unhide HB1))).mono ?_
  rintro e w2 ⟨rfl, hb2⟩
  have HB2 : Hid (Below w.heap.size w w2) := (unhide HB1).trans (hb2.mono (unhide HB1).size)
  clear hb2
  go_wp2_with fail
  refine (reads_3 w2 ((unhide HT).below (unhide HB2))).mono ?_
  rintro e w3 ⟨rfl, hb3⟩
  have HB3 : Hid (Below w.heap.size w w3) := (unhide HB2).trans (hb3.mono (unhide HB2).size)
  clear hb3
  go_wp2_with fail
  refine (reads_4 w3 ((unhide HT).below (unhide HB3))).mono ?_
  rintro e w4 ⟨rfl, hb4⟩
  have HB4 : Hid (Below w.heap.size w w4) := (unhide HB3).trans (hb4.mono (unhide HB3).size)
  clear hb4
  go_wp2_with fail
  refine (reads_5 w4 ((unhide HT).below (unhide HB4))).mono ?_
  rintro e w5 ⟨rfl, hb5⟩
  have HB5 : Hid (Below w.heap.size w w5) := (unhide HB4).trans (hb5.mono (unhide HB4).size)
  clear hb5
  go_wp2_with fail
  refine (reads_6 w5 ((unhide HT).below (unhide HB5))).mono ?_
  rintro e w6 ⟨rfl, hb6⟩
  have HB6 : Hid (Below w.heap.size w w6) := (unhide HB5).trans (hb6.mono (unhide HB5).size)
  clear hb6
  go_wp2_with fail
  refine (reads_7 w6 ((unhide HT).below (unhide HB6))).mono ?_
  rintro e w7 ⟨rfl, hb7⟩
  have HB7 : Hid (Below w.heap.size w w7) := (unhide HB6).trans (hb7.mono (unhide HB6).size)
  clear hb7
  go_wp2_with fail
  refine (short_one w7 ((unhide HT).below (unhide HB7))).mono ?_
  rintro e w8 ⟨rfl, hb8⟩
  have HB8 : Hid (Below w.heap.size w w8) := (unhide HB7).trans (hb8.mono (unhide HB7).size)
  clear hb8
  go_wp2_with fail
  refine (short_tenth w8 ((unhide HT).below (unhide HB8))).mono ?_
  rintro e w9 ⟨rfl, hb9⟩
  have HB9 : Hid (Below w.heap.size w w9) := (unhide HB8).trans (hb9.mono (unhide HB8).size)
  clear hb9
  go_wp2_with fail
  refine (short_pi w9 ((unhide HT).below (unhide HB9))).mono ?_
  rintro e w10 ⟨rfl, hb10⟩
  have HB10 : Hid (Below w.heap.size w w10) := (unhide HB9).trans (hb10.mono (unhide HB9).size)
  clear hb10
  go_wp2_with fail
  have HBa : Hid (Below w.heap.size w (w10.alloc (.cells #[.int .i64 0, .int .u64 7, .int .i64 0, .int .u64 7] 39))) := (unhide HB10).alloc (unhide HB10).size _
  have HPa : Hid (Calls Tryz.prog 24 #[.slice (some ⟨w10.heap.size, 0, none⟩) 2 2] (w10.alloc (.cells #[.int .i64 0, .int .u64 7, .int .i64 0, .int .u64 7] 39)) fun e w' => e = .returned (.tuple #[.string ⟨#[0, 2, 0, 0, 0, 0, 0, 0, 0, 0, 0, 0, 0, 0, 0, 0, 0, 7, 0]⟩, .int .i64 0]) ∧ Below (w10.alloc (.cells #[.int .i64 0, .int .u64 7, .int .i64 0, .int .u64 7] 39)).heap.size (w10.alloc (.cells #[.int .i64 0, .int .u64 7, .int .i64 0, .int .u64 7] 39)) w') := by
    have h := pack_ok _ [(0, 7), (0, 7)] _ (pair_rds w10) (by simp) (by intro x hx; simp at hx; subst hx; exact ⟨⟨by decide, by decide⟩, by decide⟩) ((unhide HC).below (unhide HG) (unhide HBa)) ((unhide HG).below (unhide HBa))
    rw [chunk_two] at h
    exact h
  refine (unhide HPa).mono ?_
  rintro e w11 ⟨rfl, hb11⟩
  have HB11 : Hid (Below w.heap.size w w11) := (unhide HBa).trans (hb11.mono (unhide HBa).size)
  clear hb11 HPa HBa
  go_wp2_with fail
  have HUn : Hid (Calls Tryz.prog 25 #[.string ⟨#[0, 0]⟩] w11 fun e w' => (∃ ao cp, e = .returned (.tuple #[.slice ao 0 cp, .int .i64 0])) ∧ Below w11.heap.size w11 w') := by
    have h := unpack_any ⟨#[0, 0]⟩ w11 ((unhide HC).below (unhide HG) (unhide HB11)) ((unhide HG).below (unhide HB11))
    have e0 : natsOf ⟨#[0, 0]⟩ = [0, 0] := by decide
    rw [e0, unpack_zero] at h
    refine Calls.mono h ?_
    rintro e w' ⟨hb, ⟨l, v, h1, h2, h3⟩ | ⟨h1, _⟩⟩
    · cases h1
      refine ⟨?_, hb⟩
      rcases h3.2 with ⟨rfl, _⟩ | ⟨g, cap, cur, rfl, _⟩
      · exact ⟨_, _, h2⟩
      · exact ⟨_, _, h2⟩
    · cases h1
  refine (unhide HUn).mono ?_
  rintro e w12 ⟨⟨ao, cp, rfl⟩, hb12⟩
  have HB12 : Hid (Below w.heap.size w w12) := (unhide HB11).trans (hb12.mono (unhide HB11).size)
  clear hb12 HUn HB0 HB1 HB2 HB3 HB4 HB5 HB6 HB7 HB8 HB9 HB10 HB11 HT HC HG
  go_wp2_with fail
  refine (new_ok 2 10 (by omega) (by omega) (by omega) (by omega) w12).mono ?_
  rintro e w13 ⟨rfl, hw13⟩
  have hM := new_mtr (Under w) 2 10 (by omega) (by omega) (by omega) (by omega) w12 (fun k hk => Nat.lt_of_lt_of_le hk (unhide HB12).size)
  have hB13 : Below w.heap.size w ((w12.alloc (.cells (Array.replicate 2 (.map none)) 96)).alloc (.cells #[.int .i64 (10 : Nat), .int .i64 0, .slice (some ⟨w12.heap.size, 0, none⟩) 2 2, .pointer none, .int .i64 1, .int .i64 (-1099511627776)] 94)) :=
    ((unhide HB12).alloc (unhide HB12).size _).alloc (by have := (unhide HB12).size; simp; omega) _
  rw [← hw13] at hM hB13
  have HM13 := hide hM
  have HB13 := hide hB13
  clear hM hB13 hw13
  generalize w12.heap.size = kb at *
  obtain ⟨mb, hmb⟩ : ∃ mb, kb + 1 = mb := ⟨_, rfl⟩
  rw [hmb] at HM13 ⊢
  clear hmb
  go_wp2_with fail
  refine (add_none (unhide HM13) 0 halfN 0 (by omega) (by decide) half_num (by decide) rfl).mono ?_
  rintro e w14 ⟨rfl, ⟨b1, hM14⟩, hk14⟩
  have HM14 : Hid (Mtr (Under w) w14 mb kb 10 0 MS.zero [some b1, none] [[halfN], []]) := by rw [half_bucket] at hM14; exact hM14
  have HB14 := hide (below_of_under (unhide HB13) hk14)
  clear hM14 hk14
  go_wp2_with fail
  refine (add_soon (unhide HM14).z (unhide HM14).hW (unhide HM14).hC (by simp) 10 halfN (by omega) half_num (by decide)).mono ?_
  rintro e w15 ⟨rfl, n15, hw15⟩
  have HM15 : Hid (Mtr (Under w) w15 mb kb 10 0 MS.zero [some b1, none] [[halfN], []]) := by rw [hw15]; exact (unhide HM14).drewN n15
  have HB15 : Hid (Below w.heap.size w w15) := by rw [hw15]; exact below_drewN (unhide HB14) n15
  clear hw15 HM14 HB14
  go_wp2_with fail
  refine (tick_ok (unhide HM15) 15 (by omega) (by omega)).mono ?_
  rintro e w16 ⟨rfl, hM16, hk16⟩
  have HM16 : Hid (Mtr (Under w) w16 mb kb 10 15 MS.zero [none, some b1] [[], [halfN]]) := hM16
  have HB16 := hide (below_of_under (unhide HB15) hk16)
  clear hM16 hk16 HM15 HB15
  go_wp2_with fail
  refine (add_none (unhide HM16) 12 4609434218613702657 0 (by omega) (by decide) half1_num (by decide) rfl).mono ?_
  rintro e w17 ⟨rfl, ⟨b2, hM17⟩, hk17⟩
  have HM17 : Hid (Mtr (Under w) w17 mb kb 10 15 MS.zero [some b2, some b1] [[halfN], [halfN]]) := by rw [half1_bucket] at hM17; exact hM17
  have HB17 := hide (below_of_under (unhide HB16) hk17)
  clear hM17 hk17 HM16 HB16
  go_wp2_with fail
  refine (count_ok (unhide HM17) 2 (by omega) (by simp) (by decide)).mono ?_
  rintro e w18 ⟨rfl, hb18⟩
  have HM18 := hide ((unhide HM17).below hb18)
  have HB18 : Hid (Below w.heap.size w w18) := (unhide HB17).trans (hb18.mono (unhide HB17).size)
  clear hb18 HM17 HB17
  go_wp2_with fail
  refine (quant_ok (unhide HM18) 2 1 2 (by omega) (by simp) (by decide) (by omega) (by omega) (by omega) [halfN, halfN] [halfN] rfl (by simp) (unhide HS) (by intro x hx; rw [List.mem_singleton.1 hx]; decide) (by simp) (by decide)).mono ?_
  rintro e w19 ⟨rfl, hb19⟩
  have HB19 : Hid (Below w.heap.size w w19) := (unhide HB18).trans (hb19.mono (unhide HB18).size)
  have hr : rankOf (fun x => [halfN, halfN].count x) [halfN] (rankN 1 2 [halfN, halfN].length) = halfN := by decide
  rw [hr]
  clear hb19 HM18 HB18 hr
  go_wp2_with fail
  go_ret
  exact ⟨rfl, unhide HB19⟩
end Go.Proofs.YtgekdmjneogdoaaGreatDoor
