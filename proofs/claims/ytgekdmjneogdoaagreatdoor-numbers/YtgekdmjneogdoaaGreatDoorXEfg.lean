import Derived.Test.YtgekdmjneogdoaaGreatDoorXSetDig
namespace Go.Proofs.YtgekdmjneogdoaaGreatDoor
open Go.RowKit Go.Sort

/-- a power of ten, as the library writes it -/
def expText (x : Int) : List UInt8 :=
  101 :: (if x < 0 then 45 else 43) :: (if x.natAbs < 10 then [48, UInt8.ofNat (48 + x.natAbs)] else if x.natAbs < 100 then [UInt8.ofNat (48 + x.natAbs / 10), UInt8.ofNat (48 + x.natAbs % 10)]
    else [UInt8.ofNat (48 + x.natAbs / 100), UInt8.ofNat (48 + x.natAbs / 10 % 10), UInt8.ofNat (48 + x.natAbs % 10)])

def efgText (neg : Bool) (ds : Nat → UInt8) (nd prec : Nat) (dp : Int) : List UInt8 :=
  ((if neg then [45] else []) ++ [ds 0]) ++ (if prec = 0 then [] else fracOf ds (min nd (prec + 1)) prec) ++ expText (dp - 1)

theorem byte_of (n : Nat) {x : Int} (h : n < 256) (hx : (n : Int) = x) : ((UInt8.ofNat n).toNat : Int) = x := by
  rw [UInt8.toNat_ofNat_of_lt' (by simpa using h)]; exact hx

theorem cell_three_new (w : World) (a b c : Value) (t : TypeId) : ∀ j u, [a, b, c][j]? = some u → (w.alloc (.cells #[a, b, c] t)).cell? ((⟨w.heap.size, 0, none⟩ : Addr).add j) = some u := by
  intro j u h
  match j with
  | 0 => simp at h; subst h; simp [Addr.add]
  | 1 => simp at h; subst h; simp [Addr.add]
  | 2 => simp at h; subst h; simp [Addr.add]
  | (k + 3) => simp at h

set_option maxRecDepth 100000 in
set_option maxHeartbeats 2000000 in
theorem efg_any (W : World) (g B nd prec : Nat) (neg : Bool) (dp : Int) (ds : Nat → UInt8) (hr : Row W g W []) (hnd1 : 1 ≤ nd) (hnd2 : nd ≤ 18) (hp : prec ≤ 16) (hgB : B ≠ g) (hdp1 : -400 ≤ dp) (hdp2 : dp ≤ 400)
    (hB : ∀ t, t < nd → W.cell? ⟨B, t, none⟩ = some (.int .u8 ((ds t).toNat : Int))) :
    Calls Tryz.prog 222 #[.slice (some ⟨g, 0, none⟩) 0 24, .bool neg, .slice (some ⟨B, 0, none⟩) 24 24, .int .i64 dp, .int .i64 nd, .int .i64 prec, .int .u8 101, .bool false] W fun e w' => e = .returned (.slice (some ⟨g, 0, none⟩) (efgText neg ds nd prec dp).length 24) ∧ Row W g w' (efgText neg ds nd prec dp) := by
  obtain ⟨i0, hi, hz0, hz1, hz2⟩ := info_parts infoB
  have HB := hide hB
  clear hB
  have hnd0 : ((nd : Int) != 0) = true := by rw [bne_iff_ne]; omega
  obtain ⟨l1, hl1⟩ : ∃ l1 : List UInt8, (if neg then [45] else []) = l1 := ⟨_, rfl⟩
  have hl1n : l1.length ≤ 1 := by rw [← hl1]; cases neg <;> simp
  obtain ⟨l2, hl2⟩ : ∃ l2 : List UInt8, l1 ++ [ds 0] = l2 := ⟨_, rfl⟩
  have hl2n : l1.length + 1 = l2.length := by rw [← hl2]; simp
  obtain ⟨l3, hl3⟩ : ∃ l3 : List UInt8, l2 ++ (if prec = 0 then [] else fracOf ds (min nd (prec + 1)) prec) = l3 := ⟨_, rfl⟩
  have hl3n : l3.length ≤ l1.length + 18 := by
    rw [← hl3]; split
    · simp; omega
    · simp [fracOf]; omega
  have HT : Hid (efgText neg ds nd prec dp = l3 ++ expText (dp - 1)) := by
    unfold Hid efgText; rw [hl1, hl2, hl3]
  have Hl1 := hide hl1
  have Hl2 := hide hl2
  have Hl3 := hide hl3
  clear hl1 hl2 hl3
  go_enter Tryz.func222, Tryz.ntmps222
  go_upto_if 78 with fail
  go_cut [0] (fun d wx => d = .slice (some ⟨g, 0, none⟩) l1.length 24 ∧ Row W g wx l1)
  case first =>
    cases neg
    · go_wp2_with fail
      go_meet
      have := unhide Hl1
      simp only [if_false, Bool.false_eq_true] at this
      subst this
      exact ⟨rfl, hr⟩
    · have hl := unhide Hl1
      simp only [if_true] at hl
      subst hl
      go_wp2_with (at_builtin; refine wpList_append_fits _ rfl _ _ 135 rfl g 5 i0 1 Tryz.underlying135 hi hz1 g (0) 24 [] rfl (hr.own.alloc _) ⟨W.heap.size, 0, none⟩ 1 1 [(.int .u8 45)] rfl rfl (cell_one_new _ _ _) (fun x hx => by simp at hx; subst hx; rfl) (by omega) ?_; intro w1 hown1 hg1)
      go_meet
      exact ⟨rfl, hr.step (m := [45]) rfl rfl hown1 hg1⟩
  case rest =>
    obtain ⟨rfl, hr1⟩ := hcut
    have c0 := hr1.cell hgB (unhide HB 0 (by omega))
    go_upto_if 92 with (at_builtin; refine wpList_append_fits _ rfl _ _ 135 rfl g 5 i0 1 Tryz.underlying135 hi hz1 g (l1.length) 24 ((l1).map encB) rfl (hr1.own.alloc _) ⟨wc.heap.size, 0, none⟩ 1 1 [(.int .u8 ((ds 0).toNat : Int))] rfl rfl (cell_one_new _ _ _) (fun x hx => by simp at hx; subst hx; rfl) (by omega) ?_; intro w2 hown2 hg2)
    have hr2 : Row W g w2 l2 := by
      have := hr1.step (m := [ds 0]) rfl rfl hown2 hg2
      rw [unhide Hl2] at this; exact this
    clear hown2 hg2
    go_cut [0, 20, 21, 114] (fun d _ _ _ wx => d = .slice (some ⟨g, 0, none⟩) l3.length 24 ∧ Row W g wx l3)
    case first =>
      by_cases hp0 : prec = 0
      · have h3 := unhide Hl3
        rw [if_pos hp0, List.append_nil] at h3
        subst h3
        have hp1 : ¬ (0 : Int) < (prec : Int) := by omega
        have Hp0 := hide hp0
        clear hp0
        go_wp2_with fail
        go_meet
        exact ⟨rfl, hr2⟩
      · have h3 := unhide Hl3
        rw [if_neg hp0] at h3
        have hp1 : decide ((0 : Int) < (prec : Int)) = true := decide_eq_true (by omega)
        have hp2 : decide (0 < prec) = true := decide_eq_true (by omega)
        first | rw [hp1] | rw [hp2]
        refine efg_frac W w2 g B nd prec _ ds l2 l3 hr2 hnd1 hnd2 (by omega) hp hgB (by omega) (unhide HB) rfl h3 _ _ _ _ _ _ _ _ _ _ _ _ _ _ _ _ _ _ _ _ _ _ _ _ _ _ _ _ _ _ _ _ _ _ _ _ _ _ _ _ _ _ _ _ _ _ _ _ _ _ _ _ _ _ _ _ _ _ _ _ _ _ _ _ _ _ _ _ _ _ _ _ _ _ _ _ _ _ _ _ _ _ _ _ _ _ _ _ _ _ _ _ _ _ _ _ _ _ _ _ _ _ _ _ _ _ _ _ _ _ _ _ _ _ _ _ _ _ _ _ _ _ _ _ _ _ _ _ _ _ _ _ _ _ _ _ _ _ _ _ _ _ _ _ _ _ _ _ _ _ _ _ _ _ _ _ _ _ _ _ _ _ _ _ _ _ _ _ _ _ _ _ _ _ _ _ _ _ _ _ _ _ _ _ _ _ _ _ _ _ _ _ _ _ _ _ _ _ _ _ _ _ _ _ _ _ _ _ _ _ _ _ _ _ _ _ _ _ _ _ _ _ _ _ _ _ _ _ _ _ _ _ _ _ _ _ _ _ _ _ _ _ _ _ _ _ _ _ _ _ _ _ _ _ _ _ _ _ _ _ _ _ _ _ _ _ _ _ ?_
        intro w3 x20 x21 x93 x94 x95 x96 x97 x98 x99 x100 x101 x102 x103 x104 x105 x106 x107 x108 x109 x110 x111 x112 x113 x114 x115 x116 x117 x118 x119 hr3
        dsimp only
        go_wp2_with fail
        go_meet
        exact ⟨rfl, hr3⟩
    case rest =>
      obtain ⟨rfl, hr3⟩ := hcut
      obtain ⟨x, hx⟩ : ∃ x : Int, dp - 1 = x := ⟨_, rfl⟩
      have hx1 : -401 ≤ x := by omega
      have hx2 : x ≤ 399 := by omega
      have HX := hide hx
      rw [hx] at HT
      obtain ⟨l4, hl4⟩ : ∃ l4 : List UInt8, l3 ++ [101] = l4 := ⟨_, rfl⟩
      have hl4n : l3.length + 1 = l4.length := by rw [← hl4]; simp
      have Hl4 := hide hl4
      clear hl4
      go_upto_region 38 with (at_builtin; refine wpList_append_fits _ rfl _ _ 135 rfl g 5 i0 1 Tryz.underlying135 hi hz1 g (l3.length) 24 ((l3).map encB) rfl (hr3.own.alloc _) ⟨wc.heap.size, 0, none⟩ 1 1 [(.int .u8 101)] rfl rfl (cell_one_new _ _ _) (fun x hx => by simp at hx; subst hx; rfl) (by omega) ?_; intro w4 hown4 hg4)
      have hr4 : Row W g w4 l4 := by
        have := hr3.step (m := [101]) rfl rfl hown4 hg4
        rw [unhide Hl4] at this; exact this
      clear hown4 hg4
      obtain ⟨ch, hch⟩ : ∃ ch : UInt8, (if x < 0 then 45 else 43) = ch := ⟨_, rfl⟩
      obtain ⟨a, ha⟩ : ∃ a : Nat, x.natAbs = a := ⟨_, rfl⟩
      have hab : a ≤ 401 := by omega
      obtain ⟨l5, hl5⟩ : ∃ l5 : List UInt8, l4 ++ [ch] = l5 := ⟨_, rfl⟩
      have hl5n : l4.length + 1 = l5.length := by rw [← hl5]; simp
      have HT2 : Hid (efgText neg ds nd prec dp = l5 ++ (if a < 10 then [48, UInt8.ofNat (48 + a)] else if a < 100 then [UInt8.ofNat (48 + a / 10), UInt8.ofNat (48 + a % 10)] else [UInt8.ofNat (48 + a / 100), UInt8.ofNat (48 + a / 10 % 10), UInt8.ofNat (48 + a % 10)])) := by
        unfold Hid; rw [unhide HT, ← hl5, ← unhide Hl4]; unfold expText; rw [hch, ha]; simp
      have Hch := hide hch
      have Ha := hide ha
      have Hl5 := hide hl5
      clear hch ha hl5
      go_upto_if 129 with fail
      go_cut [19, 22] (fun c e wx => c = .int .u8 (ch.toNat : Int) ∧ e = .int .i64 a ∧ wx = w4)
      case first =>
        by_cases hneg : x < 0
        · have h1 : -x = (a : Int) := by have := unhide Ha; omega
          have h2 : Hid (ch = 45) := by have := unhide Hch; rw [if_pos hneg] at this; exact this.symm
          go_wp2_with fail
          go_meet
          exact ⟨by rw [unhide h2]; rfl, rfl, rfl⟩
        · have h1 : Hid (x = (a : Int)) := by have := unhide Ha; unfold Hid; omega
          have h2 : Hid (ch = 43) := by have := unhide Hch; rw [if_neg hneg] at this; exact this.symm
          go_wp2_with fail
          go_meet
          exact ⟨by rw [unhide h2]; rfl, by rw [unhide h1], rfl⟩
      case rest =>
        obtain ⟨rfl, rfl, hw⟩ := hcut
        rw [hw]
        clear hw
        go_upto_region 47 with (at_builtin; refine wpList_append_fits _ rfl _ _ 135 rfl g 5 i0 1 Tryz.underlying135 hi hz1 g (l4.length) 24 ((l4).map encB) rfl (hr4.own.alloc _) ⟨w4.heap.size, 0, none⟩ 1 1 [(.int .u8 (ch.toNat : Int))] rfl rfl (cell_one_new _ _ _) (fun x hx => by simp at hx; subst hx; rfl) (by omega) ?_; intro w5 hown5 hg5)
        have hr5 : Row W g w5 l5 := by
          have := hr4.step (m := [ch]) rfl rfl hown5 hg5
          rw [unhide Hl5] at this; exact this
        clear hown5 hg5
        by_cases ha1 : a < 10
        · have HT3 : Hid (efgText neg ds nd prec dp = l5 ++ [48, UInt8.ofNat (48 + a)]) := by
            unfold Hid; rw [unhide HT2, if_pos ha1]
          have hb1 : ((UInt8.ofNat (48 + a)).toNat : Int) = (a : Int) + 48 := byte_of (48 + a) (by omega) (by omega)
          go_wp2_with (at_builtin; refine wpList_append_fits _ rfl _ _ 135 rfl g 5 i0 1 Tryz.underlying135 hi hz1 g (l5.length) 24 ((l5).map encB) rfl (hr5.own.alloc _) ⟨w5.heap.size, 0, none⟩ 2 2 [(.int .u8 48), (.int .u8 ((a : Int) + 48))] rfl rfl (cell_two_new _ _ _ _) (fun x hx => by simp at hx; rcases hx with rfl | rfl <;> rfl) (by omega) ?_; intro w6 hown6 hg6)
          go_ret
          rw [unhide HT3]
          exact ⟨by simp, hr5.step (m := [48, UInt8.ofNat (48 + a)]) (by rw [← hb1]; rfl) rfl hown6 hg6⟩
        · by_cases ha2 : a < 100
          · have HT3 : Hid (efgText neg ds nd prec dp = l5 ++ [UInt8.ofNat (48 + a / 10), UInt8.ofNat (48 + a % 10)]) := by
              unfold Hid; rw [unhide HT2, if_neg ha1, if_pos ha2]
            have hb1 : ((UInt8.ofNat (48 + a / 10)).toNat : Int) = (a : Int) / 10 + 48 := byte_of (48 + a / 10) (by omega) (by omega)
            have hb2 : ((UInt8.ofNat (48 + a % 10)).toNat : Int) = (a : Int) % 10 + 48 := byte_of (48 + a % 10) (by omega) (by omega)
            go_wp2_with (at_builtin; refine wpList_append_fits _ rfl _ _ 135 rfl g 5 i0 1 Tryz.underlying135 hi hz1 g (l5.length) 24 ((l5).map encB) rfl (hr5.own.alloc _) ⟨w5.heap.size, 0, none⟩ 2 2 [(.int .u8 ((a : Int) / 10 + 48)), (.int .u8 ((a : Int) % 10 + 48))] rfl rfl (cell_two_new _ _ _ _) (fun x hx => by simp at hx; rcases hx with rfl | rfl <;> rfl) (by omega) ?_; intro w6 hown6 hg6)
            go_ret
            rw [unhide HT3]
            exact ⟨by simp, hr5.step (m := [UInt8.ofNat (48 + a / 10), UInt8.ofNat (48 + a % 10)]) (by rw [← hb1, ← hb2]; rfl) rfl hown6 hg6⟩
          · have HT3 : Hid (efgText neg ds nd prec dp = l5 ++ [UInt8.ofNat (48 + a / 100), UInt8.ofNat (48 + a / 10 % 10), UInt8.ofNat (48 + a % 10)]) := by
              unfold Hid; rw [unhide HT2, if_neg ha1, if_neg ha2]
            have hb1 : ((UInt8.ofNat (48 + a / 100)).toNat : Int) = (a : Int) / 100 + 48 := byte_of (48 + a / 100) (by omega) (by omega)
            have hb2 : ((UInt8.ofNat (48 + a / 10 % 10)).toNat : Int) = (a : Int) / 10 % 10 + 48 := byte_of (48 + a / 10 % 10) (by omega) (by omega)
            have hb3 : ((UInt8.ofNat (48 + a % 10)).toNat : Int) = (a : Int) % 10 + 48 := byte_of (48 + a % 10) (by omega) (by omega)
            go_wp2_with (at_builtin; refine wpList_append_fits _ rfl _ _ 135 rfl g 5 i0 1 Tryz.underlying135 hi hz1 g (l5.length) 24 ((l5).map encB) rfl (hr5.own.alloc _) ⟨w5.heap.size, 0, none⟩ 3 3 [(.int .u8 ((a : Int) / 100 + 48)), (.int .u8 ((a : Int) / 10 % 10 + 48)), (.int .u8 ((a : Int) % 10 + 48))] rfl rfl (cell_three_new _ _ _ _ _) (fun x hx => by simp at hx; rcases hx with rfl | rfl | rfl <;> rfl) (by omega) ?_; intro w6 hown6 hg6)
            go_ret
            rw [unhide HT3]
            exact ⟨by simp, hr5.step (m := [UInt8.ofNat (48 + a / 100), UInt8.ofNat (48 + a / 10 % 10), UInt8.ofNat (48 + a % 10)]) (by rw [← hb1, ← hb2, ← hb3]; rfl) rfl hown6 hg6⟩
end Go.Proofs.YtgekdmjneogdoaaGreatDoor
