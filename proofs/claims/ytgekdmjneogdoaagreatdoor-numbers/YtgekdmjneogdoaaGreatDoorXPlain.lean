import Derived.Test.YtgekdmjneogdoaaGreatDoorXFtoa
import Derived.Test.YtgekdmjneogdoaaGreatDoorXNear
import Derived.Lib.SmallJoins
namespace Go.Proofs.YtgekdmjneogdoaaGreatDoor
open Go.RowKit

theorem below_grow2 (B : Nat) (w : World) (hB : B ≤ w.heap.size) (k : Nat) (os : Array Obj) : Below B w (Sort.grow (w.drewN k) os) := by
  refine ⟨rfl, rfl, rfl, ?_, ?_⟩
  · show w.heap.size ≤ (w.heap ++ os).size
    simp
  · intro j hj
    show (w.heap ++ os)[j]? = w.heap[j]?
    rw [Array.getElem?_append_left (by omega)]

set_option maxRecDepth 20000 in
set_option maxHeartbeats 400000 in
theorem plain_any (l dgs pw : List UInt8) (c : Bool) (n : Int) (w : World) (ht : Tabs w) (hl : l.length ≤ 40) (hcut : Lib.cut l [101] = (dgs, pw, c)) (hp : pw.length ≤ 18) (hat : Lib.atoi pw = some n) (hn1 : -400 ≤ n) (hn2 : n ≤ 400) (hd : dgs.length ≤ 40) (hit : (Lib.itoa n).length ≤ 10) :
    Calls Tryz.prog 44 #[.string ⟨l.toArray⟩] w fun e w' => e = .returned (.string ⟨(dgs ++ [101] ++ Lib.itoa n).toArray⟩) ∧ Below w.heap.size w w' := by
  obtain ⟨mx, hmx⟩ := ht.maxLen
  have L1 := Tryz.strings_Cut (bs l) (bs [101]) mx w (by rw [bs_size]; omega) hmx
  rw [bs_list, bs_list, hcut] at L1
  have H1 := hide L1
  have L2 := fun w => Tryz.strconv_Atoi (bs pw) n (by rw [bs_size]; exact hp) (by rw [bs_list]; exact hat) w
  have H2 := hide L2
  clear L1 L2
  go_enter Tryz.func44, Tryz.ntmps44
  go_wp2_with fail
  refine (unhide H1).mono ?_
  rintro x w1 ⟨rfl, k1, rfl⟩
  go_wp2_with fail
  refine (unhide H2 _).mono ?_
  rintro x w2 ⟨rfl, t, hw2⟩
  have hb2 : Below w.heap.size w w2 := by
    rw [hw2]
    exact (below_drewN (Below.refl _ _) k1).trans (Go.Joins.below_bytesWorld _ _ _ _ (Nat.le_refl _))
  clear hw2
  go_wp2_with fail
  refine (Tryz.strconv_Itoa n (by omega) (by omega) w2 ((ht.below hb2).tab (by kernel_rfl))).mono ?_
  rintro x w3 ⟨rfl, k3, os, hw3⟩
  have hb3 : Below w.heap.size w w3 := by
    rw [hw3]
    exact hb2.trans (below_grow2 _ _ hb2.size _ _)
  clear hw3
  go_wp2_with fail
  go_ret
  exact ⟨rfl, hb3⟩
end Go.Proofs.YtgekdmjneogdoaaGreatDoor

namespace Go.Proofs.YtgekdmjneogdoaaGreatDoor
open Go.RowKit

set_option maxRecDepth 20000 in
set_option maxHeartbeats 800000 in
theorem few_any (b : Nat) (T : Nat → List UInt8) (V : Nat → Nat) (w : World)
    (hF : ∀ k : Nat, k ≤ 16 → ∀ w', Below w.heap.size w w' → Calls Tryz.prog 75 #[.float .f64 b, .int .u8 101, .int .i64 k, .int .i64 64] w' fun e w'' => e = .returned (.string ⟨(T k).toArray⟩) ∧ Below w'.heap.size w' w'')
    (hN : ∀ k : Nat, k < 16 → ∀ w', Below w.heap.size w w' → Calls Tryz.prog 49 #[.string ⟨(T k).toArray⟩] w' fun e w'' => e = .returned (.float .f64 (V k)) ∧ Below w'.heap.size w' w'') :
    Calls Tryz.prog 45 #[.float .f64 b] w fun e w' => ∃ K : Nat, e = .returned (.string ⟨(T K).toArray⟩) ∧ K ≤ 16 ∧ (∀ k : Nat, k < K → (FloatKind.f64.format.order (V k) b == some .eq) = false) ∧ (K < 16 → (FloatKind.f64.format.order (V K) b == some .eq) = true) ∧ Below w.heap.size w w' := by
  have HF := hide hF
  have HN := hide hN
  clear hF hN
  go_enter Tryz.func45, Tryz.ntmps45
  go_wp2_with fail
  go_loopw [3] (fun i wx => ∃ k : Nat, k ≤ 16 ∧ i = .int .i64 ((k : Int) + 1) ∧ Hid (∀ j, j < k → (FloatKind.f64.format.order (V j) b == some .eq) = false) ∧ Below w.heap.size w wx) (fun i _ => 17 - (RowKit.intOf i).toNat)
  case atStart => exact ⟨0, by omega, rfl, fun j hj => by omega, Below.refl _ _⟩
  case round =>
    obtain ⟨k, hk1, rfl, hk2, hbk⟩ := hrel
    by_cases hk3 : k < 16
    · have hk4 : (k : Int) + 1 < 17 := by omega
      go_wp2_with fail
      refine (unhide HF k (by omega) _ hbk).mono ?_
      rintro x w1 ⟨rfl, hb1⟩
      have hbk1 : Below w.heap.size w w1 := hbk.trans (hb1.mono hbk.size)
      go_wp2_with fail
      refine (unhide HN k hk3 _ hbk1).mono ?_
      rintro x w2 ⟨rfl, hb2⟩
      have hbk2 : Below w.heap.size w w2 := hbk1.trans (hb2.mono hbk1.size)
      cases hp : (FloatKind.f64.format.order (V k) b == some .eq)
      · go_wp2_with fail
        go_roundw
        case rel =>
          refine ⟨k + 1, by omega, by go_num, ?_, hbk2⟩
          intro j hj
          by_cases hjk : j = k
          · rw [hjk]; exact hp
          · exact unhide hk2 j (by omega)
        case measure => simp [RowKit.intOf]; omega
      · go_wp2_with fail
        go_ret
        exact ⟨k, rfl, by omega, unhide hk2, fun _ => hp, hbk2⟩
    · have hk4 : k = 16 := by omega
      subst hk4
      go_wp2_with fail
      refine (unhide HF 16 (by omega) _ hbk).mono ?_
      rintro x w1 ⟨rfl, hb1⟩
      go_wp2_with fail
      go_ret
      exact ⟨16, rfl, by omega, unhide hk2, fun h => by omega, hbk.trans (hb1.mono hbk.size)⟩
end Go.Proofs.YtgekdmjneogdoaaGreatDoor

namespace Go.Proofs.YtgekdmjneogdoaaGreatDoor
open Go.RowKit

set_option maxHeartbeats 400000 in
theorem isNaN_any (v : Nat) (w : World) :
    Calls Tryz.prog 41 #[.float .f64 v] w fun e w' => e = .returned (.bool (FloatKind.f64.format.order v v != some .eq)) ∧ w' = w := by
  go_enter Tryz.func41, Tryz.ntmps41
  go_wp2_with fail
  go_ret
  exact ⟨rfl, rfl⟩

set_option maxHeartbeats 400000 in
theorem isInf_up (v : Nat) (w : World) :
    Calls Tryz.prog 42 #[.float .f64 v, .int .i64 1] w fun e w' => e = .returned (.bool (FloatKind.f64.format.order v 9218868437227405311 == some .gt)) ∧ w' = w := by
  go_enter Tryz.func42, Tryz.ntmps42
  go_wp2_with fail
  go_ret
  exact ⟨rfl, rfl⟩

set_option maxHeartbeats 400000 in
theorem isInf_down (v v1 : Nat) (w : World) (hv : Op.negFloat .f64 v = v1) :
    Calls Tryz.prog 42 #[.float .f64 v, .int .i64 (-1)] w fun e w' => e = .returned (.bool (FloatKind.f64.format.order v1 9218868437227405311 == some .gt)) ∧ w' = w := by
  have hn : ∀ w, (Op.unary .neg (.float .f64 v)).run Tryz.prog w = .ok (.float .f64 v1) w := fun w => by rw [← hv]; rfl
  go_enter Tryz.func42, Tryz.ntmps42
  go_wp2_with fail
  go_ret
  exact ⟨rfl, rfl⟩

set_option maxHeartbeats 400000 in
theorem signbit_any (v : Nat) (w : World) (hv : v < 18446744073709551616) :
    Calls Tryz.prog 43 #[.float .f64 v] w fun e w' => e = .returned (.bool (decide (9223372036854775808 ≤ v))) ∧ w' = w := by
  have hfb := bits_run
  have hd : decide (wrap64 (v : Int) < 0) = decide (9223372036854775808 ≤ v) := by
    apply decide_eq_decide.2
    unfold wrap64
    omega
  go_enter Tryz.func43, Tryz.ntmps43
  go_wp2_with fail
  go_ret
  exact ⟨rfl, rfl⟩

set_option maxRecDepth 20000 in
set_option maxHeartbeats 800000 in
theorem short_nan (v : Nat) (w : World) (h : (FloatKind.f64.format.order v v != some .eq) = true) :
    Calls Tryz.prog 17 #[.int .u64 v] w fun e w' => e = .returned (.string ⟨#[110, 97, 110]⟩) ∧ w' = w := by
  have hfb := mfrom_run
  go_enter Tryz.func17, Tryz.ntmps17
  go_wp2_with fail
  refine (isNaN_any v _).mono ?_
  rintro x w1 ⟨rfl, rfl⟩
  rw [h]
  go_wp2_with fail
  go_ret
  exact ⟨rfl, rfl⟩

set_option maxRecDepth 20000 in
set_option maxHeartbeats 800000 in
theorem short_inf (v : Nat) (w : World) (h : (FloatKind.f64.format.order v v != some .eq) = false) (h2 : (FloatKind.f64.format.order v 9218868437227405311 == some .gt) = true) :
    Calls Tryz.prog 17 #[.int .u64 v] w fun e w' => e = .returned (.string ⟨#[105, 110, 102]⟩) ∧ w' = w := by
  have hfb := mfrom_run
  go_enter Tryz.func17, Tryz.ntmps17
  go_wp2_with fail
  refine (isNaN_any v _).mono ?_
  rintro x w1 ⟨rfl, rfl⟩
  rw [h]
  go_wp2_with fail
  refine (isInf_up v _).mono ?_
  rintro x w1 ⟨rfl, rfl⟩
  rw [h2]
  go_wp2_with fail
  go_ret
  exact ⟨rfl, rfl⟩

set_option maxRecDepth 20000 in
set_option maxHeartbeats 800000 in
theorem short_minf (v v1 : Nat) (w : World) (hv : Op.negFloat .f64 v = v1) (h : (FloatKind.f64.format.order v v != some .eq) = false) (h2 : (FloatKind.f64.format.order v 9218868437227405311 == some .gt) = false) (h3 : (FloatKind.f64.format.order v1 9218868437227405311 == some .gt) = true) :
    Calls Tryz.prog 17 #[.int .u64 v] w fun e w' => e = .returned (.string ⟨#[45, 105, 110, 102]⟩) ∧ w' = w := by
  have hfb := mfrom_run
  go_enter Tryz.func17, Tryz.ntmps17
  go_wp2_with fail
  refine (isNaN_any v _).mono ?_
  rintro x w1 ⟨rfl, rfl⟩
  rw [h]
  go_wp2_with fail
  refine (isInf_up v _).mono ?_
  rintro x w1 ⟨rfl, rfl⟩
  rw [h2]
  go_wp2_with fail
  refine (isInf_down v v1 _ hv).mono ?_
  rintro x w1 ⟨rfl, rfl⟩
  rw [h3]
  go_wp2_with fail
  go_ret
  exact ⟨rfl, rfl⟩

set_option maxRecDepth 20000 in
set_option maxHeartbeats 800000 in
theorem short_mzero (v v1 : Nat) (w : World) (hv : Op.negFloat .f64 v = v1) (hv2 : v < 18446744073709551616) (h : (FloatKind.f64.format.order v v != some .eq) = false) (h2 : (FloatKind.f64.format.order v 9218868437227405311 == some .gt) = false) (h3 : (FloatKind.f64.format.order v1 9218868437227405311 == some .gt) = false)
    (h4 : (FloatKind.f64.format.order v 0 == some .eq) = true) (h5 : 9223372036854775808 ≤ v) :
    Calls Tryz.prog 17 #[.int .u64 v] w fun e w' => e = .returned (.string ⟨#[45, 48]⟩) ∧ w' = w := by
  have hfb := mfrom_run
  go_enter Tryz.func17, Tryz.ntmps17
  go_wp2_with fail
  refine (isNaN_any v _).mono ?_
  rintro x w1 ⟨rfl, rfl⟩
  rw [h]
  go_wp2_with fail
  refine (isInf_up v _).mono ?_
  rintro x w1 ⟨rfl, rfl⟩
  rw [h2]
  go_wp2_with fail
  refine (isInf_down v v1 _ hv).mono ?_
  rintro x w1 ⟨rfl, rfl⟩
  rw [h3]
  go_wp2_with fail
  refine (signbit_any v _ hv2).mono ?_
  rintro x w1 ⟨rfl, rfl⟩
  rw [decide_eq_true h5]
  go_wp2_with fail
  go_ret
  exact ⟨rfl, rfl⟩

set_option maxRecDepth 20000 in
set_option maxHeartbeats 800000 in
theorem short_zero (v v1 : Nat) (w : World) (hv : Op.negFloat .f64 v = v1) (h : (FloatKind.f64.format.order v v != some .eq) = false) (h2 : (FloatKind.f64.format.order v 9218868437227405311 == some .gt) = false) (h3 : (FloatKind.f64.format.order v1 9218868437227405311 == some .gt) = false)
    (h4 : (FloatKind.f64.format.order v 0 == some .eq) = true) (h5 : v < 9223372036854775808) :
    Calls Tryz.prog 17 #[.int .u64 v] w fun e w' => e = .returned (.string ⟨#[48]⟩) ∧ w' = w := by
  have hfb := mfrom_run
  go_enter Tryz.func17, Tryz.ntmps17
  go_wp2_with fail
  refine (isNaN_any v _).mono ?_
  rintro x w1 ⟨rfl, rfl⟩
  rw [h]
  go_wp2_with fail
  refine (isInf_up v _).mono ?_
  rintro x w1 ⟨rfl, rfl⟩
  rw [h2]
  go_wp2_with fail
  refine (isInf_down v v1 _ hv).mono ?_
  rintro x w1 ⟨rfl, rfl⟩
  rw [h3]
  go_wp2_with fail
  refine (signbit_any v _ (by omega)).mono ?_
  rintro x w1 ⟨rfl, rfl⟩
  rw [decide_eq_false (by omega : ¬ 9223372036854775808 ≤ v)]
  go_wp2_with fail
  go_ret
  exact ⟨rfl, rfl⟩

set_option maxRecDepth 20000 in
set_option maxHeartbeats 800000 in
theorem short_fin (v v1 : Nat) (P : List UInt8 → Prop) (R : List UInt8 → List UInt8) (w : World) (hv : Op.negFloat .f64 v = v1) (h : (FloatKind.f64.format.order v v != some .eq) = false) (h2 : (FloatKind.f64.format.order v 9218868437227405311 == some .gt) = false) (h3 : (FloatKind.f64.format.order v1 9218868437227405311 == some .gt) = false)
    (h4 : (FloatKind.f64.format.order v 0 == some .eq) = false)
    (hF : Hid (Calls Tryz.prog 45 #[.float .f64 v] w fun e w' => ∃ l, e = .returned (.string ⟨l.toArray⟩) ∧ P l ∧ Below w.heap.size w w'))
    (hP : Hid (∀ l, P l → ∀ w', Below w.heap.size w w' → Calls Tryz.prog 44 #[.string ⟨l.toArray⟩] w' fun e w'' => e = .returned (.string ⟨(R l).toArray⟩) ∧ Below w'.heap.size w' w'')) :
    Calls Tryz.prog 17 #[.int .u64 v] w fun e w' => ∃ l, e = .returned (.string ⟨(R l).toArray⟩) ∧ P l ∧ Below w.heap.size w w' := by
  have hfb := mfrom_run
  go_enter Tryz.func17, Tryz.ntmps17
  go_wp2_with fail
  refine (isNaN_any v _).mono ?_
  rintro x w1 ⟨rfl, rfl⟩
  rw [h]
  go_wp2_with fail
  refine (isInf_up v _).mono ?_
  rintro x w1 ⟨rfl, rfl⟩
  rw [h2]
  go_wp2_with fail
  refine (isInf_down v v1 _ hv).mono ?_
  rintro x w1 ⟨rfl, rfl⟩
  rw [h3]
  go_wp2_with fail
  refine (unhide hF).mono ?_
  rintro x w1 ⟨l, rfl, hl, hb1⟩
  go_wp2_with fail
  refine (unhide hP l hl _ hb1).mono ?_
  rintro x w2 ⟨rfl, hb2⟩
  go_wp2_with fail
  go_ret
  exact ⟨l, rfl, hl, hb1.trans (hb2.mono hb1.size)⟩
end Go.Proofs.YtgekdmjneogdoaaGreatDoor
