import Derived.Test.YtgekdmjneogdoaaGreatDoorYAk1
import Derived.Test.YtgekdmjneogdoaaGreatDoorYDeD
import Derived.Test.YtgekdmjneogdoaaGreatDoorYDeK
import Derived.Test.YtgekdmjneogdoaaGreatDoorYLd1
import Derived.Test.YtgekdmjneogdoaaGreatDoorYLd3
import Derived.Test.YtgekdmjneogdoaaGreatDoorYLw
import Derived.Test.YtgekdmjneogdoaaGreatDoorYPk
import Derived.ChangeSlices
import Derived.Carry
namespace Go.Proofs.YtgekdmjneogdoaaGreatDoor
open Go.RowKit Go.Lib Go.ChangeShapes Go.WideShapes Go.ChangeAt Go.ChangeMaps

/-- a slice of ints that came in -/
theorem rdi_of {H : Type} {enc : TypeId × Value → H} {W : World} {a0 : Option Addr} {len cap : Nat} {d : DataW H} {p : List MemPlace} (h : DataW.Trod enc Tryz.prog W 0 (fun _ => true) true 32 (.slice a0 len cap) d p) :
    ∃ l : List Int, RdI (Under W) W (.slice a0 len cap) l ∧ (∀ z ∈ l, -9223372036854775808 ≤ z ∧ z ≤ 9223372036854775807) ∧ l.length ≤ 9223372036854775807 := by
  obtain ⟨fuel, hf⟩ := h
  rcases open_ints Tryz.underlying32 Tryz.underlying3 (by kernel_rfl) hf with ⟨hcs, _⟩ | ⟨a, l, c, zs, hcs, _, h1, h2, h3, _, h4, h5⟩
  · simp [Value.cells] at hcs
    obtain ⟨rfl, rfl, rfl⟩ := hcs
    exact ⟨[], ⟨none, 0, rfl, by simp, fun h => by simp at h⟩, by simp, by simp⟩
  · simp [Value.cells] at hcs
    obtain ⟨rfl, rfl, rfl⟩ := hcs
    rw [if_pos rfl] at h3
    have hl : (zs.take len).length = len := by rw [List.length_take]; omega
    have hm : cap ≤ 9223372036854775807 := by unfold maxLen at h2; omega
    refine ⟨zs.take len, ⟨some a, cap, by rw [hl], by rw [hl]; exact h1, fun h0 => ?_⟩, fun z hz => wf64 (h5 z (List.mem_of_mem_take hz)), by rw [hl]; omega⟩
    rw [hl] at h0
    obtain ⟨R, o, sR⟩ := a
    have h00 := h4 0 (by omega)
    have e0 : (Addr.add ⟨R, o, sR⟩ 0) = ⟨R, o, sR⟩ := by simp [Addr.add]
    rw [e0] at h00
    obtain rfl : sR = none := Go.Proofs.cell_spot h00
    refine ⟨R, o, lt_of_cell h00, rfl, fun j hj => ?_⟩
    rw [hl] at hj
    have := h4 j (by omega)
    rw [Addr.add_lit] at this
    rw [this]
    have hjz : j < zs.length := by omega
    have e1 : zs.getD j 0 = zs[j] := by rw [List.getD_eq_getElem?_getD, List.getElem?_eq_getElem hjz]; rfl
    have e2 : (zs.take len).getD j 0 = zs[j] := by
      rw [List.getD_eq_getElem?_getD, List.getElem?_take_of_lt hj, List.getElem?_eq_getElem hjz]
      rfl
    rw [e1, e2]
end Go.Proofs.YtgekdmjneogdoaaGreatDoor

namespace Go.Proofs.YtgekdmjneogdoaaGreatDoor
open Go.RowKit

/-! Ordered, walked -/
/-- a text with noughts behind it, as long as this -/
def padT (X : List UInt8) (n : Nat) : List UInt8 := X ++ List.replicate (n - X.length) 48

theorem pad_len (X : List UInt8) (n : Nat) : (padT X n).length = max X.length n := by
  unfold padT
  rw [List.length_append, List.length_replicate]
  omega

theorem pad_step (X : List UInt8) (j : Nat) : bs (X ++ List.replicate j 48) ++ ByteArray.mk #[48] = bs (X ++ List.replicate (j + 1) 48) := by
  refine Eq.trans (bs_plus _ [48]) ?_
  rw [List.append_assoc, List.replicate_succ']

def szOf : Value → Nat | .string b => b.size | _ => 0

/-- Number's answer at a text, in every world above this one -/
def NumAt (l : List UInt8) (u : Nat) (w : World) : Prop := ∀ w', Below w.heap.size w w' → Calls Tryz.prog 18 #[.string (bs l)] w' fun e w'' => e = .returned (.tuple #[.int .u64 (u : Nat), .int .i64 0]) ∧ Below w'.heap.size w' w''

set_option maxRecDepth 20000 in
set_option maxHeartbeats 1600000 in
theorem ordered_walk (av bv : Value) (n : Int) (X0 Y0 X Y E : List UInt8) (u v k m : Nat) (w : World)
    (hA : Calls Tryz.prog 16 #[] w fun e w' => e = .returned (.bool true) ∧ Below w.heap.size w w')
    (hX : ∀ u, Below w.heap.size w u → Calls Tryz.prog 20 #[av, .int .i64 30] u fun e w' => e = .returned (.string (bs X0)) ∧ ∃ q, w' = u.drewN q)
    (hY : ∀ u, Below w.heap.size w u → Calls Tryz.prog 20 #[bv, .int .i64 30] u fun e w' => e = .returned (.string (bs Y0)) ∧ ∃ q, w' = u.drewN q)
    (hE : ∀ u, Calls Tryz.prog 21 #[.int .i64 n] u fun e w' => e = .returned (.string (bs E)) ∧ ∃ q, w' = u.drewN q)
    (lX : X0.length ≤ 30) (lY : Y0.length ≤ 30) (lE : E.length ≤ 5) (eX : padT X0 Y0.length = X) (eY : padT Y0 X.length = Y)
    (n1 : NumAt (X ++ E) u w) (n2 : NumAt (Y ++ E) v w) (n3 : NumAt ([45] ++ X ++ E) k w) (n4 : NumAt (X ++ [46, 57] ++ E) m w) (n5 : NumAt ([48] ++ X ++ E) u w)
    (hk : k = u + 9223372036854775808) (hu : u ≤ 9218868437227405312) (hm : u ≤ m)
    (ho : (Op.bytesLess X Y = true ∧ ¬ X = Y ∧ u ≤ v) ∨ (Op.bytesLess X Y = false ∧ ¬ X = Y ∧ v ≤ u) ∨ (Op.bytesLess X Y = false ∧ X = Y ∧ u = v)) :
    Calls Tryz.prog 6 #[av, bv, .int .i64 n] w fun e w' => e = .returned (.bool true) ∧ Below w.heap.size w w' := by
  have HA := hide hA
  have HX := hide hX
  have HY := hide hY
  have HE := hide hE
  have EX := hide eX
  have EY := hide eY
  have N1 := hide n1
  have N2 := hide n2
  have N3 := hide n3
  have N4 := hide n4
  have N5 := hide n5
  have HO := hide ho
  have HK := hide hk
  clear hA hX hY hE eX eY n1 n2 n3 n4 n5 ho hk
  go_enter Tryz.func6, Tryz.ntmps6
  go_wp2_with fail
  refine (unhide HA).mono ?_
  rintro e w1 ⟨rfl, hb1⟩
  have HB1 := hide hb1
  clear hb1 HA
  go_wp2_with fail
  refine (unhide HX w1 (unhide HB1)).mono ?_
  rintro e w2 ⟨rfl, q2, hw⟩
  rw [hw]
  clear hw
  go_wp2_with fail
  refine (unhide HY _ (below_drewN (unhide HB1) _)).mono ?_
  rintro e w3 ⟨rfl, q3, hw⟩
  rw [hw]
  clear hw
  go_wp2_with fail
  go_loopw [8] (fun sv wr => ∃ j q : Nat, (j ≤ Y0.length - X0.length) ∧ sv = .string (bs (X0 ++ List.replicate j 48)) ∧ wr = w1.drewN q) (fun sv _ => Y0.length - szOf sv)
  case atStart => exact ⟨0, q2 + q3, by omega, by simp, rfl⟩
  case round =>
    obtain ⟨j, q, hj, rfl, hw⟩ := hrel
    rw [hw]
    clear hw
    have HS := hide (pad_step X0 j)
    have hZ : (bs (X0 ++ List.replicate j 48)).size = X0.length + j := by rw [bs_size, List.length_append, List.length_replicate]
    have hY : (bs Y0).size = Y0.length := bs_size Y0
    by_cases hj2 : X0.length + j < Y0.length
    · go_wp2_with fail
      refine ⟨⟨j + 1, q, by omega, congrArg Value.string (unhide HS), rfl⟩, ?_⟩
      rw [unhide HS]
      show Y0.length - (bs _).size < Y0.length - (bs _).size
      rw [bs_size, bs_size, List.length_append, List.length_append, List.length_replicate, List.length_replicate]
      omega
    · have e : X0 ++ List.replicate j 48 = X := by
        rw [← unhide EX]
        unfold padT
        rw [show j = Y0.length - X0.length by omega]
      have lXX : X.length = X0.length + j := by rw [← e, List.length_append, List.length_replicate]
      have lX3 : X.length ≤ 30 := by omega
      have lX4 : Y0.length ≤ X.length := by omega
      rw [e] at hZ ⊢
      have hZ2 : (bs X).size = X.length := bs_size X
      clear e HS hZ EX
      go_wp2_with fail
      clear hj hj2 lXX
      go_loopw [9] (fun sv wr => ∃ j q : Nat, (j ≤ X.length - Y0.length) ∧ sv = .string (bs (Y0 ++ List.replicate j 48)) ∧ wr = w1.drewN q) (fun sv _ => X.length - szOf sv)
      case atStart => exact ⟨0, q, by omega, by simp, rfl⟩
      case round =>
        obtain ⟨i, p, hi, rfl, hw⟩ := hrel
        rw [hw]
        clear hw
        have HS := hide (pad_step Y0 i)
        have hZ : (bs (Y0 ++ List.replicate i 48)).size = Y0.length + i := by rw [bs_size, List.length_append, List.length_replicate]
        by_cases hi2 : Y0.length + i < X.length
        · go_wp2_with fail
          refine ⟨⟨i + 1, p, by omega, congrArg Value.string (unhide HS), rfl⟩, ?_⟩
          rw [unhide HS]
          show X.length - (bs _).size < X.length - (bs _).size
          rw [bs_size, bs_size, List.length_append, List.length_append, List.length_replicate, List.length_replicate]
          omega
        · have e : Y0 ++ List.replicate i 48 = Y := by
            rw [← unhide EY]
            unfold padT
            rw [show i = X.length - Y0.length by omega]
          have lYY : Y.length = Y0.length + i := by rw [← e, List.length_append, List.length_replicate]
          have lY3 : Y.length = X.length := by omega
          rw [e] at hZ ⊢
          have hZ3 : (bs Y).size = Y.length := bs_size Y
          have hZ4 : (bs E).size = E.length := bs_size E
          clear e HS hZ EY lYY hi hi2
          go_wp2_with fail
          refine (unhide HE _).mono ?_
          rintro e w4 ⟨rfl, q4, hw⟩
          rw [hw]
          clear hw HE
          go_wp2_with fail
          rw [bs_plus X E]
          refine (unhide N1 _ (below_drewN (unhide HB1) _)).mono ?_
          rintro e w5 ⟨rfl, hb⟩
          have HB5 : Hid (Below w.heap.size w w5) := (below_drewN (unhide HB1) _).trans (hb.mono (below_drewN (unhide HB1) _).size)
          clear hb HB1 N1 HX HY
          go_wp2_with fail
          rw [bs_plus Y E]
          refine (unhide N2 _ (unhide HB5)).mono ?_
          rintro e w6 ⟨rfl, hb⟩
          have HB6 : Hid (Below w.heap.size w w6) := (unhide HB5).trans (hb.mono (unhide HB5).size)
          clear hb HB5 N2
          go_wp2_with fail
          rw [show (ByteArray.mk #[45]) ++ bs X = bs ([45] ++ X) from bs_plus [45] X, bs_plus ([45] ++ X) E]
          refine (unhide N3 _ (unhide HB6)).mono ?_
          rintro e w7 ⟨rfl, hb⟩
          have HB7 : Hid (Below w.heap.size w w7) := (unhide HB6).trans (hb.mono (unhide HB6).size)
          clear hb HB6 N3
          go_wp2_with fail
          rw [show bs X ++ (ByteArray.mk #[46, 57]) = bs (X ++ [46, 57]) from bs_plus X [46, 57], bs_plus (X ++ [46, 57]) E]
          refine (unhide N4 _ (unhide HB7)).mono ?_
          rintro e w8 ⟨rfl, hb⟩
          have HB8 : Hid (Below w.heap.size w w8) := (unhide HB7).trans (hb.mono (unhide HB7).size)
          clear hb HB7 N4
          go_wp2_with fail
          rw [show (ByteArray.mk #[48]) ++ bs X = bs ([48] ++ X) from bs_plus [48] X, bs_plus ([48] ++ X) E]
          refine (unhide N5 _ (unhide HB8)).mono ?_
          rintro e w9 ⟨rfl, hb⟩
          have HB9 : Hid (Below w.heap.size w w9) := (unhide HB8).trans (hb.mono (unhide HB8).size)
          clear hb HB8 N5
          have tX : (bs X).toList = X := by rw [Lib.toList_data, bs_list]
          have tY : (bs Y).toList = Y := by rw [Lib.toList_data, bs_list]
          have hku := unhide HK
          rcases unhide HO with ⟨h1, h2, h3⟩ | ⟨h1, h2, h3⟩ | ⟨h1, h2, h3⟩
          · have h4 : (X == Y) = false := by rw [beq_eq_false_iff_ne]; exact h2
            clear HO HK
            go_wp2_with fail
            all_goals first | (go_ret; exact ⟨rfl, unhide HB9⟩) | (exfalso; omega)
          · have h4 : (X == Y) = false := by rw [beq_eq_false_iff_ne]; exact h2
            clear HO HK
            go_wp2_with fail
            all_goals first | (go_ret; exact ⟨rfl, unhide HB9⟩) | (exfalso; omega)
          · subst h2 h3
            have h4 : (X == X) = true := by rw [beq_iff_eq]
            clear HO HK
            go_wp2_with fail
            all_goals first | (go_ret; exact ⟨rfl, unhide HB9⟩) | (exfalso; omega)
end Go.Proofs.YtgekdmjneogdoaaGreatDoor

namespace Go.Proofs.YtgekdmjneogdoaaGreatDoor
open Go.RowKit

/-! Ordered -/
theorem RdI.below {w u : World} {v : Value} {l : List Int} (h : RdI (Under w) w v l) (hb : Below w.heap.size w u) : RdI (Under w) u v l := by
  obtain ⟨ao, cap, h1, h2, h3⟩ := h
  have hk : Kept (Under w) w u := Kept.of_below hb
  refine ⟨ao, cap, h1, h2, fun h0 => ?_⟩
  obtain ⟨g, o, h4, h5, h6⟩ := h3 h0
  exact ⟨g, o, h4, h5, fun j hj => (hk.cell (p := ⟨g, _, none⟩) h4).trans (h6 j hj)⟩

theorem pad_digs {X : List UInt8} (n : Nat) (h : Digs X) : Digs (padT X n) := by
  intro c hc
  unfold padT at hc
  rcases List.mem_append.1 hc with h1 | h1
  · exact h c h1
  · obtain rfl := (List.mem_replicate.1 h1).2
    decide

theorem near_same {N1 N2 : Nat} {y : Int} {v1 v2 : Nat} (h : N1 = N2) (h1 : NearV (N1 * 10 ^ y.toNat) (10 ^ (-y).toNat) v1) (h2 : NearV (N2 * 10 ^ y.toNat) (10 ^ (-y).toNat) v2) : v1 = v2 :=
  Nat.le_antisymm (near_le (Nat.le_of_eq h) h1 h2) (near_le (Nat.le_of_eq h.symm) h2 h1)

theorem num_whole {neg : Bool} {l A T : List UInt8} {x : Int} (h : DecT l neg A [] T x) (w : World) (ht : Tabs w) (hW : SlowW w) : ∃ v, NearV (expVal 0 A * 10 ^ x.toNat) (10 ^ (-x).toNat) v ∧ NumAt l (sgn neg + v) w := by
  obtain ⟨v, h1, h2⟩ := number_calls h w ht hW
  refine ⟨v, ?_, h2⟩
  have e : x - ((([] : List UInt8).length : Nat) : Int) = x := by simp
  rw [List.append_nil, e] at h1
  exact h1

theorem num_nine {l A T : List UInt8} {x : Int} (h : DecT l false A [57] T x) (w : World) (ht : Tabs w) (hW : SlowW w) : ∃ v, NearV ((expVal 0 A * 10 + 9) * 10 ^ (x - 1).toNat) (10 ^ (-(x - 1)).toNat) v ∧ NumAt l (sgn false + v) w := by
  obtain ⟨v, h1, h2⟩ := number_calls h w ht hW
  refine ⟨v, ?_, h2⟩
  have e : x - ((([57] : List UInt8).length : Nat) : Int) = x - 1 := by simp
  rw [expVal_nine, e] at h1
  exact h1

theorem sgn_no (v : Nat) : sgn false + v = v := by simp [sgn]
theorem sgn_yes (v : Nat) : sgn true + v = v + 9223372036854775808 := by simp [sgn]; omega

theorem ordered_ok (av bv : Value) (la lb : List Int) (n : Int) (w : World) (h1 : -9223372036854775808 ≤ n) (h2 : n ≤ 9223372036854775807)
    (ha : RdI (Under w) w av la) (hb : RdI (Under w) w bv lb) (za : ∀ c ∈ la, -9223372036854775808 ≤ c ∧ c ≤ 9223372036854775807) (zb : ∀ c ∈ lb, -9223372036854775808 ≤ c ∧ c ≤ 9223372036854775807) (ka : la.length ≤ 9223372036854775807) (kb : lb.length ≤ 9223372036854775807)
    (hT : Tabs w) (hC : CTabs w) (hG : GK (Under w)) (hS : SortsTo [halfN, halfN] [halfN]) (hW : SlowW w) :
    Calls Tryz.prog 6 #[av, bv, .int .i64 n] w fun e w' => e = .returned (.bool true) ∧ Below w.heap.size w w' := by
  obtain ⟨X0, eX0⟩ : ∃ X0, digT la 30 = X0 := ⟨_, rfl⟩
  obtain ⟨Y0, eY0⟩ : ∃ Y0, digT lb 30 = Y0 := ⟨_, rfl⟩
  have dX0 : Digs X0 := by rw [← eX0]; exact digT_digs la 30
  have dY0 : Digs Y0 := by rw [← eY0]; exact digT_digs lb 30
  have lX0 : 1 ≤ X0.length ∧ X0.length ≤ 30 := by rw [← eX0]; exact digT_len la 30 (by omega)
  have lY0 : 1 ≤ Y0.length ∧ Y0.length ≤ 30 := by rw [← eY0]; exact digT_len lb 30 (by omega)
  obtain ⟨X, eX⟩ : ∃ X, padT X0 Y0.length = X := ⟨_, rfl⟩
  obtain ⟨Y, eY⟩ : ∃ Y, padT Y0 X.length = Y := ⟨_, rfl⟩
  have dX : Digs X := by rw [← eX]; exact pad_digs _ dX0
  have dY : Digs Y := by rw [← eY]; exact pad_digs _ dY0
  have lX : X.length = max X0.length Y0.length := by rw [← eX]; exact pad_len _ _
  have lY : Y.length = max Y0.length X.length := by rw [← eY]; exact pad_len _ _
  have lXY : X.length = Y.length := by omega
  have nX : X ≠ [] := by intro e; rw [e] at lX; simp at lX; omega
  have nY : Y ≠ [] := by intro e; rw [e] at lY; simp at lY; omega
  have d48 : Digs (48 :: X) := by
    intro c hc
    rcases List.mem_cons.1 hc with rfl | hc
    · decide
    · exact dX c hc
  have D1 : DecT (X ++ powT n) false X [] (powT n) (powX n) := dec_whole false X n dX nX (by omega)
  have D2 : DecT (Y ++ powT n) false Y [] (powT n) (powX n) := dec_whole false Y n dY nY (by omega)
  have D3 : DecT ([45] ++ X ++ powT n) true X [] (powT n) (powX n) := dec_whole true X n dX nX (by omega)
  have D4 := dec_nine X n dX nX (by omega)
  have D5 : DecT ([48] ++ X ++ powT n) false (48 :: X) [] (powT n) (powX n) := dec_whole false (48 :: X) n d48 (by simp) (by rw [List.length_cons]; omega)
  obtain ⟨v1, q1, c1⟩ := num_whole D1 w hT hW
  obtain ⟨v2, q2, c2⟩ := num_whole D2 w hT hW
  obtain ⟨v3, q3, c3⟩ := num_whole D3 w hT hW
  obtain ⟨v4, q4, c4⟩ := num_nine D4 w hT hW
  obtain ⟨v5, q5, c5⟩ := num_whole D5 w hT hW
  obtain rfl : v1 = v3 := near_same rfl q1 q3
  obtain rfl : v1 = v5 := near_same (expVal_nought X).symm q1 q5
  rw [sgn_no] at c1 c2 c4 c5
  rw [sgn_yes] at c3
  refine ordered_walk av bv n X0 Y0 X Y (powT n) v1 v2 _ v4 w (awake_ok w hT hC hG hS) (fun u hu => ?_) (fun u hu => ?_) (fun u => power_any n u h1 h2) lX0.2 lY0.2 (pow_len n) eX eY c1 c2 c3 c4 c5 rfl q1.le (near_more q1 q4) ?_
  · rw [← eX0]
    exact digits_any av la 30 u (Under w) (ha.below hu) za ka (by omega) (by omega)
  · rw [← eY0]
    exact digits_any bv lb 30 u (Under w) (hb.below hu) zb kb (by omega) (by omega)
  · by_cases e : X = Y
    · refine Or.inr (Or.inr ⟨?_, e, ?_⟩)
      · rw [e]; exact less_self Y
      · exact near_same (by rw [e]) q1 q2
    · cases hl : Op.bytesLess X Y
      · exact Or.inr (Or.inl ⟨rfl, e, near_le (less_val Y X 0 lXY.symm dY dX (less_turn X Y hl e)) q2 q1⟩)
      · exact Or.inl ⟨rfl, e, near_le (less_val X Y 0 lXY dX dY hl) q1 q2⟩
end Go.Proofs.YtgekdmjneogdoaaGreatDoor

namespace Go.Proofs.YtgekdmjneogdoaaGreatDoor
open Go.RowKit Go.Lib Go.ChangeShapes Go.WideShapes Go.Deep

/-! the slow road's tables, out of what is laid -/
theorem powt_tab {W : World} (h : VarReads Tryz.prog W "internal/strconv.powtab" Rows.laid_internal_strconv_powtab) :
    ∃ B O, W.cell? ⟨13, 0, none⟩ = some (.slice (some ⟨B, O, none⟩) 9 9) ∧ ∀ j, j < 9 → W.cell? ⟨B, O + j, none⟩ = some (.int .i64 (ptN j : Int)) := by
  obtain ⟨g', t', cs, fuel, p, hg', ht', hvar, hd⟩ := h
  obtain rfl := Option.some.inj ((show Tryz.prog.globalNamed "internal/strconv.powtab" = some 13 by kernel_rfl).symm.trans hg')
  obtain rfl := Option.some.inj ((show (Tryz.prog.globals[(13 : Nat)]?).map (·.type) = some 32 by kernel_rfl).symm.trans ht')
  have hdat : (Rows.laid_internal_strconv_powtab : DataW Unit) = .slice ((List.range 9).map fun j => .lit (.int .i64 (ptN j : Int))) [] := by kernel_rfl
  rw [hdat] at hd
  have hc : Tryz.prog.cellsOf 3 = 1 := by kernel_rfl
  rcases DataW.trod_slice Tryz.underlying32 hd with ⟨_, hx⟩ | ⟨a, len, cap, el, rs, m, rfl, hcs, hx, _, hlc, _, hel, helem, hsp, _⟩
  · cases hx
  have e0 := congrArg Prod.fst hx
  simp only [DataW.slice.injEq] at e0
  obtain ⟨eE, eR⟩ := e0
  have hlen : len = 9 := by
    have := congrArg List.length eE
    simp at this
    omega
  have hrs : rs = [] := by
    have := eR.symm
    simpa using this
  have hcap : cap = 9 := by
    have := (hsp rfl).1
    rw [hrs] at this
    simp at this
    omega
  subst hlen hcap
  have hcell : ∀ i, i < 9 → W.cell? (a.add i) = some (.int .i64 (ptN i : Int)) := by
    intro i hi
    have h1 := helem i (by omega)
    rw [hc] at h1
    obtain ⟨b, hb⟩ : ∃ b, el[i]? = some b := ⟨el[i]'(by omega), List.getElem?_eq_getElem (by omega)⟩
    rw [hb] at h1
    obtain ⟨ce, hce, hte⟩ := Option.bind_eq_some_iff.1 h1
    obtain ⟨z, hz, hbz, _⟩ := DataW.trod_int Tryz.underlying3 hte
    have hb1 : b.1 = .lit (.int .i64 (ptN i : Int)) := by
      have := congrArg (·[i]?) eE
      simp [hb, hi] at this
      exact this.symm
    rw [hbz] at hb1
    have hb3 := lit_u hb1
    obtain ⟨_, _, hcc⟩ := World.cells?_some hce
    have := hcc 0 (by omega)
    rw [hz] at this
    simp only [Nat.mul_one] at this
    have e1 : (a.add i).add 0 = a.add i := by simp [Addr.add]
    rw [e1] at this
    rw [this, ← hb3]
    rfl
  obtain ⟨R, o, sR⟩ := a
  obtain rfl : sR = none := by
    have h00 := hcell 0 (by omega)
    have : (Addr.add ⟨R, o, sR⟩ 0) = ⟨R, o, sR⟩ := by simp [Addr.add]
    rw [this] at h00
    exact Go.Proofs.cell_spot h00
  refine ⟨R, o, ?_, fun j hj => ?_⟩
  · rw [World.var?_cell hg' hvar 0, ← Array.getElem?_toList, hcs]
    rfl
  · have := hcell j hj
    rwa [Addr.add_lit] at this

theorem cheat_rows : Go.Pinned.cheatRows.length = 61 ∧ ((List.range 60).all fun j => decide (Go.Pinned.cheatRows[j + 1]? = some (chD (j + 1), chC (j + 1)))) = true := by
  constructor
  · decide +kernel
  · decide +kernel

theorem str_inj {a b : List UInt8} (h : (DataW.lit (.string a) : DataW Unit) = .lit (.string b)) : a = b := by
  injection h with h1
  injection h1

theorem cheat_tab {W : World} (h : VarReads Tryz.prog W "internal/strconv.leftcheats" Go.Pinned.leftcheats) : Cheat W := by
  obtain ⟨g', t', cs, fuel, p, hg', ht', hvar, hd⟩ := h
  obtain rfl := Option.some.inj ((show Tryz.prog.globalNamed "internal/strconv.leftcheats" = some 11 by kernel_rfl).symm.trans hg')
  obtain rfl := Option.some.inj ((show (Tryz.prog.globals[(11 : Nat)]?).map (·.type) = some 373 by kernel_rfl).symm.trans ht')
  unfold Go.Pinned.leftcheats at hd
  have hc : Tryz.prog.cellsOf 372 = 2 := by kernel_rfl
  have ci : Tryz.prog.cellsOf 3 = 1 := by kernel_rfl
  have cstr : Tryz.prog.cellsOf 9 = 1 := by kernel_rfl
  have c61 := cheat_rows.1
  rcases DataW.trod_slice Tryz.underlying373 hd with ⟨_, hx⟩ | ⟨a, len, cap, el, rs, m, rfl, hcs, hx, _, hlc, _, hel, helem, hsp, _⟩
  · cases hx
  have e0 := congrArg Prod.fst hx
  simp only [DataW.slice.injEq] at e0
  obtain ⟨eE, eR⟩ := e0
  have hlen : len = 61 := by
    have := congrArg List.length eE
    simp at this
    omega
  have hrs : rs = [] := by
    have := eR.symm
    simpa using this
  have hcap : cap = 61 := by
    have := (hsp rfl).1
    rw [hrs] at this
    simp at this
    omega
  subst hlen hcap
  have hcell : ∀ k, k < 61 → ∀ r, Go.Pinned.cheatRows[k]? = some r → W.cell? (a.add (k * 2)) = some (.int .i64 (r.1 : Int)) ∧ W.cell? ((a.add (k * 2)).add 1) = some (.string ⟨r.2.toArray⟩) := by
    intro i hi r hr
    have h1 := helem i (by omega)
    rw [hc] at h1
    obtain ⟨b, hb⟩ : ∃ b, el[i]? = some b := ⟨el[i]'(by omega), List.getElem?_eq_getElem (by omega)⟩
    rw [hb] at h1
    obtain ⟨ce, hce, hte⟩ := Option.bind_eq_some_iff.1 h1
    obtain ⟨y0, y1, n, hy, hyl, k0, k1⟩ := trod_struct2 Tryz.underlying372 hte
    obtain ⟨z, e0, r0, _⟩ := DataW.trod_int Tryz.underlying3 k0
    obtain ⟨s, e1, r1, _⟩ := DataW.trod_string Tryz.underlying9 k1
    subst r0 r1
    have hb1 : b.1 = .agg [.lit (.int .i64 r.1), .lit (.string r.2)] := by
      have := congrArg (·[i]?) eE
      simp [hb, hr] at this
      exact this.symm
    rw [hy] at hb1
    injection hb1 with hb1
    injection hb1 with q0 hb1
    injection hb1 with q1 _
    have z0 := lit_u q0
    have z1 := str_inj q1
    obtain ⟨_, _, hcc⟩ := World.cells?_some hce
    have h0 := hcc 0 (by omega)
    have h1 := hcc 1 (by omega)
    have hl2 : ce.length = 2 := by omega
    obtain ⟨v0, v1, rfl⟩ : ∃ v0 v1, ce = [v0, v1] := by
      rcases ce with _ | ⟨v0, _ | ⟨v1, _ | ⟨v2, r⟩⟩⟩ <;> simp at hl2
      exact ⟨v0, v1, rfl⟩
    simp [ci, cstr] at e0 e1
    subst e0 e1
    rw [show (a.add (i * 2)).add 0 = a.add (i * 2) by simp [Addr.add]] at h0
    refine ⟨by rw [h0, ← z0]; rfl, ?_⟩
    rw [h1, ← z1]
    rfl
  obtain ⟨R, o, sR⟩ := a
  have hrow : ∀ k, 1 ≤ k → k ≤ 60 → Go.Pinned.cheatRows[k]? = some (chD k, chC k) := by
    intro k k1 k2
    have h1 := List.all_eq_true.1 cheat_rows.2 (k - 1) (List.mem_range.2 (by omega))
    rw [show k - 1 + 1 = k by omega] at h1
    exact of_decide_eq_true h1
  obtain rfl : sR = none := by
    have h00 := (hcell 0 (by omega) _ (List.getElem?_eq_getElem (by omega))).1
    have : (Addr.add ⟨R, o, sR⟩ (0 * 2)) = ⟨R, o, sR⟩ := by simp [Addr.add]
    rw [this] at h00
    exact Go.Proofs.cell_spot h00
  refine ⟨R, o, ?_, fun k k1 k2 => ?_⟩
  · rw [World.var?_cell hg' hvar 0, ← Array.getElem?_toList, hcs]
    rfl
  · have := hcell k (by omega) _ (hrow k k1 k2)
    rw [Addr.add_lit, Addr.add_lit] at this
    exact this
end Go.Proofs.YtgekdmjneogdoaaGreatDoor

namespace Go.Proofs.YtgekdmjneogdoaaGreatDoor
open Go.RowKit Go.Lib Go.ChangeShapes Go.WideShapes Go.ChangeAt

theorem slow_of_laid {W : World} (h : laidMet Tryz.prog laidL W) : SlowW W := by
  have r3 := Lib.laidMet.reads h (n := "internal/strconv.float64info") (d := Rows.laid_internal_strconv_float64info) (.tail _ (.tail _ (.tail _ (.head _))))
  have r5 := Lib.laidMet.reads h (n := "internal/strconv.powtab") (d := Rows.laid_internal_strconv_powtab) (.tail _ (.tail _ (.tail _ (.tail _ (.tail _ (.head _))))))
  have r12 := Lib.laidMet.reads h (n := "internal/strconv.leftcheats") (d := Rows.laid_internal_strconv_leftcheats) (.tail _ (.tail _ (.tail _ (.tail _ (.tail _ (.tail _ (.tail _ (.tail _ (.tail _ (.tail _ (.tail _ (.tail _ (.head _)))))))))))))
  have hi := info_tab r3
  exact ⟨cheat_tab r12, powt_tab r5, hi.1, hi.2.1, hi.2.2⟩
end Go.Proofs.YtgekdmjneogdoaaGreatDoor

namespace Go.Proofs.YtgekdmjneogdoaaGreatDoor
open Go.RowKit Go.Lib Go.ChangeShapes Go.WideShapes Go.ChangeAt Go.ChangeMaps

set_option maxRecDepth 100000 in
theorem ordered_lifted (os : Os) (started : os.Started) (H : Type) (enc : TypeId × Value → H) :
    ReturnsInHanded {} Tryz.checked os 6 .any (fun w args => (Rows.orderedSpec.pre enc Tryz.prog Tryz.f6 [] false w args ∧ laidMetH Tryz.prog laidL w) ∧ sizedMet enc Tryz.prog Tryz.f6 (OpenSpec.ofChange Rows.orderedSpec) false w args)
      (Rows.orderedSpec.post enc Tryz.prog Tryz.f6 false true false false) := by
  refine returns_laid (C := Tryz.checked) (X := fun w _ => laidMetH Tryz.prog laidL w) (fun _ _ _ hh h => h.of_heap hh) own started (by kernel_rfl) Tryz.func6
    (ChangeSpec.witness_shaped (enc := enc) (C := Tryz.checked) (os := os) (X := fun w _ => laidMetH Tryz.prog laidL w) false (World.laidAll Tryz.prog os laidL) #[.slice none 0 0, .slice none 0 0, .int .i64 0] 8 (World.laidAll_os _ _ _)
      (start_shaped os _) (by kernel_rfl) (by kernel_rfl) (by kernel_rfl) (start_met os _)) ?_
  intro W base args ds gs before hval0 hW _ hL hsh
  have hval : ∀ (j : Nat) t v, Tryz.f6.params[j]? = some t → args[j]? = some v → Value.okWide Tryz.prog W .any base t v := hval0
  have hW' := hW
  obtain ⟨p, q, hA0, hV, rfl, _, _⟩ := hW
  have hA : DataW.TrodAll enc Tryz.prog W 0 (fun _ => true) true Tryz.f6.params.toList args.toList ds p := hA0
  rw [Tryz.params6] at hA hval
  obtain ⟨v0, v1, v2, d0, d1, d2, p0, p1, p2, rfl, rfl, rfl, h0, h1, h2⟩ := trodAll_three hA
  obtain ⟨rfl, rfl⟩ := trodVars_none hV
  obtain ⟨a0, len, cap, rfl⟩ := okWide_slice Tryz.underlying32 (hval 0 32 v0 rfl rfl)
  obtain ⟨a1, len1, cap1, rfl⟩ := okWide_slice Tryz.underlying32 (hval 1 32 v1 rfl rfl)
  obtain ⟨x2, rfl, rfl, rfl, wx2⟩ := open_int Tryz.underlying3 (hval 2 3 v2 rfl rfl) h2
  simp only [List.append_nil] at hW'
  have hlt0 : ∀ x ∈ p0, x.block < W.heap.size := fun x hx => hW'.lt x (by simp [hx])
  have hlt1 : ∀ x ∈ p1, x.block < W.heap.size := fun x hx => hW'.lt x (by simp [hx])
  have hargs0 : ∀ (W' : World), Below W.heap.size W W' → DataW.Trod enc Tryz.prog W' 0 (fun b => decide (b < W.heap.size)) true 32 (.slice a0 len cap) d0 p0 :=
    fun W' hn => Below.trod laidOut (by kernel_rfl) (of_decide_eq_true (by kernel_rfl)) h0 hn hlt0
  have hargs1 : ∀ (W' : World), Below W.heap.size W W' → DataW.Trod enc Tryz.prog W' 0 (fun b => decide (b < W.heap.size)) true 32 (.slice a1 len1 cap1) d1 p1 :=
    fun W' hn => Below.trod laidOut (by kernel_rfl) (of_decide_eq_true (by kernel_rfl)) h1 hn hlt1
  rw [MakeChecks.laidMetH_plain _ _ _ (by kernel_rfl)] at hL
  have hSl := slow_of_laid hL
  obtain ⟨hT, hC, hG⟩ := tabs_of_laid hL hsh
  obtain ⟨l0, r0, z0, k0⟩ := rdi_of h0
  obtain ⟨l1, r1, z1, k1⟩ := rdi_of h1
  have b2 := wf64 wx2
  refine (ordered_ok _ _ l0 l1 x2 W b2.1 b2.2 r0 r1 z0 z1 k0 k1 hT hC hG halves hSl).mono fun e W' ⟨he, hb⟩ => ?_
  subst he
  have hm : DataW.TrodAll enc Tryz.prog W' 0 (fun b => decide (b < W.heap.size)) true [32, 32, 3] [Value.slice a0 len cap, Value.slice a1 len1 cap1, Value.int IntKind.i64 x2] [d0, d1, DataW.lit (Lit.int IntKind.i64 x2)] (p0 ++ p1) := by
    have h := trodAll_mk3 (hargs0 W' hb) (hargs1 W' hb) (shut_int Tryz.underlying3 wx2)
    simpa only [List.append_nil] using h
  exact ⟨_, rfl, _, _, _, [], p0 ++ p1, [], hW', trodAll_mk1 (shut_bool Tryz.underlying4 _), hm, rfl, hb.frame _, fun h => by cases h⟩

theorem ordered_named : Tryz.pinned.checked.prog.funcNamed Rows.orderedRow.func = some 6 := by kernel_rfl
theorem ordered_inst : Tryz.f6.isInstance Tryz.pinned.checked.prog Rows.orderedRow.origin Rows.orderedRow.targs := of_decide_eq_true (by kernel_rfl)
theorem ordered_wrap : Tryz.f6.isWrapper Tryz.pinned.checked.prog Rows.orderedRow.wrapper Rows.orderedRow.mainSum := by
  unfold Func.isWrapper; first | (rw [if_pos (by decide +kernel)]; kernel_rfl) | (rw [if_neg (by decide +kernel)]; exact ⟨rfl, rfl⟩)
end Go.Proofs.YtgekdmjneogdoaaGreatDoor
