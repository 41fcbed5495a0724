import Derived.Test.YtgekdmjneogdoabGreatDoorCards
import Derived.Test.YtgekdmjneogdoabGreatDoorHKmer
import Derived.Test.YtgekdmjneogdoabGreatDoorHLd1
import Derived.Test.YtgekdmjneogdoabGreatDoorHMg1
import Derived.Test.YtgekdmjneogdoabGreatDoorHMgH
import Derived.Test.YtgekdmjneogdoabGreatDoorHMgL
import Derived.Test.YtgekdmjneogdoabGreatDoorTie
import Derived.ChangeSlices
import Derived.Carry
import Derived.SevenTiedAt
namespace Go.Proofs.YtgekdmjneogdoabGreatDoor
open Go.RowKit Go.Lib Go.ChangeShapes Go.WideShapes Go.ChangeAt Go.ChangeMaps

theorem sizeInt : Tryz.prog.cellsOf 3 = 1 := by kernel_rfl
theorem sizeU64 : Tryz.prog.cellsOf 26 = 1 := by kernel_rfl
theorem sizeSm : Tryz.prog.cellsOf 28 = 2 := by kernel_rfl
theorem sizeSs : Tryz.prog.cellsOf 24 = 1 := by kernel_rfl

theorem list2 {cs : List Value} (h : cs.length = 2) : ∃ c0 c1, cs = [c0, c1] := by
  match cs, h with
  | [c0, c1], _ => exact ⟨c0, c1, rfl⟩

/-- one sample that came in -/
theorem smp_of {H : Type} {enc : TypeId × Value → H} {W : World} {base : Nat} {sp : Nat → Bool} {held : Bool} {n : Nat} {cs : List Value} {y : DataW H × List MemPlace} (h : DataW.trod enc Tryz.prog W base sp held n 28 cs = some y) :
    ∃ s : Smp, (-9223372036854775808 ≤ s.1 ∧ s.1 ≤ 9223372036854775807) ∧ s.2 < 18446744073709551616 ∧ cs = [.int .i64 s.1, .int .u64 s.2] := by
  obtain ⟨xs, m, rfl, rfl, hlen, hxl, hf⟩ := DataW.trod_struct Tryz.underlying28 h
  obtain ⟨c0, c1, rfl⟩ := list2 (hlen.trans sizeSm)
  have hx2 : xs.length = 2 := hxl
  have f0 : DataW.trod enc Tryz.prog W base sp held m 3 (([c0, c1].drop 0).take (Tryz.prog.cellsOf 3)) = xs[0]? := hf 0 _ rfl
  rw [sizeInt] at f0
  have f0 : DataW.trod enc Tryz.prog W base sp held m 3 [c0] = xs[0]? := f0
  have f1 : DataW.trod enc Tryz.prog W base sp held m 26 (([c0, c1].drop 1).take (Tryz.prog.cellsOf 26)) = xs[1]? := hf 1 _ rfl
  rw [sizeU64] at f1
  have f1 : DataW.trod enc Tryz.prog W base sp held m 26 [c1] = xs[1]? := f1
  obtain ⟨z0, e0, _, w0⟩ := DataW.trod_int Tryz.underlying3 (f0.trans (List.getElem?_eq_getElem (by omega)))
  obtain ⟨z1, e1, _, w1⟩ := DataW.trod_int Tryz.underlying26 (f1.trans (List.getElem?_eq_getElem (by omega)))
  obtain ⟨v1, rfl, l1⟩ := wfu64 w1
  simp only [List.cons.injEq, and_true] at e0 e1
  subst e0 e1
  exact ⟨(z0, v1), wf64 w0, l1, rfl⟩

/-- a list of samples that came in -/
theorem rds_of {H : Type} {enc : TypeId × Value → H} {W : World} {base : Nat} {sp : Nat → Bool} {held : Bool} {n : Nat} {cs : List Value} {y : DataW H × List MemPlace} (h : DataW.trod enc Tryz.prog W base sp held n 24 cs = some y) :
    ∃ (v : Value) (l : List Smp), cs = [v] ∧ RdS (Under W) W v l ∧ l.length ≤ 9223372036854775807 ∧ ∀ s ∈ l, -9223372036854775808 ≤ s.1 ∧ s.1 ≤ 9223372036854775807 := by
  rcases DataW.trod_slice Tryz.underlying24 h with ⟨hcs, _⟩ | ⟨a, len, cap, elems, rest, m, _, hcs, _, _, h1, h2, h3, h4, _, _⟩
  · exact ⟨_, [], hcs, ⟨none, 0, rfl, by simp, fun h => by simp at h⟩, by simp, by simp⟩
  · have hex : ∀ i, i < len → ∃ s : Smp, (-9223372036854775808 ≤ s.1 ∧ s.1 ≤ 9223372036854775807) ∧ ∀ k, k < 2 → W.cell? ((a.add (i * 2)).add k) = [Value.int .i64 s.1, .int .u64 s.2][k]? := by
      intro i hi
      have h5 := h4 i hi
      rw [sizeSm, List.getElem?_eq_getElem (by omega), Option.bind_eq_some_iff] at h5
      obtain ⟨cs, hc, ht⟩ := h5
      obtain ⟨s, hs, _, rfl⟩ := smp_of ht
      obtain ⟨_, _, hcell⟩ := World.cells?_some hc
      exact ⟨s, hs, hcell⟩
    let f : Nat → Smp := fun i => if h : i < len then Classical.choose (hex i h) else (0, 0)
    have hfs : ∀ i (hi : i < len), f i = Classical.choose (hex i hi) := fun i hi => by
      show (if h : i < len then Classical.choose (hex i h) else _) = _
      rw [dif_pos hi]
    have hl : ((List.range len).map f).length = len := by simp
    have hm : cap ≤ 9223372036854775807 := by unfold maxLen at h2; omega
    refine ⟨_, (List.range len).map f, hcs, ⟨some a, cap, by rw [hl], by rw [hl]; exact h1, fun h0 => ?_⟩, by rw [hl]; omega, fun s hs => ?_⟩
    · rw [hl] at h0
      obtain ⟨R, o, sR⟩ := a
      have h00 := (Classical.choose_spec (hex 0 h0)).2 0 (by omega)
      have e0 : (Addr.add (Addr.add ⟨R, o, sR⟩ (0 * 2)) 0) = ⟨R, o, sR⟩ := by simp [Addr.add]
      rw [e0] at h00
      obtain rfl : sR = none := Go.Proofs.cell_spot h00
      refine ⟨R, o, lt_of_cell h00, rfl, fun j hj => ?_⟩
      rw [hl] at hj
      have hq : ((List.range len).map f).getD j (0, 0) = Classical.choose (hex j hj) := by
        rw [← hfs j hj]
        simp [hj]
      obtain ⟨_, hc⟩ := Classical.choose_spec (hex j hj)
      rw [← hq] at hc
      have g : ∀ k, Addr.add (Addr.add ⟨R, o, none⟩ (j * 2)) k = ⟨R, o + 2 * j + k, none⟩ := fun k => by rw [Addr.add_lit, Addr.add_lit, Nat.mul_comm j 2]
      exact ⟨(g 0) ▸ hc 0 (by omega), (g 1) ▸ hc 1 (by omega)⟩
    · obtain ⟨i, hi, rfl⟩ := List.mem_map.1 hs
      have hil := List.mem_range.1 hi
      rw [hfs i hil]
      exact (Classical.choose_spec (hex i hil)).1

/-- lists of samples that came in -/
theorem rdl_of {H : Type} {enc : TypeId × Value → H} {W : World} {a0 : Option Addr} {len cap : Nat} {d : DataW H} {p : List MemPlace} (h : DataW.Trod enc Tryz.prog W 0 (fun _ => true) true 22 (.slice a0 len cap) d p) :
    ∃ vs : List (Value × List Smp), RdL (Under W) W (.slice a0 len cap) vs ∧ vs.length = len ∧ len ≤ 9223372036854775807 ∧ ∀ x ∈ vs, x.2.length ≤ 9223372036854775807 ∧ ∀ s ∈ x.2, -9223372036854775808 ≤ s.1 ∧ s.1 ≤ 9223372036854775807 := by
  obtain ⟨fuel, hf⟩ := h
  rcases DataW.trod_slice Tryz.underlying22 hf with ⟨hcs, _⟩ | ⟨a, l, c, elems, rest, n, _, hcs, _, _, h1, h2, h3, h4, _, _⟩
  · simp [Value.cells] at hcs
    obtain ⟨rfl, rfl, rfl⟩ := hcs
    exact ⟨[], ⟨none, 0, rfl, by simp, fun x hx => (by cases hx), fun h => by simp at h⟩, rfl, by omega, fun x hx => (by cases hx)⟩
  · simp [Value.cells] at hcs
    obtain ⟨rfl, rfl, rfl⟩ := hcs
    have hm : cap ≤ 9223372036854775807 := by unfold maxLen at h2; omega
    have hex : ∀ i, i < len → ∃ x : Value × List Smp, RdS (Under W) W x.1 x.2 ∧ (x.2.length ≤ 9223372036854775807 ∧ ∀ s ∈ x.2, -9223372036854775808 ≤ s.1 ∧ s.1 ≤ 9223372036854775807) ∧ W.cell? (a.add (i * 1)) = some x.1 := by
      intro i hi
      have h5 := h4 i hi
      rw [sizeSs, List.getElem?_eq_getElem (by omega), Option.bind_eq_some_iff] at h5
      obtain ⟨cs, hc, ht⟩ := h5
      obtain ⟨v, l, rfl, hr, hl, hb⟩ := rds_of ht
      obtain ⟨_, _, hcell⟩ := World.cells?_some hc
      have h0 := hcell 0 (by omega)
      have e0 : Addr.add (a.add (i * 1)) 0 = a.add (i * 1) := by simp [Addr.add]
      rw [e0] at h0
      exact ⟨(v, l), hr, ⟨hl, hb⟩, h0⟩
    let f : Nat → Value × List Smp := fun i => if h : i < len then Classical.choose (hex i h) else (.slice none 0 0, [])
    have hfs : ∀ i (hi : i < len), f i = Classical.choose (hex i hi) := fun i hi => by
      show (if h : i < len then Classical.choose (hex i h) else _) = _
      rw [dif_pos hi]
    have hl : ((List.range len).map f).length = len := by simp
    have hin : ∀ x ∈ (List.range len).map f, RdS (Under W) W x.1 x.2 ∧ (x.2.length ≤ 9223372036854775807 ∧ ∀ s ∈ x.2, -9223372036854775808 ≤ s.1 ∧ s.1 ≤ 9223372036854775807) := fun x hx => by
      obtain ⟨i, hi, rfl⟩ := List.mem_map.1 hx
      have hil := List.mem_range.1 hi
      rw [hfs i hil]
      exact ⟨(Classical.choose_spec (hex i hil)).1, (Classical.choose_spec (hex i hil)).2.1⟩
    refine ⟨(List.range len).map f, ⟨some a, cap, by rw [hl], by rw [hl]; exact h1, fun x hx => (hin x hx).1, fun h0 => ?_⟩, hl, by omega, fun x hx => (hin x hx).2⟩
    rw [hl] at h0
    obtain ⟨R, o, sR⟩ := a
    obtain ⟨x0, _, _, h00⟩ := hex 0 h0
    have e0 : (Addr.add ⟨R, o, sR⟩ (0 * 1)) = ⟨R, o, sR⟩ := by simp [Addr.add]
    rw [e0] at h00
    obtain rfl : sR = none := Go.Proofs.cell_spot h00
    refine ⟨R, o, lt_of_cell h00, rfl, fun j hj => ?_⟩
    rw [hl] at hj
    have hq : ((List.range len).map f).getD j (.slice none 0 0, []) = Classical.choose (hex j hj) := by
      rw [← hfs j hj]
      simp [hj]
    have hc : W.cell? (Addr.add ⟨R, o, none⟩ (j * 1)) = some (((List.range len).map f).getD j (.slice none 0 0, [])).1 := by
      rw [hq]; exact (Classical.choose_spec (hex j hj)).2.2
    rw [Addr.add_lit, Nat.mul_one] at hc
    exact hc
end Go.Proofs.YtgekdmjneogdoabGreatDoor

namespace Go.Proofs.YtgekdmjneogdoabGreatDoor
open Go.RowKit Go.Lib Go.ChangeShapes Go.WideShapes Go.ChangeAt Go.ChangeMaps

theorem merged_any (v : Value) (vs0 : List (Value × List Smp)) (r : Bool) (w : World) (hv : RdL (Under w) w v vs0) (hvl : vs0.length ≤ 9223372036854775807) (hls : ∀ x ∈ vs0, x.2.length ≤ 9223372036854775807 ∧ ∀ s ∈ x.2, -9223372036854775808 ≤ s.1 ∧ s.1 ≤ 9223372036854775807)
    (hT : Tabs w) (hC : CTabs w) (hG : GK (Under w)) :
    Calls Tryz.prog 3 #[v, .bool r] w fun e w' => e = .returned (.bool true) ∧ Below w.heap.size w w' := by
  rcases Nat.lt_or_ge 6 vs0.length with h | h
  · exact merged_hi v vs0 r w hv hvl hls h hT hC hG halves
  · exact merged_lo v vs0 r w hv hvl hls h hT hC hG halves

set_option maxRecDepth 100000 in
theorem merged_lifted (os : Os) (started : os.Started) (H : Type) (enc : TypeId × Value → H) :
    ReturnsInHanded {} Tryz.checked os 3 .any (fun w args => (Rows.mergedSpec.pre enc Tryz.prog Tryz.f3 [] false w args ∧ laidMetH Tryz.prog laidL w) ∧ sizedMet enc Tryz.prog Tryz.f3 (OpenSpec.ofChange Rows.mergedSpec) false w args)
      (Rows.mergedSpec.post enc Tryz.prog Tryz.f3 false true false false) := by
  refine returns_laid (C := Tryz.checked) (X := fun w _ => laidMetH Tryz.prog laidL w) (fun _ _ _ hh h => h.of_heap hh) own started (by kernel_rfl) Tryz.func3
    (ChangeSpec.witness_shaped (enc := enc) (C := Tryz.checked) (os := os) (X := fun w _ => laidMetH Tryz.prog laidL w) false (World.laidAll Tryz.prog os laidL) #[.slice none 0 0, .bool false] 8 (World.laidAll_os _ _ _)
      (start_shaped os _) (by kernel_rfl) (by kernel_rfl) (by kernel_rfl) (start_met os _)) ?_
  intro W base args ds gs before hval0 hW _ hL hsh
  have hval : ∀ (j : Nat) t v, Tryz.f3.params[j]? = some t → args[j]? = some v → Value.okWide Tryz.prog W .any base t v := hval0
  have hW' := hW
  obtain ⟨p, q, hA0, hV, rfl, _, _⟩ := hW
  have hA : DataW.TrodAll enc Tryz.prog W 0 (fun _ => true) true Tryz.f3.params.toList args.toList ds p := hA0
  rw [Tryz.params3] at hA hval
  obtain ⟨v0, v1, d0, d1, p0, p1, rfl, rfl, rfl, h0, h1⟩ := trodAll_two hA
  obtain ⟨rfl, rfl⟩ := trodVars_none hV
  obtain ⟨a0, len, cap, rfl⟩ := okWide_slice Tryz.underlying22 (hval 0 22 v0 rfl rfl)
  obtain ⟨b, rfl, rfl, rfl⟩ := open_bool Tryz.underlying4 (hval 1 4 v1 rfl rfl) h1
  simp only [List.append_nil] at hW'
  have hlt : ∀ x ∈ p0, x.block < W.heap.size := fun x hx => by simpa using hW'.lt x hx
  have hargs : ∀ (W' : World), Below W.heap.size W W' → DataW.Trod enc Tryz.prog W' 0 (fun b => decide (b < W.heap.size)) true 22 (.slice a0 len cap) d0 p0 :=
    fun W' hn => Below.trod laidOut (by kernel_rfl) (of_decide_eq_true (by kernel_rfl)) h0 hn hlt
  rw [MakeChecks.laidMetH_plain _ _ _ (by kernel_rfl)] at hL
  obtain ⟨hT, hC, hG⟩ := tabs_of_laid hL hsh
  obtain ⟨vs, hz, hzl, hzm, hzb⟩ := rdl_of h0
  refine (merged_any _ vs b W hz (by omega) hzb hT hC hG).mono fun e W' ⟨he, hb⟩ => ?_
  subst he
  exact ⟨_, rfl, _, _, _, [], p0, [], hW', trodAll_mk1 (shut_bool Tryz.underlying4 _), by have h := trodAll_mk2 (hargs W' hb) (shut_bool Tryz.underlying4 b); rw [List.append_nil] at h; exact h, rfl, hb.frame _, fun h => by cases h⟩

theorem merged_named : Tryz.pinned.checked.prog.funcNamed Rows.mergedRow.func = some 3 := by kernel_rfl
theorem merged_inst : Tryz.f3.isInstance Tryz.pinned.checked.prog Rows.mergedRow.origin Rows.mergedRow.targs := of_decide_eq_true (by kernel_rfl)
theorem merged_wrap : Tryz.f3.isWrapper Tryz.pinned.checked.prog Rows.mergedRow.wrapper Rows.mergedRow.mainSum := by
  unfold Func.isWrapper; first | (rw [if_pos (by decide +kernel)]; kernel_rfl) | (rw [if_neg (by decide +kernel)]; exact ⟨rfl, rfl⟩)
end Go.Proofs.YtgekdmjneogdoabGreatDoor

namespace Go.Proofs.YtgekdmjneogdoabGreatDoor
open Go.RowKit Go.Lib Go.ChangeShapes Go.WideShapes Go.ChangeAt Go.ChangeMaps

theorem merged_holds : Rows.MergedSaid :=
  OpenClaim.holds_of_wide 3 Tryz.f3 rfl rfl rfl rfl rfl rfl rfl ⟨rfl, rfl, rfl, rfl, rfl⟩ rfl rfl rfl rfl rfl merged_named Tryz.func3 merged_facts merged_inst merged_wrap
    (fun os started H enc _ => merged_lifted os started H enc)

theorem merged_card : Rows.MergedCardSaid :=
  tied_goes .later true Rows.mergedCard.laidKinds true Rows.mergedCard.stood.harness true merged_holds (by kernel_rfl) merged_row_tie rfl ⟨rfl, rfl⟩ (by kernel_rfl) rfl
    (fun f fn hf hfn => by
      obtain rfl : f = 3 := Option.some.inj ((show Tryz.prog.funcNamed "gauge/gaugekeep.Merged" = some 3 by kernel_rfl).symm.trans hf) |>.symm
      obtain rfl : fn = Tryz.f3 := (Option.some.inj (Tryz.func3.symm.trans hfn)).symm
      exact ⟨by kernel_rfl, fun j t ht => by
        rw [Tryz.params3] at ht
        have hm : t ∈ [22, 4] := by simpa using Array.mem_of_getElem? ht
        have hall : ([22, 4].all fun u => !Tryz.prog.wantsStandIn u) = true := by kernel_rfl
        exact (show Tryz.prog.wantsStandIn t = false by simpa using List.all_eq_true.1 hall t hm)⟩)
    merged_goes
#print axioms merged_card
end Go.Proofs.YtgekdmjneogdoabGreatDoor
