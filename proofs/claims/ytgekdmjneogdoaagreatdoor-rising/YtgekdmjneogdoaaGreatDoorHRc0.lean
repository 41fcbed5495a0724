import Derived.Test.YtgekdmjneogdoaaGreatDoorHFo1
import Derived.Test.YtgekdmjneogdoaaGreatDoorHRs1
namespace Go.Proofs.YtgekdmjneogdoaaGreatDoor
open Go.RowKit Go.Lib Go.ChangeShapes Go.WideShapes Go.ChangeAt Go.ChangeMaps

set_option maxRecDepth 100000 in
theorem rising_lifted (os : Os) (started : os.Started) (H : Type) (enc : TypeId × Value → H) :
    ReturnsInHanded {} Tryz.checked os 11 .any (fun w args => (Rows.risingSpec.pre enc Tryz.prog Tryz.f11 [] false w args ∧ laidMetH Tryz.prog laidL w) ∧ sizedMet enc Tryz.prog Tryz.f11 (OpenSpec.ofChange Rows.risingSpec) false w args)
      (Rows.risingSpec.post enc Tryz.prog Tryz.f11 false true false false) := by
  refine returns_laid (C := Tryz.checked) (X := fun w _ => laidMetH Tryz.prog laidL w) (fun _ _ _ hh h => h.of_heap hh) own started (by kernel_rfl) Tryz.func11
    (ChangeSpec.witness_shaped (enc := enc) (C := Tryz.checked) (os := os) (X := fun w _ => laidMetH Tryz.prog laidL w) false (World.laidAll Tryz.prog os laidL) #[.slice none 0 0, .int .i64 0, .int .i64 0, .int .i64 0] 8 (World.laidAll_os _ _ _)
      (start_shaped os _) (by kernel_rfl) (by kernel_rfl) (by kernel_rfl) (start_met os _)) ?_
  intro W base args ds gs before hval0 hW _ hL hsh
  have hval : ∀ (j : Nat) t v, Tryz.f11.params[j]? = some t → args[j]? = some v → Value.okWide Tryz.prog W .any base t v := hval0
  have hW' := hW
  obtain ⟨p, q, hA0, hV, rfl, _, _⟩ := hW
  have hA : DataW.TrodAll enc Tryz.prog W 0 (fun _ => true) true Tryz.f11.params.toList args.toList ds p := hA0
  rw [Tryz.params11] at hA hval
  obtain ⟨v0, v1, v2, v3, d0, d1, d2, d3, p0, p1, p2, p3, rfl, rfl, rfl, h0, h1, h2, h3⟩ := trodAll_four hA
  obtain ⟨rfl, rfl⟩ := trodVars_none hV
  obtain ⟨a0, len, cap, rfl⟩ := okWide_slice Tryz.underlying47 (hval 0 47 v0 rfl rfl)
  obtain ⟨x1, rfl, rfl, rfl, wx1⟩ := open_int Tryz.underlying3 (hval 1 3 v1 rfl rfl) h1
  obtain ⟨x2, rfl, rfl, rfl, wx2⟩ := open_int Tryz.underlying3 (hval 2 3 v2 rfl rfl) h2
  obtain ⟨x3, rfl, rfl, rfl, wx3⟩ := open_int Tryz.underlying3 (hval 3 3 v3 rfl rfl) h3
  simp only [List.append_nil] at hW'
  have hlt : ∀ x ∈ p0, x.block < W.heap.size := fun x hx => by simpa using hW'.lt x hx
  have hargs : ∀ (W' : World), Below W.heap.size W W' → DataW.Trod enc Tryz.prog W' 0 (fun b => decide (b < W.heap.size)) true 47 (.slice a0 len cap) d0 p0 :=
    fun W' hn => Below.trod laidOut (by kernel_rfl) (of_decide_eq_true (by kernel_rfl)) h0 hn hlt
  rw [MakeChecks.laidMetH_plain _ _ _ (by kernel_rfl)] at hL
  obtain ⟨hT, hC, hG⟩ := tabs_of_laid hL hsh
  obtain ⟨l, hz, hzb, hzl, hzm⟩ := rdu_of h0
  have b1 := wf64 wx1
  have b2 := wf64 wx2
  have b3 := wf64 wx3
  refine (rising_ok _ l x1 x2 x3 W b1.1 b1.2 b2.1 b2.2 b3.1 b3.2 hz hzb (by omega) hT hC hG halves).mono fun e W' ⟨he, hb⟩ => ?_
  subst he
  have hm : DataW.TrodAll enc Tryz.prog W' 0 (fun b => decide (b < W.heap.size)) true [47, 3, 3, 3] [Value.slice a0 len cap, Value.int IntKind.i64 x1, Value.int IntKind.i64 x2, Value.int IntKind.i64 x3] [d0, DataW.lit (Lit.int IntKind.i64 x1), DataW.lit (Lit.int IntKind.i64 x2), DataW.lit (Lit.int IntKind.i64 x3)] p0 := by
    have h := trodAll_mk4 (hargs W' hb) (shut_int Tryz.underlying3 wx1) (shut_int Tryz.underlying3 wx2) (shut_int Tryz.underlying3 wx3)
    simpa only [List.append_nil] using h
  exact ⟨_, rfl, _, _, _, [], p0, [], hW', trodAll_mk1 (shut_bool Tryz.underlying4 _), hm, rfl, hb.frame _, fun h => by cases h⟩

theorem rising_named : Tryz.pinned.checked.prog.funcNamed Rows.risingRow.func = some 11 := by kernel_rfl
theorem rising_inst : Tryz.f11.isInstance Tryz.pinned.checked.prog Rows.risingRow.origin Rows.risingRow.targs := of_decide_eq_true (by kernel_rfl)
theorem rising_wrap : Tryz.f11.isWrapper Tryz.pinned.checked.prog Rows.risingRow.wrapper Rows.risingRow.mainSum := by
  unfold Func.isWrapper; first | (rw [if_pos (by decide +kernel)]; kernel_rfl) | (rw [if_neg (by decide +kernel)]; exact ⟨rfl, rfl⟩)
end Go.Proofs.YtgekdmjneogdoaaGreatDoor
