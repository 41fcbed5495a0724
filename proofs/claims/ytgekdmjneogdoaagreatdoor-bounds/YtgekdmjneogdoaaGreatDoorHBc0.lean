import Derived.Test.YtgekdmjneogdoaaGreatDoorHBd6
import Derived.Test.YtgekdmjneogdoaaGreatDoorHFo1
namespace Go.Proofs.YtgekdmjneogdoaaGreatDoor
open Go.RowKit Go.Lib Go.ChangeShapes Go.WideShapes Go.ChangeAt Go.ChangeMaps

set_option maxRecDepth 100000 in
theorem bounds_lifted (os : Os) (started : os.Started) (H : Type) (enc : TypeId × Value → H) :
    ReturnsInHanded {} Tryz.checked os 10 .any (fun w args => (Rows.boundsSpec.pre enc Tryz.prog Tryz.f10 [] false w args ∧ laidMetH Tryz.prog laidL w) ∧ sizedMet enc Tryz.prog Tryz.f10 (OpenSpec.ofChange Rows.boundsSpec) false w args)
      (Rows.boundsSpec.post enc Tryz.prog Tryz.f10 false true false false) := by
  refine returns_laid (C := Tryz.checked) (X := fun w _ => laidMetH Tryz.prog laidL w) (fun _ _ _ hh h => h.of_heap hh) own started (by kernel_rfl) Tryz.func10
    (ChangeSpec.witness_shaped (enc := enc) (C := Tryz.checked) (os := os) (X := fun w _ => laidMetH Tryz.prog laidL w) false (World.laidAll Tryz.prog os laidL) #[.slice none 0 0, .int .i64 0, .int .i64 0] 8 (World.laidAll_os _ _ _)
      (start_shaped os _) (by kernel_rfl) (by kernel_rfl) (by kernel_rfl) (start_met os _)) ?_
  intro W base args ds gs before hval0 hW _ hL hsh
  have hval : ∀ (j : Nat) t v, Tryz.f10.params[j]? = some t → args[j]? = some v → Value.okWide Tryz.prog W .any base t v := hval0
  have hW' := hW
  obtain ⟨p, q, hA0, hV, rfl, _, _⟩ := hW
  have hA : DataW.TrodAll enc Tryz.prog W 0 (fun _ => true) true Tryz.f10.params.toList args.toList ds p := hA0
  rw [Tryz.params10] at hA hval
  obtain ⟨v0, v1, v2, d0, d1, d2, p0, p1, p2, rfl, rfl, rfl, h0, h1, h2⟩ := trodAll_three hA
  obtain ⟨rfl, rfl⟩ := trodVars_none hV
  obtain ⟨a0, len, cap, rfl⟩ := okWide_slice Tryz.underlying47 (hval 0 47 v0 rfl rfl)
  obtain ⟨x1, rfl, rfl, rfl, wx1⟩ := open_int Tryz.underlying3 (hval 1 3 v1 rfl rfl) h1
  obtain ⟨x2, rfl, rfl, rfl, wx2⟩ := open_int Tryz.underlying3 (hval 2 3 v2 rfl rfl) h2
  simp only [List.append_nil] at hW'
  have hlt : ∀ x ∈ p0, x.block < W.heap.size := fun x hx => by simpa using hW'.lt x hx
  have hargs : ∀ (W' : World), Below W.heap.size W W' → DataW.Trod enc Tryz.prog W' 0 (fun b => decide (b < W.heap.size)) true 47 (.slice a0 len cap) d0 p0 :=
    fun W' hn => Below.trod laidOut (by kernel_rfl) (of_decide_eq_true (by kernel_rfl)) h0 hn hlt
  rw [MakeChecks.laidMetH_plain _ _ _ (by kernel_rfl)] at hL
  obtain ⟨hT, hC, hG⟩ := tabs_of_laid hL hsh
  obtain ⟨l, hz, hzb, hzl, hzm⟩ := rdu_of h0
  have b1 := wf64 wx1
  have b2 := wf64 wx2
  refine (bounds_ok _ l x1 x2 W b1.1 b1.2 b2.1 b2.2 hz hzb (by omega) hT hC hG halves).mono fun e W' ⟨he, hb⟩ => ?_
  subst he
  have hm : DataW.TrodAll enc Tryz.prog W' 0 (fun b => decide (b < W.heap.size)) true [47, 3, 3] [Value.slice a0 len cap, Value.int IntKind.i64 x1, Value.int IntKind.i64 x2] [d0, DataW.lit (Lit.int IntKind.i64 x1), DataW.lit (Lit.int IntKind.i64 x2)] p0 := by
    have h := trodAll_mk3 (hargs W' hb) (shut_int Tryz.underlying3 wx1) (shut_int Tryz.underlying3 wx2)
    simpa only [List.append_nil] using h
  exact ⟨_, rfl, _, _, _, [], p0, [], hW', trodAll_mk1 (shut_bool Tryz.underlying4 _), hm, rfl, hb.frame _, fun h => by cases h⟩

theorem bounds_named : Tryz.pinned.checked.prog.funcNamed Rows.boundsRow.func = some 10 := by kernel_rfl
theorem bounds_inst : Tryz.f10.isInstance Tryz.pinned.checked.prog Rows.boundsRow.origin Rows.boundsRow.targs := of_decide_eq_true (by kernel_rfl)
theorem bounds_wrap : Tryz.f10.isWrapper Tryz.pinned.checked.prog Rows.boundsRow.wrapper Rows.boundsRow.mainSum := by
  unfold Func.isWrapper; first | (rw [if_pos (by decide +kernel)]; kernel_rfl) | (rw [if_neg (by decide +kernel)]; exact ⟨rfl, rfl⟩)
end Go.Proofs.YtgekdmjneogdoaaGreatDoor
