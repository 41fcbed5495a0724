import Derived.Test.YtgekdmjneogdoaaGreatDoorZJn3
import Derived.Test.YtgekdmjneogdoaaGreatDoorZLw
import Derived.ChangeSlices
import Derived.Carry
namespace Go.Proofs.YtgekdmjneogdoaaGreatDoor
open Go.RowKit Go.Lib Go.ChangeShapes Go.WideShapes Go.ChangeAt Go.ChangeMaps

theorem list9 {cs : List Value} (h : cs.length = 9) : ∃ c0 c1 c2 c3 c4 c5 c6 c7 c8, cs = [c0, c1, c2, c3, c4, c5, c6, c7, c8] := by
  match cs, h with
  | [c0, c1, c2, c3, c4, c5, c6, c7, c8], _ => exact ⟨c0, c1, c2, c3, c4, c5, c6, c7, c8, rfl⟩

theorem size3 : Tryz.prog.cellsOf 3 = 1 := by kernel_rfl
theorem size9 : Tryz.prog.cellsOf 9 = 1 := by kernel_rfl
theorem size25 : Tryz.prog.cellsOf 25 = 1 := by kernel_rfl
theorem sizeLL : Tryz.prog.cellsOf 74 = 1 := by kernel_rfl
theorem sizeOp : Tryz.prog.cellsOf 76 = 9 := by kernel_rfl

/-- one step that came in -/
theorem op_of {H : Type} {enc : TypeId × Value → H} {W : World} {base : Nat} {sp : Nat → Bool} {held : Bool} {n : Nat} {cs : List Value} {y : DataW H × List MemPlace} (h : DataW.trod enc Tryz.prog W base sp held n 76 cs = some y) :
    ∃ p : OpR, p.good ∧ (∃ a l c, p.Lv = .slice a l c) ∧ cs = [.int .i64 p.kd, .int .i64 p.wn, .int .i64 p.A, .int .i64 p.B, .int .i64 p.Cc, .string p.S, .int .u64 p.V, .int .u64 p.U, p.Lv] := by
  obtain ⟨xs, m, rfl, rfl, hlen, hxl, hf⟩ := DataW.trod_struct Tryz.underlying76 h
  obtain ⟨c0, c1, c2, c3, c4, c5, c6, c7, c8, rfl⟩ := list9 (hlen.trans sizeOp)
  have hx9 : xs.length = 9 := hxl
  have g : ∀ i, i < 9 → ∃ x, xs[i]? = some x := fun i hi => ⟨_, List.getElem?_eq_getElem (by omega)⟩
  have f0 : DataW.trod enc Tryz.prog W base sp held m 3 (([c0, c1, c2, c3, c4, c5, c6, c7, c8].drop 0).take (Tryz.prog.cellsOf 3)) = xs[0]? := hf 0 _ rfl
  rw [size3] at f0
  have f0 : DataW.trod enc Tryz.prog W base sp held m 3 [c0] = xs[0]? := f0
  have f1 : DataW.trod enc Tryz.prog W base sp held m 3 (([c0, c1, c2, c3, c4, c5, c6, c7, c8].drop 1).take (Tryz.prog.cellsOf 3)) = xs[1]? := hf 1 _ rfl
  rw [size3] at f1
  have f1 : DataW.trod enc Tryz.prog W base sp held m 3 [c1] = xs[1]? := f1
  have f2 : DataW.trod enc Tryz.prog W base sp held m 3 (([c0, c1, c2, c3, c4, c5, c6, c7, c8].drop 2).take (Tryz.prog.cellsOf 3)) = xs[2]? := hf 2 _ rfl
  rw [size3] at f2
  have f2 : DataW.trod enc Tryz.prog W base sp held m 3 [c2] = xs[2]? := f2
  have f3 : DataW.trod enc Tryz.prog W base sp held m 3 (([c0, c1, c2, c3, c4, c5, c6, c7, c8].drop 3).take (Tryz.prog.cellsOf 3)) = xs[3]? := hf 3 _ rfl
  rw [size3] at f3
  have f3 : DataW.trod enc Tryz.prog W base sp held m 3 [c3] = xs[3]? := f3
  have f4 : DataW.trod enc Tryz.prog W base sp held m 3 (([c0, c1, c2, c3, c4, c5, c6, c7, c8].drop 4).take (Tryz.prog.cellsOf 3)) = xs[4]? := hf 4 _ rfl
  rw [size3] at f4
  have f4 : DataW.trod enc Tryz.prog W base sp held m 3 [c4] = xs[4]? := f4
  have f5 : DataW.trod enc Tryz.prog W base sp held m 9 (([c0, c1, c2, c3, c4, c5, c6, c7, c8].drop 5).take (Tryz.prog.cellsOf 9)) = xs[5]? := hf 5 _ rfl
  rw [size9] at f5
  have f5 : DataW.trod enc Tryz.prog W base sp held m 9 [c5] = xs[5]? := f5
  have f6 : DataW.trod enc Tryz.prog W base sp held m 25 (([c0, c1, c2, c3, c4, c5, c6, c7, c8].drop 6).take (Tryz.prog.cellsOf 25)) = xs[6]? := hf 6 _ rfl
  rw [size25] at f6
  have f6 : DataW.trod enc Tryz.prog W base sp held m 25 [c6] = xs[6]? := f6
  have f7 : DataW.trod enc Tryz.prog W base sp held m 25 (([c0, c1, c2, c3, c4, c5, c6, c7, c8].drop 7).take (Tryz.prog.cellsOf 25)) = xs[7]? := hf 7 _ rfl
  rw [size25] at f7
  have f7 : DataW.trod enc Tryz.prog W base sp held m 25 [c7] = xs[7]? := f7
  have f8 : DataW.trod enc Tryz.prog W base sp held m 74 (([c0, c1, c2, c3, c4, c5, c6, c7, c8].drop 8).take (Tryz.prog.cellsOf 74)) = xs[8]? := hf 8 _ rfl
  rw [sizeLL] at f8
  have f8 : DataW.trod enc Tryz.prog W base sp held m 74 [c8] = xs[8]? := f8
  obtain ⟨x0, q0⟩ := g 0 (by omega)
  obtain ⟨x1, q1⟩ := g 1 (by omega)
  obtain ⟨x2, q2⟩ := g 2 (by omega)
  obtain ⟨x3, q3⟩ := g 3 (by omega)
  obtain ⟨x4, q4⟩ := g 4 (by omega)
  obtain ⟨x5, q5⟩ := g 5 (by omega)
  obtain ⟨x6, q6⟩ := g 6 (by omega)
  obtain ⟨x7, q7⟩ := g 7 (by omega)
  obtain ⟨x8, q8⟩ := g 8 (by omega)
  obtain ⟨z0, e0, _, w0⟩ := DataW.trod_int Tryz.underlying3 (f0.trans q0)
  obtain ⟨z1, e1, _, w1⟩ := DataW.trod_int Tryz.underlying3 (f1.trans q1)
  obtain ⟨z2, e2, _, _⟩ := DataW.trod_int Tryz.underlying3 (f2.trans q2)
  obtain ⟨z3, e3, _, _⟩ := DataW.trod_int Tryz.underlying3 (f3.trans q3)
  obtain ⟨z4, e4, _, _⟩ := DataW.trod_int Tryz.underlying3 (f4.trans q4)
  obtain ⟨s5, e5, _, _⟩ := DataW.trod_string Tryz.underlying9 (f5.trans q5)
  obtain ⟨z6, e6, _, w6⟩ := DataW.trod_int Tryz.underlying25 (f6.trans q6)
  obtain ⟨z7, e7, _, w7⟩ := DataW.trod_int Tryz.underlying25 (f7.trans q7)
  obtain ⟨v6, rfl, l6⟩ := wfu64 w6
  obtain ⟨v7, rfl, l7⟩ := wfu64 w7
  have b0 := wf64 w0
  have b1 := wf64 w1
  have hL : ∃ a l c, c8 = .slice a l c := by
    rcases DataW.trod_slice Tryz.underlying74 (f8.trans q8) with ⟨e, _⟩ | ⟨a, l, c, _, _, _, _, e, _⟩
    · exact ⟨_, _, _, by simpa using e⟩
    · exact ⟨_, _, _, by simpa using e⟩
  simp only [List.cons.injEq, and_true] at e0 e1 e2 e3 e4 e5 e6 e7
  subst e0 e1 e2 e3 e4 e5 e6 e7
  exact ⟨⟨z0, z1, z2, z3, z4, s5, v6, v7, c8⟩, ⟨b0.1, b0.2, b1.1, b1.2, l6⟩, hL, rfl⟩
end Go.Proofs.YtgekdmjneogdoaaGreatDoor

namespace Go.Proofs.YtgekdmjneogdoaaGreatDoor
open Go.RowKit Go.Lib Go.ChangeShapes Go.WideShapes Go.ChangeAt Go.ChangeMaps

/-- a script that came in -/
theorem rdo_of {H : Type} {enc : TypeId × Value → H} {W : World} {a0 : Option Addr} {len cap : Nat} {d : DataW H} {p : List MemPlace} (h : DataW.Trod enc Tryz.prog W 0 (fun _ => true) true 22 (.slice a0 len cap) d p) :
    ∃ os : List OpR, RdO (Under W) W (.slice a0 len cap) os ∧ (∀ q ∈ os, q.good) ∧ os.length = len ∧ (len = 0 ∨ ∃ el re, d = .slice el re ∧ el.length = len) := by
  obtain ⟨fuel, hf⟩ := h
  rcases DataW.trod_slice Tryz.underlying22 hf with ⟨hcs, _⟩ | ⟨a, l, c, elems, rest, n, _, hcs, hx, _, h1, h2, h3, h4, _, _⟩
  · simp [Value.cells] at hcs
    obtain ⟨rfl, rfl, rfl⟩ := hcs
    exact ⟨[], ⟨none, 0, rfl, by simp, fun h => by simp at h⟩, by simp, rfl, Or.inl rfl⟩
  · simp [Value.cells] at hcs
    obtain ⟨rfl, rfl, rfl⟩ := hcs
    have hex : ∀ i, i < len → ∃ q : OpR, q.good ∧ (∃ a l c, q.Lv = .slice a l c) ∧ ∀ k, k < 9 → W.cell? ((a.add (i * 9)).add k) = [.int .i64 q.kd, .int .i64 q.wn, .int .i64 q.A, .int .i64 q.B, .int .i64 q.Cc, .string q.S, .int .u64 q.V, .int .u64 q.U, q.Lv][k]? := by
      intro i hi
      have h5 := h4 i hi
      rw [sizeOp, List.getElem?_eq_getElem (by omega), Option.bind_eq_some_iff] at h5
      obtain ⟨cs, hc, ht⟩ := h5
      obtain ⟨q, hq, hL, rfl⟩ := op_of ht
      obtain ⟨_, _, hcell⟩ := World.cells?_some hc
      exact ⟨q, hq, hL, hcell⟩
    let f : Nat → OpR := fun i => if h : i < len then Classical.choose (hex i h) else ⟨0, 0, 0, 0, 0, ByteArray.empty, 0, 0, .bool true⟩
    have hfs : ∀ i (hi : i < len), f i = Classical.choose (hex i hi) := fun i hi => by
      show (if h : i < len then Classical.choose (hex i h) else _) = _
      rw [dif_pos hi]
    have hl : ((List.range len).map f).length = len := by simp
    refine ⟨(List.range len).map f, ⟨some a, cap, by rw [hl], by rw [hl]; exact h1, fun h0 => ?_⟩, fun q hq => ?_, hl, Or.inr ⟨_, _, (Prod.mk.inj hx).1, by rw [List.length_map]; exact h3⟩⟩
    · rw [hl] at h0
      obtain ⟨R, o, sR⟩ := a
      have h00 := (Classical.choose_spec (hex 0 h0)).2.2 0 (by omega)
      have e0 : (Addr.add (Addr.add ⟨R, o, sR⟩ (0 * 9)) 0) = ⟨R, o, sR⟩ := by simp [Addr.add]
      rw [e0] at h00
      obtain rfl : sR = none := Go.Proofs.cell_spot h00
      refine ⟨R, o, lt_of_cell h00, rfl, fun j q hj => ?_⟩
      have hjl : j < len := by
        have := (List.getElem?_eq_some_iff.1 hj).1
        rw [hl] at this; exact this
      have hq : q = Classical.choose (hex j hjl) := by
        rw [← hfs j hjl]
        simp [hjl] at hj
        exact hj.symm
      obtain ⟨_, hL, hc⟩ := Classical.choose_spec (hex j hjl)
      rw [← hq] at hL hc
      have g : ∀ k, Addr.add (Addr.add ⟨R, o, none⟩ (j * 9)) k = ⟨R, o + j * 9 + k, none⟩ := fun k => by rw [Addr.add_lit, Addr.add_lit]
      exact ⟨(g 0) ▸ hc 0 (by omega), (g 1) ▸ hc 1 (by omega), (g 2) ▸ hc 2 (by omega), (g 3) ▸ hc 3 (by omega), (g 4) ▸ hc 4 (by omega), (g 5) ▸ hc 5 (by omega), (g 6) ▸ hc 6 (by omega), (g 7) ▸ hc 7 (by omega), (g 8) ▸ hc 8 (by omega), hL⟩
    · obtain ⟨i, hi, rfl⟩ := List.mem_map.1 hq
      have hil := List.mem_range.1 hi
      rw [hfs i hil]
      exact (Classical.choose_spec (hex i hil)).1

theorem bytesOp : Tryz.prog.bytesOf 76 = 96 := by kernel_rfl

set_option maxRecDepth 100000 in
theorem meters_lifted (os : Os) (started : os.Started) (H : Type) (enc : TypeId × Value → H) :
    ReturnsInHanded {} Tryz.checked os 4 .any (fun w args => (Rows.metersSpec.pre enc Tryz.prog Tryz.f4 [] false w args ∧ laidMetH Tryz.prog laidL w) ∧ sizedMet enc Tryz.prog Tryz.f4 (OpenSpec.ofChange Rows.metersSpec) false w args)
      (Rows.metersSpec.post enc Tryz.prog Tryz.f4 false true false false) := by
  refine returns_laid (C := Tryz.checked) (X := fun w _ => laidMetH Tryz.prog laidL w) (fun _ _ _ hh h => h.of_heap hh) own started (by kernel_rfl) Tryz.func4
    (ChangeSpec.witness_shaped (enc := enc) (C := Tryz.checked) (os := os) (X := fun w _ => laidMetH Tryz.prog laidL w) false (World.laidAll Tryz.prog os laidL) #[.slice none 0 0] 8 (World.laidAll_os _ _ _)
      (start_shaped os _) (by kernel_rfl) (by kernel_rfl) (by kernel_rfl) (start_met os _)) ?_
  intro W base args ds gs before hval0 hW hsz hL hsh
  have hval : ∀ (j : Nat) t v, Tryz.f4.params[j]? = some t → args[j]? = some v → Value.okWide Tryz.prog W .any base t v := hval0
  have hW' := hW
  obtain ⟨p, q, hA0, hV, rfl, _, _⟩ := hW
  have hA : DataW.TrodAll enc Tryz.prog W 0 (fun _ => true) true Tryz.f4.params.toList args.toList ds p := hA0
  rw [Tryz.params4] at hA hval
  obtain ⟨v0, d0, rfl, rfl, h0⟩ := trodAll_one hA
  obtain ⟨rfl, rfl⟩ := trodVars_none hV
  obtain ⟨a0, len, cap, rfl⟩ := okWide_slice Tryz.underlying22 (hval 0 22 v0 rfl rfl)
  simp only [List.append_nil] at hW'
  have hlt : ∀ x ∈ p, x.block < W.heap.size := fun x hx => by simpa using hW'.lt x hx
  have hargs : ∀ (W' : World), Below W.heap.size W W' → DataW.Trod enc Tryz.prog W' 0 (fun b => decide (b < W.heap.size)) true 22 (.slice a0 len cap) d0 p :=
    fun W' hn => Below.trod laidOut (by kernel_rfl) (of_decide_eq_true (by kernel_rfl)) h0 hn hlt
  obtain ⟨osl, hz, hzg, hzl, hd⟩ := rdo_of h0
  have hlenb : osl.length < 1800000000000 := by
    rw [hzl]
    rcases hd with h | ⟨el, re, rfl, hel⟩
    · omega
    · have hs : ((DataW.weightsEach Tryz.prog [22] [DataW.slice el re]).all fun x => decide (x ≤ reachBytes)) = true := hsz
      unfold DataW.weightsEach DataW.weights at hs
      rw [Tryz.underlying22] at hs
      have h1 := List.all_eq_true.1 hs ((el.length + re.length) * Tryz.prog.bytesOf 76) (by simp)
      have h2 := of_decide_eq_true h1
      rw [bytesOp] at h2
      unfold reachBytes at h2
      omega
  refine (metersLaw_ok _ osl W hz hzg hlenb).mono fun e W' ⟨he, hb⟩ => ?_
  subst he
  exact ⟨_, rfl, _, _, _, [], p, [], hW', trodAll_mk1 (shut_bool Tryz.underlying4 _), trodAll_mk1 (hargs W' hb), rfl, hb.frame _, fun h => by cases h⟩

theorem meters_named : Tryz.pinned.checked.prog.funcNamed Rows.metersRow.func = some 4 := by kernel_rfl
theorem meters_inst : Tryz.f4.isInstance Tryz.pinned.checked.prog Rows.metersRow.origin Rows.metersRow.targs := of_decide_eq_true (by kernel_rfl)
theorem meters_wrap : Tryz.f4.isWrapper Tryz.pinned.checked.prog Rows.metersRow.wrapper Rows.metersRow.mainSum := by
  unfold Func.isWrapper; first | (rw [if_pos (by decide +kernel)]; kernel_rfl) | (rw [if_neg (by decide +kernel)]; exact ⟨rfl, rfl⟩)
end Go.Proofs.YtgekdmjneogdoaaGreatDoor
