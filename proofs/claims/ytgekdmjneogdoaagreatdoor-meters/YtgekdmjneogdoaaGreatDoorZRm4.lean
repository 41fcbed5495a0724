import Derived.Test.YtgekdmjneogdoaaGreatDoorZRm3
namespace Go.Proofs.YtgekdmjneogdoaaGreatDoor
open Go.RowKit Go.Shelf Go.Maps

set_option maxRecDepth 20000 in
set_option maxHeartbeats 1600000 in
theorem refadd_ok {K : Nat → Prop} {w : World} {yb n W C : Nat} {r : Value} {s : RuleS} {l : List Cnt} (h : RMt K w yb n W C r s l) (t v : Nat) (ht : t ≤ 1099511627776) (hv : isNum v) (ho1 : C / W < t / W + n) (ho2 : t / W ≤ C / W) (hl : l.length < 8000000000000) :
    Calls Tryz.prog 121 #[.pointer (some ⟨yb, 0, none⟩), .int .i64 t, .int .u64 v] w fun e w' => e = .returned (.int .i64 0) ∧ (∃ r', RMt K w' yb n W C r' s (l ++ [(t / W, ordI (bucketN v))])) ∧ Kept K w w' := by
  have hnb : numB v = true := by unfold numB; simpa using hv.2
  have HI := hide (refIs_any v hv.1)
  rw [hnb] at HI
  have HB := hide (refbucket_any v hv)
  have HO := hide (reforder_any (bucketN v) (bucketN_lt v hv.1))
  obtain ⟨i0, hi, hz0, hz1, hz2⟩ := info_parts infoC
  have c0 := h.c0
  have c1 := h.c1
  have c2 := h.c2
  have hW := h.hW.1
  have hn8 := h.hn.2
  have hCb := h.hC
  have H := hide h
  have q1 : (t : Int) / (W : Int) = ((t / W : Nat) : Int) := (Int.natCast_ediv t W).symm
  have q2 : (C : Int) / (W : Int) = ((C / W : Nat) : Int) := (Int.natCast_ediv C W).symm
  have q3 : t / W ≤ t := Nat.div_le_self _ _
  have q4 : C / W ≤ C := Nat.div_le_self _ _
  clear h hv hnb
  generalize t / W = tw at *
  generalize C / W = cw at *
  generalize ordI (bucketN v) = O at *
  generalize bucketN v = bv at *
  have hd : decide ((tw : Int) ≤ (cw : Int) - (n : Int)) = false := by simp; omega
  have hd2 : decide (cw < tw) = false := by simp; omega
  go_enter Tryz.func121, Tryz.ntmps121
  go_wp2_with fail
  refine (unhide HI _).mono ?_
  rintro e w1 ⟨rfl, e1⟩
  rw [e1]
  clear e1 w1
  go_wp2_with fail
  go_quiet (fail)
  have HR := hide ((unhide H).drewN nq)
  have HK0 : Hid (Kept K w (w.drewN nq)) := ⟨rfl, rfl, rfl, Nat.le_refl _, fun _ _ => rfl⟩
  clear c0 c1 c2 H
  generalize w.drewN nq = wq at *
  have c0 := (unhide HR).c0
  go_wp2_with fail
  have c3 := (unhide HR).c3
  have f3 := (unhide HR).fr 3
  have hh := (unhide HR).hm
  have hown := (unhide HR).own
  have hps : yb < wq.heap.size := (Array.getElem?_eq_some_iff.1 hh).1
  clear c0
  go_region_law (first
    | (go_simp; go_at_call 175; refine (unhide HB _).mono ?_; rintro e w' ⟨rfl, rfl⟩)
    | (go_simp; go_at_call 174; refine (unhide HO _).mono ?_; rintro e w' ⟨rfl, rfl⟩)
    | (refine step_append_own rfl (.tmp 50) (.tmp 56) 170 rfl 0 241 i0 (.agg #[.int .i64 0, .int .i64 0]) 2 16 Tryz.underlying170 hi hz0 hz1 hz2 rfl (by decide) r _ _ (by simp [Act.eval]) (hown.drew.alloc _) ⟨wq.heap.size, 0, none⟩ 1 1 [.int .i64 tw, .int .i64 O] (by simp [Act.eval]) rfl (cell_two_at _ _ _ _ _ rfl) (by intro u hu; simp at hu; rcases hu with rfl | rfl <;> rfl) (by unfold maxLen; omega) (by omega) (by simp) ?_; intro v' w1 hown' hgrow hat; obtain ⟨g', cp', rfl⟩ := own_form hown'; have hh1 : w1.heap[yb]? = some (.cells (rcells n W C r s) 172 (0, 0)) := (hgrow.block yb (by simp; omega) (fun e => (unhide HR).ne e.symm)).trans ((Below.heap_alloc _ _ yb (by simpa using hps)).trans hh); have d3 : w1.cell? ⟨yb, 3, none⟩ = some r := by { simp [World.cell?, hh1, rcells] }; have k3 : w1.frozen? ⟨yb, 3, none⟩ = false := by { simp [World.frozen?, hh1] }))
  all_goals
    clear c3 f3 d3 k3
    go_wp2_with fail
    go_ret
    have h := unhide HR
    refine ⟨rfl, ⟨.slice (some ⟨g', 0, none⟩) (l.length + 1) cp', ?_, ?_, ?_, h.outy, fun k hk => ?_, h.hW, h.hC, h.hn⟩, ?_⟩
    · rw [heap_setCell_same w1 yb 3 _ _ _ hh1]
      rfl
    · rw [List.length_append, flatC_snoc]
      have hg : w1.grownBy (w1.setCell ⟨yb, 3, none⟩ (.slice (some ⟨g', 0, none⟩) (l.length + 1) cp')) (some yb) := ⟨rfl, rfl, rfl, by simp, fun k _ hne => Below.heap_setCell w1 ⟨yb, 3, none⟩ _ k (fun e => hne (by rw [e]))⟩
      refine hown'.kept hg (Or.inr (fun e => ?_))
      rcases hat with e2 | e2
      · exact h.ne (e2.symm.trans e)
      · rw [e2] at e
        injection e with e
        have : (wq.alloc (.cells #[.int .i64 tw, .int .i64 O] 241)).heap.size = yb := e
        simp at this
        omega
    · intro g hgg hkg
      rcases hat with e2 | e2
      · exact h.out g (e2.symm.trans hgg) hkg
      · rw [e2] at hgg
        injection hgg with hgg
        have h1 := h.lt g hkg
        have h2 : (wq.alloc (.cells #[.int .i64 tw, .int .i64 O] 241)).heap.size = g := hgg
        simp at h2
        omega
    · have h1 := h.lt k hk
      have h2 := hgrow.size
      simp at h2 ⊢
      omega
    · have hkk : Kept K wq ((wq.alloc (.cells #[.int .i64 tw, .int .i64 O] 241)).drew) := ((Kept.refl K wq).alloc h.lt _).drew
      exact ((unhide HK0).trans (hkk.grown h.lt hgrow (fun k e hk => h.out k e hk))).setCell h.outy _
end Go.Proofs.YtgekdmjneogdoaaGreatDoor
