import Derived.Test.YtgekdmjneogdoabGreatDoorHChU3
import Derived.Test.YtgekdmjneogdoabGreatDoorHHp0
import Derived.Test.YtgekdmjneogdoabGreatDoorHMq1
namespace Go.Proofs.YtgekdmjneogdoabGreatDoor
open Go.RowKit Go.Maps

theorem infoQ : (Tryz.prog.info? 100).map (fun i => (i.zero, i.size, i.bytes)) = some (some (.agg #[.slice none 0 0, .int .i64 0]), 2, 32) := by kernel_rfl

abbrev qV (e : QE) : Value := .agg #[e.v, .int .i64 e.p]

theorem flatQ_snoc (es : List QE) (e : QE) : flatQ (es ++ [e]) = flatQ es ++ [e.v, .int .i64 e.p] := by simp [flatQ]

theorem run_assertQ (ga : Option Addr) (ln cp p : Nat) (w : World) : (Instr.typeAssert (.iface 100 (.agg #[.slice ga ln cp, .int .i64 p])) 20 100 false).run Tryz.prog w = .ok (.agg #[.slice ga ln cp, .int .i64 p]) w := by kernel_rfl

set_option maxRecDepth 20000 in
set_option maxHeartbeats 1600000 in
theorem qpush_any {K : Nat → Prop} {w : World} {qb : Nat} {a : Option Addr} {n cap : Nat} {es : List QE} (h : QS K w qb (.slice a n cap) es) (hn : n = es.length) (hn2 : n ≤ 1000) (ga : Option Addr) (ln cp p : Nat) (l : List Smp) (hl : l ≠ []) (hr : RdS K w (.slice ga ln cp) l) :
    Calls Tryz.prog 305 #[.pointer (some ⟨qb, 0, none⟩), .iface 100 (.agg #[.slice ga ln cp, .int .i64 p])] w fun e w' => e = .returned (.tuple #[]) ∧ Kept K w w' ∧ ∃ a' cap', QS K w' qb (.slice a' (n + 1) cap') (es ++ [⟨.slice ga ln cp, l, p⟩]) := by
  obtain ⟨i0, hi, hz0, hz1, hz2⟩ := info_parts infoQ
  have H := hide (And.intro h (And.intro hl hr))
  have hqlt : qb < w.heap.size := (Array.getElem?_eq_some_iff.1 h.hq).1
  have c0 : w.cell? ⟨qb, 0, none⟩ = some (.slice a n cap) := h.cell
  have c0' : w.drew.cell? ⟨qb, 0, none⟩ = some (.slice a n cap) := h.cell
  have HO : Hid (w.drew.ownsRow (qb + 1) 100 2 (.slice a n cap) n (flatQ es)) := by have := h.own; rw [← hn] at this; exact this
  have hta := run_assertQ ga ln cp p
  have HN := hide hn
  clear h hl hr hn
  go_enter Tryz.func305, Tryz.ntmps305
  go_wp2_with fail
  go_region_law (refine step_append_own rfl (.tmp 7) (.tmp 10) 97 rfl (qb + 1) 100 i0 (.agg #[.slice none 0 0, .int .i64 0]) 2 32 Tryz.underlying97 hi hz0 hz1 hz2 rfl (by decide) (.slice a n cap) n (flatQ es) (by simp [Act.eval]) ((unhide HO).alloc _) ⟨w.heap.size, 0, none⟩ 1 1 [.slice ga ln cp, .int .i64 p] (by simp [Act.eval]) rfl (cell_two_at _ _ _ _ _ rfl) (by intro u hu; simp at hu; rcases hu with rfl | rfl <;> rfl) (by unfold maxLen; omega) (by omega) (by simp; omega) ?_; intro v' w1 hown' hgrow hat; obtain ⟨g', cp', rfl⟩ := own_form hown'; have hh1 : w1.heap[qb]? = some (.cells #[.slice a n cap] 97 (0, 0)) := (hgrow.block qb (by simp; omega) (fun e => by have := ((unhide HO).lt qb e.symm).1; omega)).trans ((Below.heap_alloc _ _ qb (by simpa using hqlt)).trans (unhide H).1.hq); have d0 : w1.cell? ⟨qb, 0, none⟩ = some (.slice a n cap) := by { simp [World.cell?, hh1] }; have k0 : w1.frozen? ⟨qb, 0, none⟩ = false := by { simp [World.frozen?, hh1] })
  all_goals
    go_wp2_with fail
    go_end0
    obtain ⟨h, hl, hr⟩ := unhide H
    have hsc : w1.setCell ⟨qb, 0, none⟩ (.slice (some ⟨g', 0, none⟩) (n + 1) cp') = w1.setRow qb #[.slice (some ⟨g', 0, none⟩) (n + 1) cp'] := setCell_eq_setRow w1 qb 0 _ _ _ _ hh1
    have hb : Kept K w (w1.setCell ⟨qb, 0, none⟩ (.slice (some ⟨g', 0, none⟩) (n + 1) cp')) := by
      rw [hsc]
      refine ⟨hgrow.os, hgrow.tape, hgrow.output, ?_, fun k hk => ?_⟩
      · have := hgrow.size; simp at this ⊢; omega
      · obtain ⟨k1, k2, k3⟩ := h.lo k hk
        rw [setRow_other _ _ _ _ k2]
        exact (hgrow.block k (by first | omega | (simp; omega)) (fun e => k3 e.symm)).trans (Below.heap_alloc _ _ k (by first | omega | (simp; omega)))
    have hkp := hb
    refine ⟨rfl, hb, some ⟨g', 0, none⟩, cp', ?_, ?_, fun e he => ?_, fun k hk => ⟨Nat.lt_of_lt_of_le (h.lo k hk).1 hb.size, (h.lo k hk).2.1, fun e => ?_⟩⟩
    · rw [hsc]; exact setRow_heap _ _ _ _ _ _ hh1
    · rw [flatQ_snoc, List.length_append, List.length_singleton, ← unhide HN]
      exact ownsRow_setCell_below hown' (by simp) _
    · rcases List.mem_append.1 he with he | he
      · exact ⟨(h.rd e he).1, (h.rd e he).2.kept hkp⟩
      · rw [List.mem_singleton.1 he]
        exact ⟨hl, hr.kept hkp⟩
    · rcases hat with e2 | e2
      · exact (h.lo k hk).2.2 (e2.symm.trans e)
      · rw [e2] at e
        injection e with e
        have := (h.lo k hk).1
        simp at e
        omega

set_option maxRecDepth 20000 in
set_option maxHeartbeats 1600000 in
theorem qpop_any {K : Nat → Prop} {w : World} {qb : Nat} {a : Option Addr} {n cap : Nat} {es : List QE} (h : QS K w qb (.slice a (n + 1) cap) es) (hn : n + 1 = es.length) (hn2 : n ≤ 1000) :
    Calls Tryz.prog 304 #[.pointer (some ⟨qb, 0, none⟩)] w fun e w' => e = .returned (.iface 100 (qV (atE es n))) ∧ Kept K w w' ∧ QS K w' qb (.slice a n cap) (es.take n) := by
  obtain ⟨g, cap2, hg⟩ := Go.Joins.ownsRow_form h.own (by omega)
  rw [← hn] at hg
  cases hg
  have ho := h.own
  rw [← hn] at ho
  have a0 := (ho.cellAt (n * 2) (by omega)).trans (flatQ_get0 es n (by omega))
  have a1 := (ho.cellAt (n * 2 + 1) (by omega)).trans (flatQ_get1 es n (by omega))
  obtain ⟨hil, hir⟩ := h.at (i := n) (by omega)
  obtain ⟨gi, oi, ci, _, hvi, _, _, _⟩ := rds_first hir hil
  have hqlt : qb < w.heap.size := (Array.getElem?_eq_some_iff.1 h.hq).1
  have hqv : qV (atE es n) = .agg #[.slice (some ⟨gi, oi, none⟩) (atE es n).l.length ci, .int .i64 (atE es n).p] := by rw [← hvi]
  rw [hvi] at a0
  rw [hqv]
  have c0 : w.cell? ⟨qb, 0, none⟩ = some (.slice (some ⟨g, 0, none⟩) (n + 1) cap) := h.cell
  have f0 : w.frozen? ⟨qb, 0, none⟩ = false := by simp [World.frozen?, h.hq]
  have hq1 : ∀ o, (w.alloc o).heap[qb]? = some (.cells #[.slice (some ⟨g, 0, none⟩) (n + 1) cap] 97 (0, 0)) := fun o => (Below.heap_alloc w o qb hqlt).trans h.hq
  have hcn : n ≤ cap := by
    rcases ho.2 with ⟨h', _⟩ | ⟨g', cap', cur, h', _, _, h6, _⟩
    · cases h'
    · cases h'; omega
  have H := hide (And.intro h (And.intro ho hn))
  clear h ho hil hir hvi hqv hn
  generalize (atE es n).l.length = ni at *
  generalize (atE es n).p = pi at *
  go_enter Tryz.func304, Tryz.ntmps304
  go_wp2_with fail
  go_ret
  obtain ⟨h, ho, hn⟩ := unhide H
  generalize hob : (Obj.cells #[Value.slice (some ⟨gi, oi, none⟩) ni ci, Value.int IntKind.i64 (pi : Int)] 100) = ob
  have hsc : w.setCell ⟨qb, 0, none⟩ (.slice (some ⟨g, 0, none⟩) n cap) = w.setRow qb #[.slice (some ⟨g, 0, none⟩) n cap] := setCell_eq_setRow _ qb 0 _ _ _ _ h.hq
  have hz : (w.setRow qb #[.slice (some ⟨g, 0, none⟩) n cap]).heap.size = w.heap.size := by simp
  have hb : Kept K w ((w.setCell ⟨qb, 0, none⟩ (.slice (some ⟨g, 0, none⟩) n cap)).alloc ob) := by
    rw [hsc]
    exact ⟨rfl, rfl, rfl, by simp, fun k hk => (Below.heap_alloc _ ob k (by rw [hz]; exact (h.lo k hk).1)).trans (setRow_other _ _ _ _ (h.lo k hk).2.1)⟩
  have hkp := hb
  have hlt : (es.take n).length = n := by rw [List.length_take]; omega
  refine ⟨rfl, hb, ?_, ?_, fun e he => ⟨(h.rd e (List.mem_of_mem_take he)).1, (h.rd e (List.mem_of_mem_take he)).2.kept hkp⟩, fun k hk => ⟨Nat.lt_of_lt_of_le (h.lo k hk).1 hb.size, (h.lo k hk).2.1, (h.lo k hk).2.2⟩⟩
  · rw [hsc]; exact (Below.heap_alloc _ ob qb (by rw [hz]; exact hqlt)).trans (setRow_heap _ _ _ _ _ _ h.hq)
  · rw [hlt]
    refine (ownsRow_setCell_below ?_ (Nat.lt_succ_self qb) _).alloc ob
    have hsp : flatQ es = flatQ (es.take n) ++ flatQ (es.drop n) := by
      unfold flatQ
      rw [← List.flatMap_append, List.take_append_drop]
    refine ownsRow_pop (last := flatQ (es.drop n)) (by rw [flatQ_length, hlt]) ?_
    rw [← hsp]
    exact ho
end Go.Proofs.YtgekdmjneogdoabGreatDoor

namespace Go.Proofs.YtgekdmjneogdoabGreatDoor
open Go.RowKit Go.Maps

theorem QS.len {K : Nat → Prop} {w : World} {qb : Nat} {a : Option Addr} {n cap : Nat} {es : List QE} (h : QS K w qb (.slice a n cap) es) : n = es.length := by
  rcases h.own.2 with ⟨h1, h2⟩ | ⟨g, c, cur, h1, _⟩
  · cases h1; omega
  · cases h1; rfl

set_option maxRecDepth 20000 in
set_option maxHeartbeats 1600000 in
theorem hpush_any {K : Nat → Prop} {w : World} {qb : Nat} {a : Option Addr} {n cap : Nat} {es : List QE} (h : QS K w qb (.slice a n cap) es) (hn2 : n ≤ 900) (hH : Heap es) (ga : Option Addr) (ln cp p : Nat) (l : List Smp) (hl : l ≠ []) (hr : RdS K w (.slice ga ln cp) l) :
    Calls Tryz.prog 74 #[hI qb, .iface 100 (.agg #[.slice ga ln cp, .int .i64 p])] w fun e w' => e = .returned (.tuple #[]) ∧ Kept K w w' ∧ ∃ a' cap' es', es'.Perm (es ++ [⟨.slice ga ln cp, l, p⟩]) ∧ Heap es' ∧ QS K w' qb (.slice a' (n + 1) cap') es' := by
  have HP := hide (qpush_any h h.len (by omega) ga ln cp p l hl hr)
  have hmp := fun f w => m_push f qb w
  have HN := hide h.len
  have HH := hide hH
  clear h hH hl hr
  go_enter Tryz.func74, Tryz.ntmps74
  go_wp2_with fail
  refine (unhide HP).mono ?_
  rintro e w1 ⟨rfl, hb1, a1, cap1, hs1⟩
  have HS1 := hide hs1
  have hml := fun f => m_len f qb a1 (n + 1) cap1 w1 hs1.cell
  have HB1 := hide hb1
  clear hs1 hb1
  go_wp2_with fail
  refine (len_any a1 (n + 1) cap1 _).mono ?_
  rintro e w2 ⟨rfl, h2⟩
  rw [h2]
  clear h2 w2
  have HU : Hid (Calls Tryz.prog 115 #[hI qb, .int .i64 n] w1 fun e w' => e = .returned (.tuple #[]) ∧ Kept K w1 w' ∧ ∃ es', es'.Perm (es ++ [⟨.slice ga ln cp, l, p⟩]) ∧ Heap es' ∧ QS K w' qb (.slice a1 (n + 1) cap1) es') := by
    refine up_any (unhide HS1) (unhide HS1).len n (by omega) (by omega) ?_
    have hs := UpI.start (f := atE (es ++ [⟨.slice ga ln cp, l, p⟩])) (n := n) (fun i h1 h2 => ?_)
    · exact hs
    · have hL := unhide HN
      have e1 : ∀ k, k < n → atE (es ++ [⟨.slice ga ln cp, l, p⟩]) k = atE es k := fun k hk => by
        unfold atE
        rw [List.getD_eq_getElem?_getD, List.getD_eq_getElem?_getD, List.getElem?_append_left (by omega)]
      rw [e1 _ (by omega), e1 i h2]
      exact unhide HH i h1 (by omega)
  go_wp2_with fail
  refine (unhide HU).mono ?_
  rintro e w3 ⟨rfl, hb3, es', h1, h2, h3⟩
  have HF := hide (And.intro hb3 (And.intro h1 (And.intro h2 h3)))
  clear hb3 h1 h2 h3
  go_wp2_with fail
  go_end0
  obtain ⟨hb3, h1, h2, h3⟩ := unhide HF
  exact ⟨rfl, (unhide HB1).trans hb3, a1, cap1, es', h1, h2, h3⟩

theorem atE_take (es : List QE) (n k : Nat) (h : k < n) : atE (es.take n) k = atE es k := by
  unfold atE
  rw [List.getD_eq_getElem?_getD, List.getD_eq_getElem?_getD, List.getElem?_take_of_lt h]

theorem takeE_snoc (es : List QE) (n : Nat) (h : n + 1 = es.length) : es = es.take n ++ [atE es n] := by
  have h1 : es.take (n + 1) = es := List.take_of_length_le (by omega)
  rw [List.take_add_one] at h1
  have h2 : es[n]? = some (atE es n) := by unfold atE; rw [List.getD_eq_getElem?_getD, List.getElem?_eq_getElem (by omega)]; rfl
  rw [h2] at h1
  exact h1.symm

set_option maxRecDepth 20000 in
set_option maxHeartbeats 1600000 in
theorem hpop_any {K : Nat → Prop} {w : World} {qb : Nat} {a : Option Addr} {n cap : Nat} {es : List QE} (h : QS K w qb (.slice a (n + 1) cap) es) (hn2 : n ≤ 900) (hH : Heap es) :
    Calls Tryz.prog 50 #[hI qb] w fun e w' => e = .returned (.iface 100 (qV (atE es 0))) ∧ Kept K w w' ∧ ∃ es', (atE es 0 :: es').Perm es ∧ Heap es' ∧ QS K w' qb (.slice a n cap) es' := by
  have hml := fun f => m_len f qb a (n + 1) cap w h.cell
  have hms := fun f => m_swap f qb a (n + 1) cap w h.cell
  have hL := h.len
  have HSw := hide (swap_any h 0 n (by omega) (by omega) (by omega))
  have HD : Hid (∀ w', QS K w' qb (.slice a (n + 1) cap) (swapL es 0 n) → Calls Tryz.prog 75 #[hI qb, .int .i64 0, .int .i64 n] w' fun e w'' => (∃ b, e = .returned (.bool b)) ∧ Kept K w' w'' ∧ ∃ es', es'.Perm (swapL es 0 n) ∧ atE es' n = atE (swapL es 0 n) n ∧ HeapF (atE es') n ∧ QS K w'' qb (.slice a (n + 1) cap) es') := fun w' hs => by
    refine down_any hs hs.len n (by omega) (by omega) ?_
    rw [swapL_at es 0 n (by omega) (by omega)]
    have h0 : HeapF (atE es) es.length := hH
    rw [← hL] at h0
    exact DnI.start h0
  have HL := hide hL
  clear h hH hL
  go_enter Tryz.func50, Tryz.ntmps50
  go_wp2_with fail
  refine (len_any a (n + 1) cap _).mono ?_
  rintro e w2 ⟨rfl, h2⟩
  rw [h2]
  clear h2 w2
  go_wp2_with fail
  refine (unhide HSw).mono ?_
  rintro e w1 ⟨rfl, hs1, hb1⟩
  have HS1 := hide hs1
  have HB1 := hide hb1
  clear hs1 hb1
  go_wp2_with fail
  refine (unhide HD w1 (unhide HS1)).mono ?_
  rintro e w2 ⟨⟨b, rfl⟩, hb2, es2, h1, h2, h3, h4⟩
  have HF := hide (And.intro hb2 (And.intro h1 (And.intro h2 (And.intro h3 h4))))
  have HP := hide (qpop_any h4 h4.len (by omega))
  have hmp := fun f w => m_pop f qb w
  clear hb2 h1 h2 h3 h4
  go_wp2_with fail
  refine (unhide HP).mono ?_
  rintro e w3 ⟨rfl, hb3, hs3⟩
  have HG := hide (And.intro hb3 hs3)
  clear hb3 hs3
  go_wp2_with fail
  go_ret
  obtain ⟨hb2, h1, h2, h3, h4⟩ := unhide HF
  obtain ⟨hb3, hs3⟩ := unhide HG
  have hL := unhide HL
  have e0 : atE es2 n = atE es 0 := by rw [h2, swapL_at es 0 n (by omega) (by omega), swapF_j]
  refine ⟨by rw [← e0]; rfl, ((unhide HB1).trans hb2).trans hb3, es2.take n, ?_, ?_, hs3⟩
  · rw [← e0]
    refine List.Perm.trans ?_ (h1.trans (swapL_perm es 0 n (by omega) (by omega)))
    have ht := takeE_snoc es2 n h4.len
    refine List.Perm.trans ?_ (List.Perm.of_eq ht.symm)
    exact (List.perm_append_singleton _ _).symm
  · show HeapF _ _
    have hlt : (es2.take n).length = n := by rw [List.length_take]; have := h4.len; omega
    rw [hlt]
    intro i hi1 hi2
    rw [atE_take _ _ _ hi2, atE_take _ _ _ (by omega)]
    exact h3 i hi1 hi2
end Go.Proofs.YtgekdmjneogdoabGreatDoor

namespace Go.Proofs.YtgekdmjneogdoabGreatDoor
open Go.RowKit Go.Maps

theorem rds_more {K J : Nat → Prop} {w : World} {v : Value} {l : List Smp} (h : RdS K w v l) (hj : ∀ k, K k → J k) : RdS J w v l := by
  obtain ⟨ao, cap, h1, h2, h3⟩ := h
  refine ⟨ao, cap, h1, h2, fun h0 => ?_⟩
  obtain ⟨g, o, h4, h5, h6⟩ := h3 h0
  exact ⟨g, o, hj g h4, h5, h6⟩

theorem QS.alloc {K : Nat → Prop} {w : World} {qb : Nat} {sv : Value} {es : List QE} (h : QS K w qb sv es) (o : Obj) : QS K (w.alloc o) qb sv es :=
  ⟨(Below.heap_alloc w o qb (Array.getElem?_eq_some_iff.1 h.hq).1).trans h.hq, h.own.alloc o, fun e he => ⟨(h.rd e he).1, (h.rd e he).2.kept ((Kept.refl K w).alloc (fun k hk => (h.lo k hk).1) o)⟩, fun k hk => ⟨by have := (h.lo k hk).1; simp; omega, (h.lo k hk).2⟩⟩

/-- one block more to be kept -/
theorem QS.withB {K : Nat → Prop} {w : World} {qb : Nat} {sv : Value} {es : List QE} (h : QS K w qb sv es) (b : Nat) (h1 : b < w.heap.size) (h2 : b ≠ qb) (h3 : sv.ownBlock ≠ some b) : QS (fun k => K k ∨ k = b) w qb sv es :=
  ⟨h.hq, h.own, fun e he => ⟨(h.rd e he).1, rds_more (h.rd e he).2 (fun _ hk => Or.inl hk)⟩, fun k hk => by
    rcases hk with hk | rfl
    · exact h.lo k hk
    · exact ⟨h1, h2, h3⟩⟩

/-- where its own blocks are as they were -/
theorem QS.re {K J : Nat → Prop} {w w' : World} {qb : Nat} {sv : Value} {es : List QE} (h : QS K w qb sv es) (hk : ∀ k, (k = qb ∨ sv.ownBlock = some k) → w'.heap[k]? = w.heap[k]?) (hs : w.heap.size ≤ w'.heap.size) (hj : ∀ k, J k → K k) (hrd : ∀ e ∈ es, RdS J w' e.v e.l) : QS J w' qb sv es := by
  refine ⟨(hk qb (Or.inl rfl)).trans h.hq, ⟨h.own.1, ?_⟩, fun e he => ⟨(h.rd e he).1, hrd e he⟩, fun k hk' => ⟨Nat.lt_of_lt_of_le (h.lo k (hj k hk')).1 hs, (h.lo k (hj k hk')).2⟩⟩
  rcases h.own.2 with h1 | ⟨g, c, cur, h1, h2, h3, h4⟩
  · exact Or.inl h1
  · exact Or.inr ⟨g, c, cur, h1, h2, (hk g (Or.inr (by rw [h1]; rfl))).trans h3, h4⟩

theorem QS.fewer {K J : Nat → Prop} {w : World} {qb : Nat} {sv : Value} {es : List QE} (h : QS K w qb sv es) (hj : ∀ k, J k → K k) (hrd : ∀ e ∈ es, RdS J w e.v e.l) : QS J w qb sv es :=
  ⟨h.hq, h.own, fun e he => ⟨(h.rd e he).1, hrd e he⟩, fun k hk => h.lo k (hj k hk)⟩

/-- a queue waits as long as it has samples -/
def liveE (e : QE) : List QE := if e.l = [] then [] else [e]

set_option maxRecDepth 20000 in
set_option maxHeartbeats 1600000 in
theorem putBack_any {K : Nat → Prop} {w : World} {qb : Nat} {a : Option Addr} {n cap : Nat} {es : List QE} (h : QS K w qb (.slice a n cap) es) (hn2 : n ≤ 900) (hH : Heap es) (ga : Option Addr) (ln cp p : Nat) (l : List Smp) (hr : RdS K w (.slice ga ln cp) l) :
    Calls Tryz.prog 49 #[.pointer (some ⟨qb, 0, none⟩), .agg #[.slice ga ln cp, .int .i64 p]] w fun e w' => e = .returned (.tuple #[]) ∧ Kept K w w' ∧ ∃ a' n' cap' es', n' ≤ n + 1 ∧ es'.Perm (es ++ liveE ⟨.slice ga ln cp, l, p⟩) ∧ Heap es' ∧ QS K w' qb (.slice a' n' cap') es' := by
  have hln : ln = l.length := by obtain ⟨_, _, h1, _⟩ := hr; cases h1; rfl
  have hqlt : qb < w.heap.size := (Array.getElem?_eq_some_iff.1 h.hq).1
  have hB : ∀ o, Kept K w (w.alloc o) := fun o => (Kept.refl K w).alloc (fun k hk => (h.lo k hk).1) o
  have hA : ∀ o, QS K (w.alloc o) qb (.slice a n cap) es := fun o => h.alloc o
  by_cases hl : l = []
  · have hle : liveE ⟨.slice ga ln cp, l, p⟩ = [] := if_pos hl
    rw [hle, List.append_nil]
    have hd : decide (0 < ln) = false := by rw [hln, hl]; rfl
    have hln0 : ln = 0 := by rw [hln, hl]; rfl
    have HA := hide (And.intro hA (And.intro hB hH))
    clear h hr hA hB hH hle hln
    subst hln0
    go_enter Tryz.func49, Tryz.ntmps49
    go_wp2_with fail
    go_end0
    obtain ⟨hA, hB, hH⟩ := unhide HA
    exact ⟨rfl, hB _, a, n, cap, es, by omega, List.Perm.refl _, hH, hA _⟩
  · have hle : liveE ⟨.slice ga ln cp, l, p⟩ = [⟨.slice ga ln cp, l, p⟩] := if_neg hl
    rw [hle]
    have hpos : 0 < ln := by rw [hln]; cases l with | nil => exact absurd rfl hl | cons x r => simp
    have hd : decide (0 < ln) = true := by simp [hpos]
    have HP : Hid (∀ o, Calls Tryz.prog 74 #[hI qb, .iface 100 (.agg #[.slice ga ln cp, .int .i64 p])] (w.alloc o) fun e w' => e = .returned (.tuple #[]) ∧ Kept K (w.alloc o) w' ∧ ∃ a' cap' es', es'.Perm (es ++ [⟨.slice ga ln cp, l, p⟩]) ∧ Heap es' ∧ QS K w' qb (.slice a' (n + 1) cap') es') := fun o =>
      hpush_any (hA o) hn2 hH ga ln cp p l hl (hr.kept (hB o))
    have HB := hide hB
    clear h hr hA hB hH hle hln
    go_enter Tryz.func49, Tryz.ntmps49
    go_wp2_with fail
    refine (unhide HP _).mono ?_
    rintro e w1 ⟨rfl, hb1, a', cap', es', h1, h2, h3⟩
    have HF := hide (And.intro hb1 (And.intro h1 (And.intro h2 h3)))
    clear hb1 h1 h2 h3
    go_wp2_with fail
    go_end0
    obtain ⟨hb1, h1, h2, h3⟩ := unhide HF
    exact ⟨rfl, (unhide HB _).trans hb1, a', n + 1, cap', es', Nat.le_refl _, h1, h2, h3⟩

theorem zero_sample (w : World) : (zeroValue 28).run Tryz.prog w = .ok (.agg #[.int .i64 0, .int .u64 0]) w := by kernel_rfl

theorem atE_mem0 {es : List QE} (h : 0 < es.length) : atE es 0 ∈ es := by
  unfold atE
  rw [List.getD_eq_getElem?_getD, List.getElem?_eq_getElem h]
  exact List.getElem_mem _

/-- what is left of a list behind its first sample -/
theorem rds_tail {K : Nat → Prop} {w : World} {g o cap : Nat} {l : List Smp} (h : RdS K w (.slice (some ⟨g, o, none⟩) l.length cap) l) (hl : l ≠ []) (oa : Option Addr) (hoa : 1 < l.length → oa = some ⟨g, o + 2, none⟩) : RdS K w (.slice oa (l.length - 1) (cap - 1)) l.tail := by
  obtain ⟨ao, c2, h1, h2, h3⟩ := h
  cases h1
  refine ⟨oa, cap - 1, by rw [List.length_tail], by rw [List.length_tail]; omega, fun h0 => ?_⟩
  rw [List.length_tail] at h0
  obtain ⟨g', o', h4, h5, h6⟩ := h3 (by omega)
  cases h5
  refine ⟨g, o + 2, h4, hoa (by omega), fun j hj => ?_⟩
  rw [List.length_tail] at hj
  have := h6 (j + 1) (by omega)
  have e : l.tail.getD j (0, 0) = l.getD (j + 1) (0, 0) := by
    cases l with
    | nil => exact absurd rfl hl
    | cons x r => simp
  rw [e, show o + 2 + 2 * j = o + 2 * (j + 1) by omega]
  exact this

set_option maxRecDepth 20000 in
set_option maxHeartbeats 3200000 in
theorem next_any {K : Nat → Prop} {w : World} {qb : Nat} {a : Option Addr} {n cap : Nat} {es : List QE} (h : QS K w qb (.slice a (n + 1) cap) es) (hn2 : n ≤ 800) (hH : Heap es) :
    Calls Tryz.prog 25 #[.pointer (some ⟨qb, 0, none⟩)] w fun e w' => e = .returned (.agg #[.int .i64 ((atE es 0).l.headD (0, 0)).1, .int .u64 ((atE es 0).l.headD (0, 0)).2]) ∧ Kept K w w' ∧
      ∃ a' n' cap' rest es' e', n' ≤ n + 1 ∧ (atE es 0 :: rest).Perm es ∧ e'.l = (atE es 0).l.tail ∧ e'.p = (atE es 0).p ∧ es'.Perm (rest ++ liveE e') ∧ Heap es' ∧ QS K w' qb (.slice a' n' cap') es' ∧ ∀ J : Nat → Prop, (∀ k, J k → K k) → (∀ e ∈ es, RdS J w e.v e.l) → ∀ e ∈ es', RdS J w' e.v e.l := by
  have hL := h.len
  obtain ⟨hil, hir⟩ := h.at (i := 0) (by omega)
  obtain ⟨gi, oi, ci, hgK, hvi, hci, ht, hv⟩ := rds_first hir hil
  have hqlt : qb < w.heap.size := (Array.getElem?_eq_some_iff.1 h.hq).1
  have hgl : gi < w.heap.size := (h.lo gi hgK).1
  have hqv : qV (atE es 0) = .agg #[.slice (some ⟨gi, oi, none⟩) (atE es 0).l.length ci, .int .i64 (atE es 0).p] := by rw [← hvi]
  obtain ⟨r0, hr0⟩ : ∃ r, r = w.heap.size := ⟨_, rfl⟩
  have hsv : (Value.slice a (n + 1) cap).ownBlock ≠ some r0 := fun e => by have := (h.own.lt r0 e).2; omega
  have hS0 : ∀ o, QS (fun k => K k ∨ k = r0) (w.alloc o) qb (.slice a (n + 1) cap) es := fun o => (h.alloc o).withB r0 (by simp; omega) (by omega) hsv
  have HP := hide (fun o => hpop_any (hS0 o) (by omega) hH)
  rw [hqv] at HP
  have hta := run_assertQ (some ⟨gi, oi, none⟩) (atE es 0).l.length ci (atE es 0).p
  rw [hvi] at hir
  have hA : ∀ o, Kept K w (w.alloc o) := fun o => (Kept.refl K w).alloc (fun k hk => (h.lo k hk).1) o
  have HI := hide (And.intro hir (And.intro hgK (And.intro ht (And.intro hv (And.intro h.lo hA)))))
  have hz := zero_sample
  have hpos : 0 < (atE es 0).l.length := by cases hx : (atE es 0).l with | nil => exact absurd hx hil | cons x r => simp
  have HRD : Hid (∀ e ∈ es, RdS K w e.v e.l) := fun e he => (h.rd e he).2
  have HVI := hide hvi
  have HIN := hide (atE_mem0 (es := es) (by omega))
  have HIL := hide hil
  have HR0 := hide hr0
  clear h hH hA hil hir hvi hqv ht hv hS0 hr0
  generalize hE : atE es 0 = E at *
  obtain ⟨Ev, El, Ep⟩ := E
  simp only at *
  generalize hT : (El.headD (0, 0)).1 = T at *
  generalize hV : (El.headD (0, 0)).2 = V at *
  generalize hnl : El.length = nl at *
  go_enter Tryz.func25, Tryz.ntmps25
  go_wp2_with fail
  refine (unhide HP _).mono ?_
  rintro e w1 ⟨rfl, hb1, es1, hp1, hH1, hs1⟩
  obtain ⟨hir, hgK, ht, hv, hlo, hA⟩ := unhide HI
  rw [← unhide HR0]
  -- the sample, the result's cells, in the world behind Pop
  have ht1 : w1.cell? ⟨gi, oi, none⟩ = some (.int .i64 T) := (hb1.cell (p := ⟨gi, oi, none⟩) (Or.inl hgK)).trans (((hA _).cell (p := ⟨gi, oi, none⟩) hgK).trans ht)
  have hv1 : w1.cell? ⟨gi, oi + 1, none⟩ = some (.int .u64 V) := (hb1.cell (p := ⟨gi, oi + 1, none⟩) (Or.inl hgK)).trans (((hA _).cell (p := ⟨gi, oi + 1, none⟩) hgK).trans hv)
  have hres : w1.heap[r0]? = some (.cells #[.int .i64 0, .int .u64 0] 28 (0, 0)) := (hb1.block r0 (Or.inr rfl)).trans (by rw [unhide HR0]; exact World.alloc_heap_new w _)
  have hgl1 : gi < w1.heap.size := by have := (hs1.lo gi (Or.inl hgK)).1; exact this
  have hir1 : RdS K w1 (.slice (some ⟨gi, oi, none⟩) nl ci) El := by
    have := (hir.kept (hA (.cells #[.int .i64 0, .int .u64 0] 28))).kept (hb1.sub (fun k hk => Or.inl hk))
    exact this
  have HK1 : Hid (Kept K w w1) := (hA _).trans (hb1.sub (fun k hk => Or.inl hk))
  obtain ⟨oa, hoa, hsl⟩ : ∃ oa : Option Addr, (1 < nl → oa = some ⟨gi, oi + 2, none⟩) ∧ oa = if ci = 1 then some ⟨gi, oi, none⟩ else some ⟨gi, oi + 2, none⟩ := ⟨_, fun h => if_neg (by omega), rfl⟩
  have HO := hide hoa
  have hr0s : r0 < w1.heap.size := (Array.getElem?_eq_some_iff.1 hres).1
  have HPB : Hid (∀ o1, Calls Tryz.prog 49 #[.pointer (some ⟨qb, 0, none⟩), .agg #[.slice oa (nl - 1) (ci - 1), .int .i64 Ep]] ((w1.alloc o1).alloc (.cells #[.int .i64 T, .int .u64 V] 28)) fun e w3 => e = .returned (.tuple #[]) ∧
      w3.cell? ⟨w1.heap.size + 1, 0, none⟩ = some (.int .i64 T) ∧ w3.cell? ⟨w1.heap.size + 1, 1, none⟩ = some (.int .u64 V) ∧ w3.heap[r0]? = some (.cells #[.int .i64 0, .int .u64 0] 28 (0, 0)) ∧ Kept K w1 w3 ∧
      ∃ a' n' cap' es', n' ≤ n + 1 ∧ es'.Perm (es1 ++ liveE ⟨.slice oa (nl - 1) (ci - 1), El.tail, Ep⟩) ∧ Heap es' ∧ QS (fun k => K k ∨ k = r0) w3 qb (.slice a' n' cap') es') := fun o1 => by
    have hb := ((hs1.alloc o1).alloc (.cells #[.int .i64 T, .int .u64 V] 28)).withB (w1.heap.size + 1) (by simp) (by have := (Array.getElem?_eq_some_iff.1 hs1.hq).1; omega) (fun e => by have := (hs1.own.lt _ e).2; omega)
    have hkA : Kept K w1 ((w1.alloc o1).alloc (.cells #[.int .i64 T, .int .u64 V] 28)) := ((Kept.refl K w1).alloc (fun k hk => (hs1.lo k (Or.inl hk)).1) _).alloc (fun k hk => (hs1.lo k (Or.inl hk)).1) _
    have hrt : RdS K w1 (.slice oa (nl - 1) (ci - 1)) El.tail := by
      have := rds_tail (l := El) (by rw [hnl]; exact hir1) (unhide HIL) oa (by rw [hnl]; exact hoa)
      rw [hnl] at this
      exact this
    refine (putBack_any hb (by omega) hH1 oa (nl - 1) (ci - 1) Ep El.tail (rds_more (hrt.kept hkA) (fun k hk => Or.inl (Or.inl hk)))).mono ?_
    rintro e w3 ⟨he, hk3, a', n', cap', es', q1, q2, q3, q4⟩
    have hnew : w3.heap[w1.heap.size + 1]? = some (.cells #[.int .i64 T, .int .u64 V] 28 (0, 0)) := (hk3.block _ (Or.inr rfl)).trans (by
      have := World.alloc_heap_new (w1.alloc o1) (.cells #[.int .i64 T, .int .u64 V] 28)
      rw [World.size_alloc] at this
      exact this)
    refine ⟨he, by simp [World.cell?, hnew], by simp [World.cell?, hnew], ?_, hkA.trans (hk3.sub (fun k hk => Or.inl (Or.inl hk))), a', n', cap', es', q1, q2, q3, ?_⟩
    · exact (hk3.block r0 (Or.inl (Or.inr rfl))).trans ((Below.heap_alloc _ _ r0 (by simp; omega)).trans ((Below.heap_alloc w1 o1 r0 hr0s).trans hres))
    · refine ⟨q4.hq, q4.own, fun e' he' => ⟨(q4.rd e' he').1, ?_⟩, fun k hk => q4.lo k (Or.inl hk)⟩
      have hm := q2.mem_iff.1 he'
      rcases List.mem_append.1 hm with hm | hm
      · exact ((hs1.rd e' hm).2.kept (((Kept.refl _ w1).alloc (fun k hk => (hs1.lo k hk).1) _).alloc (fun k hk => (hs1.lo k hk).1) _)).kept (hk3.sub (fun k hk => Or.inl hk))
      · unfold liveE at hm
        split at hm
        · cases hm
        · rw [List.mem_singleton.1 hm]
          exact rds_more ((hrt.kept hkA).kept (hk3.sub (fun k hk => Or.inl (Or.inl hk)))) (fun k hk => Or.inl hk)
  have HW := hide (And.intro hp1 (And.intro hH1 (And.intro hs1 hir1)))
  clear hb1 hp1 hH1 hs1 hres hir1 hir hgK ht hv hA HI HP hoa
  by_cases hc1 : ci = 1
  · rw [if_pos hc1] at hsl
    subst hsl
    subst hc1
    obtain rfl : nl = 1 := by omega
    simp only [Nat.sub_self] at HPB
    go_wp2_with fail
    refine (unhide HPB _).mono ?_
    rintro e w3 ⟨rfl, s0, s1, hr3, hk3, a', n', cap', es', q1, q2, q3, q4⟩
    have rc0 : w3.cell? ⟨r0, 0, none⟩ = some (.int .i64 0) := by simp [World.cell?, hr3]
    have rc1 : w3.cell? ⟨r0, 1, none⟩ = some (.int .u64 0) := by simp [World.cell?, hr3]
    have rf0 : w3.frozen? ⟨r0, 0, none⟩ = false := by simp [World.frozen?, hr3]
    have rf1 : w3.frozen? ⟨r0, 1, none⟩ = false := by simp [World.frozen?, hr3]
    have HF := hide (And.intro hr3 (And.intro hk3 (And.intro q1 (And.intro q2 (And.intro q3 q4)))))
    clear hr3 hk3 q1 q2 q3 q4 HPB
    go_wp2_with fail
    obtain ⟨hr3, hk3, q1, q2, q3, q4⟩ := unhide HF
    obtain ⟨p1, p2, p3, p4⟩ := unhide HW
    have hh1 := heap_setCell_same w3 r0 0 _ 28 (.int .i64 T) hr3
    have hh2 := heap_setCell_same _ r0 1 _ 28 (.int .u64 V) hh1
    have hfin : ((w3.setCell ⟨r0, 0, none⟩ (.int .i64 T)).setCell ⟨r0, 1, none⟩ (.int .u64 V)).heap[r0]? = some (.cells #[.int .i64 T, .int .u64 V] 28 (0, 0)) := by simpa using hh2
    have hoth : ∀ k, k ≠ r0 → ((w3.setCell ⟨r0, 0, none⟩ (.int .i64 T)).setCell ⟨r0, 1, none⟩ (.int .u64 V)).heap[k]? = w3.heap[k]? := fun k hk => by
      rw [heap_setCell_other _ _ k _ hk, heap_setCell_other _ _ k _ hk]
    (try simp only [Exit.inBlock, Exit.then])
    refine bodyPost_ret (results_cell_row rfl _ _ r0 28 #[.int .i64 T, .int .u64 V] (0, 0) _ rfl hfin Tryz.underlying28 rfl (by kernel_rfl)) rfl ?_
    have hnr : ∀ k, K k → k ≠ r0 := fun k hk e => by
      have := (hlo k hk).1
      have h2 := unhide HR0
      omega
    have hkF : Kept K w ((w3.setCell ⟨r0, 0, none⟩ (.int .i64 T)).setCell ⟨r0, 1, none⟩ (.int .u64 V)) := by
      refine ((unhide HK1).trans hk3).trans ⟨rfl, rfl, rfl, by simp, fun k hk => hoth k (hnr k hk)⟩
    have hall : ∀ J : Nat → Prop, (∀ k, J k → K k) → (∀ e ∈ es, RdS J w e.v e.l) → ∀ e ∈ es', RdS J ((w3.setCell ⟨r0, 0, none⟩ (.int .i64 T)).setCell ⟨r0, 1, none⟩ (.int .u64 V)) e.v e.l := fun J hJ hrJ e he => by
      have hm := q2.mem_iff.1 he
      rcases List.mem_append.1 hm with hm | hm
      · exact (hrJ e (p1.mem_iff.1 (List.mem_cons_of_mem _ hm))).kept (hkF.sub hJ)
      · unfold liveE at hm
        split at hm
        · cases hm
        · rw [List.mem_singleton.1 hm]
          have hE := hrJ _ (unhide HIN)
          have hVI := unhide HVI
          simp only at hE hVI
          rw [hVI] at hE
          have hrt := rds_tail (l := El) (by rw [hnl]; exact hE) (unhide HIL) _ (by rw [hnl]; first | exact unhide HO | exact fun _ => rfl)
          rw [hnl] at hrt
          exact hrt.kept (hkF.sub hJ)
    refine ⟨rfl, hkF, a', n', cap', es1, es', _, q1, p1, ?_, ?_, q2, q3, ?_, hall⟩
    · rfl
    · rfl
    · refine q4.re (fun k hk => hoth k (fun e => ?_)) (by simp) (fun k hk => Or.inl hk) (hall K (fun _ hk => hk) (unhide HRD))
      subst e
      rcases hk with hk | hk
      · exact (q4.lo k (Or.inr rfl)).2.1 hk
      · exact (q4.lo k (Or.inr rfl)).2.2 hk
  · rw [if_neg hc1] at hsl
    subst hsl
    go_wp2_with fail
    refine (unhide HPB _).mono ?_
    rintro e w3 ⟨rfl, s0, s1, hr3, hk3, a', n', cap', es', q1, q2, q3, q4⟩
    have rc0 : w3.cell? ⟨r0, 0, none⟩ = some (.int .i64 0) := by simp [World.cell?, hr3]
    have rc1 : w3.cell? ⟨r0, 1, none⟩ = some (.int .u64 0) := by simp [World.cell?, hr3]
    have rf0 : w3.frozen? ⟨r0, 0, none⟩ = false := by simp [World.frozen?, hr3]
    have rf1 : w3.frozen? ⟨r0, 1, none⟩ = false := by simp [World.frozen?, hr3]
    have HF := hide (And.intro hr3 (And.intro hk3 (And.intro q1 (And.intro q2 (And.intro q3 q4)))))
    clear hr3 hk3 q1 q2 q3 q4 HPB
    go_wp2_with fail
    obtain ⟨hr3, hk3, q1, q2, q3, q4⟩ := unhide HF
    obtain ⟨p1, p2, p3, p4⟩ := unhide HW
    have hh1 := heap_setCell_same w3 r0 0 _ 28 (.int .i64 T) hr3
    have hh2 := heap_setCell_same _ r0 1 _ 28 (.int .u64 V) hh1
    have hfin : ((w3.setCell ⟨r0, 0, none⟩ (.int .i64 T)).setCell ⟨r0, 1, none⟩ (.int .u64 V)).heap[r0]? = some (.cells #[.int .i64 T, .int .u64 V] 28 (0, 0)) := by simpa using hh2
    have hoth : ∀ k, k ≠ r0 → ((w3.setCell ⟨r0, 0, none⟩ (.int .i64 T)).setCell ⟨r0, 1, none⟩ (.int .u64 V)).heap[k]? = w3.heap[k]? := fun k hk => by
      rw [heap_setCell_other _ _ k _ hk, heap_setCell_other _ _ k _ hk]
    (try simp only [Exit.inBlock, Exit.then])
    refine bodyPost_ret (results_cell_row rfl _ _ r0 28 #[.int .i64 T, .int .u64 V] (0, 0) _ rfl hfin Tryz.underlying28 rfl (by kernel_rfl)) rfl ?_
    have hnr : ∀ k, K k → k ≠ r0 := fun k hk e => by
      have := (hlo k hk).1
      have h2 := unhide HR0
      omega
    have hkF : Kept K w ((w3.setCell ⟨r0, 0, none⟩ (.int .i64 T)).setCell ⟨r0, 1, none⟩ (.int .u64 V)) := by
      refine ((unhide HK1).trans hk3).trans ⟨rfl, rfl, rfl, by simp, fun k hk => hoth k (hnr k hk)⟩
    have hall : ∀ J : Nat → Prop, (∀ k, J k → K k) → (∀ e ∈ es, RdS J w e.v e.l) → ∀ e ∈ es', RdS J ((w3.setCell ⟨r0, 0, none⟩ (.int .i64 T)).setCell ⟨r0, 1, none⟩ (.int .u64 V)) e.v e.l := fun J hJ hrJ e he => by
      have hm := q2.mem_iff.1 he
      rcases List.mem_append.1 hm with hm | hm
      · exact (hrJ e (p1.mem_iff.1 (List.mem_cons_of_mem _ hm))).kept (hkF.sub hJ)
      · unfold liveE at hm
        split at hm
        · cases hm
        · rw [List.mem_singleton.1 hm]
          have hE := hrJ _ (unhide HIN)
          have hVI := unhide HVI
          simp only at hE hVI
          rw [hVI] at hE
          have hrt := rds_tail (l := El) (by rw [hnl]; exact hE) (unhide HIL) _ (by rw [hnl]; first | exact unhide HO | exact fun _ => rfl)
          rw [hnl] at hrt
          exact hrt.kept (hkF.sub hJ)
    refine ⟨rfl, hkF, a', n', cap', es1, es', _, q1, p1, ?_, ?_, q2, q3, ?_, hall⟩
    · rfl
    · rfl
    · refine q4.re (fun k hk => hoth k (fun e => ?_)) (by simp) (fun k hk => Or.inl hk) (hall K (fun _ hk => hk) (unhide HRD))
      subst e
      rcases hk with hk | hk
      · exact (q4.lo k (Or.inr rfl)).2.1 hk
      · exact (q4.lo k (Or.inr rfl)).2.2 hk
end Go.Proofs.YtgekdmjneogdoabGreatDoor

namespace Go.Proofs.YtgekdmjneogdoabGreatDoor
open Go.RowKit Go.Maps

/-! what a merge is -/
abbrev QP := Nat × List Smp
def liveP (q : QP) : List QP := if q.2 = [] then [] else [q]
def leP (t : Int) (p : Nat) (q : QP) : Prop := t < (q.2.headD (0, 0)).1 ∨ (t = (q.2.headD (0, 0)).1 ∧ p ≤ q.1)

def MergeO : List Smp → List QP → Prop
  | [], ps => ps = []
  | x :: out, ps => ∃ (p : Nat) (r : List Smp) (rest : List QP), ps.Perm ((p, x :: r) :: rest) ∧ (∀ q ∈ rest, leP x.1 p q) ∧ MergeO out (rest ++ liveP (p, r))
structure MergeR (ps : List QP) (out : List Smp) : Prop where
  told : MergeO out ps
theorem MergeR.nil : MergeR [] [] := ⟨rfl⟩
theorem MergeR.step (ps : List QP) (p : Nat) (x : Smp) (r : List Smp) (rest : List QP) (out : List Smp) (h1 : ps.Perm ((p, x :: r) :: rest)) (h2 : ∀ q ∈ rest, leP x.1 p q) (h3 : MergeR (rest ++ liveP (p, r)) out) : MergeR ps (x :: out) := ⟨⟨p, r, rest, h1, h2, h3.told⟩⟩
theorem MergeR.ind {motive : (ps : List QP) → (out : List Smp) → MergeR ps out → Prop} (nil : motive [] [] MergeR.nil)
    (step : ∀ (ps : List QP) (p : Nat) (x : Smp) (r : List Smp) (rest : List QP) (out : List Smp) (h1 : ps.Perm ((p, x :: r) :: rest)) (h2 : ∀ q ∈ rest, leP x.1 p q) (h3 : MergeR (rest ++ liveP (p, r)) out), motive _ _ h3 → motive ps (x :: out) (MergeR.step ps p x r rest out h1 h2 h3))
    {ps : List QP} {out : List Smp} (h : MergeR ps out) : motive ps out h := by
  induction out generalizing ps with
  | nil =>
    have h0 : ps = [] := h.told
    subst h0
    exact nil
  | cons x out ih =>
    obtain ⟨p, r, rest, h1, h2, h3⟩ := h.told
    exact step ps p x r rest out h1 h2 ⟨h3⟩ (ih ⟨h3⟩)

theorem MergeR.perm {ps ps' : List QP} {out : List Smp} (h : MergeR ps out) (hp : ps'.Perm ps) : MergeR ps' out := by
  cases out with
  | nil =>
    have h0 : ps = [] := h.told
    subst h0
    rw [hp.eq_nil]
    exact MergeR.nil
  | cons x out =>
    obtain ⟨p, r, rest, h1, h2, h3⟩ := h.told
    exact MergeR.step _ p x r rest out (hp.trans h1) h2 ⟨h3⟩

def plE (es : List QE) : List QP := es.map fun e => (e.p, e.l)

theorem plE_live (e : QE) : plE (liveE e) = liveP (e.p, e.l) := by
  unfold liveE liveP
  split <;> simp_all [plE]

def totE (es : List QE) : Nat := (es.map fun e => e.l.length).sum

theorem totE_perm {es es' : List QE} (h : es.Perm es') : totE es = totE es' := (h.map _).sum_nat

theorem heap_least {es : List QE} (h : Heap es) {e : QE} (he : e ∈ es) : leE (atE es 0) e := by
  obtain ⟨k, hk⟩ := List.mem_iff_getElem?.1 he
  have hlt := (List.getElem?_eq_some_iff.1 hk).1
  have := h.least k hlt
  unfold atE at this ⊢
  rw [List.getD_eq_getElem?_getD (i := k), hk] at this
  exact this

/-- one step of the program is one of the merge -/
theorem merge_step {es rest es' : List QE} {e' : QE} {out : List Smp} (hH : Heap es) (hne : (atE es 0).l ≠ []) (h1 : (atE es 0 :: rest).Perm es) (h2 : e'.l = (atE es 0).l.tail) (h3 : e'.p = (atE es 0).p) (h4 : es'.Perm (rest ++ liveE e'))
    (h5 : MergeR (plE es') out) : MergeR (plE es) ((atE es 0).l.headD (0, 0) :: out) := by
  cases hl : (atE es 0).l with
  | nil => exact absurd hl hne
  | cons x r =>
    refine MergeR.step _ (atE es 0).p x r (plE rest) out ?_ ?_ ?_
    · have := (h1.map fun e => (e.p, e.l)).symm
      rw [List.map_cons, hl] at this
      exact this
    · intro q hq
      obtain ⟨e, he, rfl⟩ := List.mem_map.1 hq
      have := heap_least hH (h1.mem_iff.1 (List.mem_cons_of_mem _ he))
      unfold leE QE.t at this
      rw [hl] at this
      exact this
    · refine h5.perm ?_
      have := (h4.map fun e => (e.p, e.l)).symm
      rw [List.map_append] at this
      have e2 : (liveE e').map (fun e => (e.p, e.l)) = liveP ((atE es 0).p, r) := by
        have := plE_live e'
        rw [h2, h3, hl] at this
        exact this
      rw [e2] at this
      exact this

theorem tot_step {es rest es' : List QE} {e' : QE} (hne : (atE es 0).l ≠ []) (h1 : (atE es 0 :: rest).Perm es) (h2 : e'.l = (atE es 0).l.tail) (h4 : es'.Perm (rest ++ liveE e')) : totE es' + 1 = totE es := by
  rw [totE_perm h4, ← totE_perm h1]
  have h5 : totE (liveE e') = e'.l.length := by
    unfold liveE
    split
    · rename_i h; rw [h]; rfl
    · simp [totE]
  have h6 : totE (rest ++ liveE e') = totE rest + totE (liveE e') := by simp [totE]
  have h7 : totE (atE es 0 :: rest) = (atE es 0).l.length + totE rest := by simp [totE]
  have h8 : (atE es 0).l.length = e'.l.length + 1 := by
    rw [h2, List.length_tail]
    cases hl : (atE es 0).l with
    | nil => exact absurd hl hne
    | cons x r => simp
  omega

/-! the lists that go in -/
def insFrom : Nat → List (Value × List Smp) → List QP
  | _, [] => []
  | j, x :: r => liveP (j, x.2) ++ insFrom (j + 1) r

theorem insFrom_snoc (j : Nat) (vs : List (Value × List Smp)) (x : Value × List Smp) : insFrom j (vs ++ [x]) = insFrom j vs ++ liveP (j + vs.length, x.2) := by
  induction vs generalizing j with
  | nil => simp [insFrom]
  | cons y r ih =>
    rw [List.cons_append, insFrom, ih, insFrom, List.append_assoc, List.length_cons]
    congr 4
    omega

def RdL (K : Nat → Prop) (w : World) (v : Value) (vs : List (Value × List Smp)) : Prop :=
  ∃ ao cap, v = .slice ao vs.length cap ∧ vs.length ≤ cap ∧ (∀ x ∈ vs, RdS K w x.1 x.2) ∧ (0 < vs.length → ∃ g o, K g ∧ ao = some ⟨g, o, none⟩ ∧ ∀ j, j < vs.length → w.cell? ⟨g, o + j, none⟩ = some (vs.getD j (.slice none 0 0, [])).1)

theorem totL_ins (j : Nat) (vs : List (Value × List Smp)) : ((insFrom j vs).map fun q => q.2.length).sum = (vs.map fun x => x.2.length).sum := by
  induction vs generalizing j with
  | nil => rfl
  | cons y r ih =>
    rw [insFrom, List.map_append, List.sum_append, ih, List.map_cons, List.sum_cons]
    unfold liveP
    split
    · rename_i h
      have h' : y.2 = [] := h
      rw [h']; simp
    · simp

theorem insFrom_len (j : Nat) (vs : List (Value × List Smp)) : (insFrom j vs).length ≤ vs.length := by
  induction vs generalizing j with
  | nil => simp [insFrom]
  | cons y r ih =>
    have := ih (j + 1)
    rw [insFrom, List.length_append, List.length_cons]
    unfold liveP
    split <;> simp <;> omega
end Go.Proofs.YtgekdmjneogdoabGreatDoor

namespace Go.Proofs.YtgekdmjneogdoabGreatDoor
open Go.RowKit

/-! pick -/
def pickN (c : Int) (n : Nat) : Nat := (if c < 0 then -(c + 1) else c).toNat % n

theorem pickN_lt (c : Int) (n : Nat) (h : 0 < n) : pickN c n < n := Nat.mod_lt _ h

set_option maxRecDepth 20000 in
set_option maxHeartbeats 400000 in
theorem pick_any (c : Int) (n : Nat) (w : World) (hc1 : -9223372036854775808 ≤ c) (hc2 : c ≤ 9223372036854775807) (hn : 1 ≤ n) (hn2 : n ≤ 1000000) :
    Calls Tryz.prog 8 #[.int .i64 c, .int .i64 n] w fun e w' => e = .returned (.int .i64 (pickN c n)) ∧ w' = w := by
  have hp : pickN c n = (if c < 0 then -(c + 1) else c).toNat % n := rfl
  rcases Int.lt_or_le c 0 with h | h
  · obtain ⟨m, hm⟩ : ∃ m : Nat, -(c + 1) = (m : Int) := ⟨(-(c + 1)).toNat, by omega⟩
    rw [if_pos h, hm, Int.toNat_natCast] at hp
    have hlt : m % n < n := Nat.mod_lt _ (by omega)
    have hq : (m : Int) % (n : Int) = ((m % n : Nat) : Int) := (Int.natCast_emod m n).symm
    have HQ := hide (And.intro hp hq)
    have hm2 : m ≤ 9223372036854775807 := by omega
    obtain rfl : c = -(m : Int) - 1 := by omega
    clear hp hq hm
    go_enter Tryz.func8, Tryz.ntmps8
    go_wp2_with fail
    go_ret
    refine ⟨?_, rfl⟩
    apply retI
    rw [(unhide HQ).1]
    have h2 := (unhide HQ).2
    have h3 : wrap64 (-(wrap64 (-(m : Int) - 1 + 1))) = (m : Int) := by unfold wrap64; omega
    have h4 : -(-(m : Int) - 1 + 1) = (m : Int) := by omega
    first
      | (rw [h3, h2]; done)
      | (rw [h4, h2]; done)
      | (rw [← h2]; done)
      | (rw [← h2]; congr 1; omega)
  · obtain ⟨m, rfl⟩ : ∃ m : Nat, c = (m : Int) := ⟨c.toNat, by omega⟩
    rw [if_neg (by omega), Int.toNat_natCast] at hp
    have hlt : m % n < n := Nat.mod_lt _ (by omega)
    have hq : (m : Int) % (n : Int) = ((m % n : Nat) : Int) := (Int.natCast_emod m n).symm
    have HQ := hide (And.intro hp hq)
    clear hp hq
    go_enter Tryz.func8, Tryz.ntmps8
    go_wp2_with fail
    go_ret
    refine ⟨?_, rfl⟩
    apply retI
    rw [(unhide HQ).1]
    have h2 := (unhide HQ).2
    rw [h2]
end Go.Proofs.YtgekdmjneogdoabGreatDoor

namespace Go.Proofs.YtgekdmjneogdoabGreatDoor

/-! what the law Merged asks of a merge, plain -/

/-- how many of the first i come from list x -/
def cntV (out : List Smp) (i x : Nat) : Nat := ((out.take i).filter fun s => s.2 / 100 == x).length

theorem cntV_zero (out : List Smp) (x : Nat) : cntV out 0 x = 0 := by simp [cntV]

theorem cntV_cons (s : Smp) (out : List Smp) (i x : Nat) : cntV (s :: out) (i + 1) x = (if s.2 / 100 = x then 1 else 0) + cntV out i x := by
  unfold cntV
  rw [List.take_succ_cons, List.filter_cons]
  by_cases h : s.2 / 100 = x
  · rw [if_pos h, if_pos (by simpa using h), List.length_cons]; omega
  · rw [if_neg h, if_neg (by simpa using h)]; omega

theorem cntV_succ (out : List Smp) (i x : Nat) (h : i < out.length) : cntV out (i + 1) x = cntV out i x + (if (out.getD i (0, 0)).2 / 100 = x then 1 else 0) := by
  unfold cntV
  have e : out.take (i + 1) = out.take i ++ [out.getD i (0, 0)] := by
    rw [List.take_add_one, List.getD_eq_getElem?_getD, List.getElem?_eq_getElem h]; rfl
  rw [e, List.filter_append, List.length_append]
  congr 1
  by_cases h : (out.getD i (0, 0)).2 / 100 = x
  · rw [if_pos h, List.filter_cons, if_pos (by simpa using h)]; rfl
  · rw [if_neg h, List.filter_cons, if_neg (by simpa using h)]; rfl

/-- the lists' values tell the list and the place -/
def Known (ls : List (List Smp)) : Prop := ls.length ≤ 6 ∧ ∀ p, p < ls.length → (ls.getD p []).length ≤ 40 ∧ ∀ k, k < (ls.getD p []).length → ((ls.getD p []).getD k (0, 0)).2 = p * 100 + k

def bump (c : Nat → Nat) (p : Nat) : Nat → Nat := fun q => if q = p then c q + 1 else c q

/-- what waits, being the lists from c on -/
structure PsOk (ls : List (List Smp)) (c : Nat → Nat) (ps : List QP) : Prop where
  at' : ∀ q ∈ ps, q.1 < ls.length ∧ q.2 = (ls.getD q.1 []).drop (c q.1)
  one : (ps.map Prod.fst).Nodup

theorem drop_cons_get {l : List Smp} {n : Nat} {x : Smp} {r : List Smp} (h : x :: r = l.drop n) : n < l.length ∧ l.getD n (0, 0) = x ∧ r = l.drop (n + 1) := by
  have hlt : n < l.length := by
    rcases Nat.lt_or_ge n l.length with h1 | h1
    · exact h1
    · rw [List.drop_eq_nil_of_le h1] at h; cases h
  have h2 := List.drop_eq_getElem_cons hlt
  rw [h2] at h
  injection h with h3 h4
  refine ⟨hlt, ?_, h4⟩
  rw [List.getD_eq_getElem?_getD, List.getElem?_eq_getElem hlt]
  exact h3.symm

theorem PsOk.step {ls : List (List Smp)} {c : Nat → Nat} {ps rest : List QP} {p : Nat} {x : Smp} {r : List Smp} (h : PsOk ls c ps) (h1 : ps.Perm ((p, x :: r) :: rest)) : p < ls.length ∧ c p < (ls.getD p []).length ∧ (ls.getD p []).getD (c p) (0, 0) = x ∧ PsOk ls (bump c p) (rest ++ liveP (p, r)) := by
  have hin := h.at' (p, x :: r) (h1.mem_iff.2 (by simp))
  obtain ⟨d1, d2, d3⟩ := drop_cons_get hin.2
  have hnd : (((p, x :: r) :: rest).map Prod.fst).Nodup := (h1.map Prod.fst).nodup_iff.1 h.one
  rw [List.map_cons, List.nodup_cons] at hnd
  refine ⟨hin.1, d1, d2, ⟨fun q hq => ?_, ?_⟩⟩
  · rcases List.mem_append.1 hq with hq | hq
    · have h2 := h.at' q (h1.mem_iff.2 (List.mem_cons_of_mem _ hq))
      have hne : q.1 ≠ p := fun e => hnd.1 (by show p ∈ rest.map Prod.fst; rw [← e]; exact List.mem_map_of_mem hq)
      refine ⟨h2.1, ?_⟩
      rw [show bump c p q.1 = c q.1 from if_neg hne]
      exact h2.2
    · unfold liveP at hq
      split at hq
      · cases hq
      · rw [List.mem_singleton.1 hq]
        refine ⟨hin.1, ?_⟩
        rw [show bump c p p = c p + 1 from if_pos rfl]
        exact d3
  · rw [List.map_append, List.nodup_append]
    refine ⟨hnd.2, ?_, ?_⟩
    · unfold liveP; split <;> simp
    · intro a ha b hb e
      subst e
      unfold liveP at hb
      split at hb
      · cases hb
      · simp at hb
        subst hb
        exact hnd.1 ha

/-- each sample is the next one of its list -/
theorem merge_each {ls : List (List Smp)} (hk : Known ls) {ps : List QP} {out : List Smp} (hm : MergeR ps out) : ∀ c, PsOk ls c ps → ∀ i, i < out.length →
    (out.getD i (0, 0)).2 / 100 < ls.length ∧ c ((out.getD i (0, 0)).2 / 100) + cntV out i ((out.getD i (0, 0)).2 / 100) < (ls.getD ((out.getD i (0, 0)).2 / 100) []).length ∧ (ls.getD ((out.getD i (0, 0)).2 / 100) []).getD (c ((out.getD i (0, 0)).2 / 100) + cntV out i ((out.getD i (0, 0)).2 / 100)) (0, 0) = out.getD i (0, 0) := by
  induction hm using MergeR.ind with
  | nil => intro c _ i hi; simp at hi
  | step ps p x r rest out h1 h2 h3 ih =>
    intro c hc i hi
    obtain ⟨s1, s2, s3, s4⟩ := hc.step h1
    have hx : x.2 / 100 = p := by
      have h5 := (hk.2 p s1).2 (c p) s2
      have h6 := (hk.2 p s1).1
      rw [s3] at h5
      rw [h5]
      omega
    cases i with
    | zero =>
      simp only [List.getD_cons_zero]
      rw [hx, cntV_zero, Nat.add_zero]
      exact ⟨s1, s2, s3⟩
    | succ i =>
      have hi' : i < out.length := by simpa using hi
      obtain ⟨t1, t2, t3⟩ := ih (bump c p) s4 i hi'
      simp only [List.getD_cons_succ]
      generalize out.getD i (0, 0) = y at *
      have hb : bump c p (y.2 / 100) + cntV out i (y.2 / 100) = c (y.2 / 100) + cntV (x :: out) (i + 1) (y.2 / 100) := by
        rw [cntV_cons, hx]
        unfold bump
        by_cases e : y.2 / 100 = p
        · rw [if_pos e, if_pos e.symm]; omega
        · rw [if_neg e, if_neg (Ne.symm e)]; omega
      rw [hb] at t2 t3
      exact ⟨t1, t2, t3⟩

def RiseL (l : List Smp) : Prop := ∀ k, k + 1 < l.length → (l.getD k (0, 0)).1 ≤ (l.getD (k + 1) (0, 0)).1

theorem RiseL.tail {x : Smp} {r : List Smp} (h : RiseL (x :: r)) : RiseL r := fun k hk => by
  have := h (k + 1) (by simpa using hk)
  simpa using this

theorem merge_head {ps : List QP} {x : Smp} {out : List Smp} (hm : MergeR ps (x :: out)) : ∃ p r, (p, x :: r) ∈ ps := by
  obtain ⟨p, r, rest, h1, _, _⟩ := hm.told
  exact ⟨p, r, h1.mem_iff.2 (by simp)⟩

/-- of lists that rise the whole rises -/
theorem merge_rises {ls : List (List Smp)} (hk : Known ls) {ps : List QP} {out : List Smp} (hm : MergeR ps out) : ∀ c, PsOk ls c ps → (∀ q ∈ ps, RiseL q.2) → ∀ i, i + 1 < out.length →
    (out.getD i (0, 0)).1 < (out.getD (i + 1) (0, 0)).1 ∨ ((out.getD i (0, 0)).1 = (out.getD (i + 1) (0, 0)).1 ∧ (out.getD i (0, 0)).2 / 100 ≤ (out.getD (i + 1) (0, 0)).2 / 100) := by
  induction hm using MergeR.ind with
  | nil => intro c _ _ i hi; simp at hi
  | step ps p x r rest out h1 h2 h3 ih =>
    intro c hc hr i hi
    obtain ⟨s1, s2, s3, s4⟩ := hc.step h1
    have hv : ∀ (q : Nat) (y : Smp) (l : List Smp), (q, y :: l) ∈ rest ++ liveP (p, r) → y.2 / 100 = q := fun q y l hq => by
      obtain ⟨u1, u2⟩ := s4.at' _ hq
      obtain ⟨d1, d2, _⟩ := drop_cons_get u2
      have h5 := (hk.2 q u1).2 _ d1
      have h6 := (hk.2 q u1).1
      rw [d2] at h5
      have h7 : bump c p q < 40 := Nat.lt_of_lt_of_le d1 h6
      rw [h5]
      show (q * 100 + bump c p q) / 100 = q
      omega
    have hx : x.2 / 100 = p := by
      have h5 := (hk.2 p s1).2 (c p) s2
      have h6 := (hk.2 p s1).1
      rw [s3] at h5
      rw [h5]
      omega
    have hr' : ∀ q ∈ rest ++ liveP (p, r), RiseL q.2 := fun q hq => by
      rcases List.mem_append.1 hq with hq | hq
      · exact hr q (h1.mem_iff.2 (List.mem_cons_of_mem _ hq))
      · unfold liveP at hq
        split at hq
        · cases hq
        · rw [List.mem_singleton.1 hq]
          exact (hr (p, x :: r) (h1.mem_iff.2 (by simp))).tail
    cases i with
    | zero =>
      cases out with
      | nil => simp at hi
      | cons y out =>
        simp only [List.getD_cons_zero, List.getD_cons_succ]
        obtain ⟨q, l, hq⟩ := merge_head h3
        rw [hx, hv q y l hq]
        rcases List.mem_append.1 hq with hq | hq
        · exact h2 _ hq
        · unfold liveP at hq
          split at hq
          · cases hq
          · have e := List.mem_singleton.1 hq
            have e1 : q = p := congrArg Prod.fst e
            have e2 : y :: l = r := congrArg Prod.snd e
            have := hr (p, x :: r) (h1.mem_iff.2 (by simp)) 0 (by rw [← e2]; simp)
            rw [← e2] at this
            simp only [List.getD_cons_zero, List.getD_cons_succ] at this
            omega
    | succ i =>
      simp only [List.getD_cons_succ]
      exact ih _ s4 hr' i (by simpa using hi)

theorem merge_length {ps : List QP} {out : List Smp} (hm : MergeR ps out) : out.length = (ps.map fun q => q.2.length).sum := by
  induction hm using MergeR.ind with
  | nil => rfl
  | step ps p x r rest out h1 h2 h3 ih =>
    rw [List.length_cons, ih, (h1.map fun q : QP => q.2.length).sum_nat, List.map_append, List.sum_append, List.map_cons, List.sum_cons]
    have : ((liveP (p, r)).map fun q : QP => q.2.length).sum = r.length := by
      unfold liveP
      split
      · rename_i h
        have h' : r = [] := h
        rw [h']; rfl
      · simp
    rw [this]
    simp
    omega
end Go.Proofs.YtgekdmjneogdoabGreatDoor

namespace Go.Proofs.YtgekdmjneogdoabGreatDoor
open Go.RowKit Go.Maps

theorem getD_memL {vs : List (Value × List Smp)} {j : Nat} (h : j < vs.length) : vs.getD j (.slice none 0 0, []) ∈ vs := by
  rw [List.getD_eq_getElem?_getD, List.getElem?_eq_getElem h]
  exact List.getElem_mem _

theorem take_snocL {vs : List (Value × List Smp)} {j : Nat} (h : j < vs.length) : vs.take (j + 1) = vs.take j ++ [vs.getD j (.slice none 0 0, [])] := by
  rw [List.take_add_one, List.getD_eq_getElem?_getD, List.getElem?_eq_getElem h]
  rfl

set_option maxRecDepth 20000 in
set_option maxHeartbeats 1600000 in
theorem tooMany_no {K : Nat → Prop} {w : World} {v : Value} {vs : List (Value × List Smp)} (h : RdL K w v vs) (h6 : vs.length ≤ 6) (h40 : ∀ x ∈ vs, x.2.length ≤ 40) :
    Calls Tryz.prog 22 #[v] w fun e w' => e = .returned (.bool false) ∧ w' = w := by
  obtain ⟨ao, cap, rfl, hc, hr, hcl⟩ := h
  have HR := hide (And.intro hr h40)
  have HC := hide hcl
  clear hr hcl h40
  have hd6 : decide ((6 : Int) < (vs.length : Int)) = false := by simp; omega
  generalize hn : vs.length = n at *
  go_enter Tryz.func22, Tryz.ntmps22
  go_wp2_with fail
  go_loopw [4, 10] (fun _ i wr => ∃ j : Nat, j ≤ n ∧ i = .int .i64 j ∧ wr = w) (fun _ i _ => n - (RowKit.intOf i).toNat)
  case atStart => exact ⟨0, by omega, rfl, rfl⟩
  case round =>
    obtain ⟨j, hj, rfl, rfl⟩ := hrel
    by_cases hjn : j < n
    · obtain ⟨g, o, _, rfl, hce⟩ := unhide HC (by omega)
      have hc0 := hce j hjn
      have hm := getD_memL (vs := vs) (j := j) (by omega)
      obtain ⟨hr, h40⟩ := unhide HR
      obtain ⟨ga, ca, hv, _, _⟩ := hr _ hm
      have hl := h40 _ hm
      rw [hv] at hc0
      generalize (vs.getD j (.slice none 0 0, [])).2.length = ln at *
      clear hce hm hr h40 hv
      have hdj : decide ((j : Int) < (n : Int)) = true := by simp; omega
      have hdl : decide ((40 : Int) < (ln : Int)) = false := by simp; omega
      go_wp2_with fail
      go_roundw
      case rel => exact ⟨j + 1, by omega, rfl, by trivial⟩
      case measure => simp [RowKit.intOf]; omega
    · have hdj : decide ((j : Int) < (n : Int)) = false := by simp; omega
      go_wp2_with fail
      go_ret
      exact ⟨rfl, rfl⟩

set_option maxRecDepth 20000 in
set_option maxHeartbeats 1600000 in
theorem queuesOf_any {w : World} {v : Value} {vs : List (Value × List Smp)} (h : RdL (Under w) w v vs) (h6 : vs.length ≤ 6) :
    Calls Tryz.prog 23 #[v] w fun e w' => e = .returned (.pointer (some ⟨w.heap.size, 0, none⟩)) ∧ Below w.heap.size w w' ∧ ∃ a n cap es, n ≤ 6 ∧ Heap es ∧ (plE es).Perm (insFrom 0 vs) ∧ QS (Under w) w' w.heap.size (.slice a n cap) es := by
  obtain ⟨ao, cap, rfl, hc, hr, hcl⟩ := h
  have HR := hide hr
  have HC := hide hcl
  clear hr hcl
  generalize hn : vs.length = n at *
  obtain ⟨qb, hqb⟩ : ∃ q, q = w.heap.size := ⟨_, rfl⟩
  rw [← hqb]
  have HQB := hide hqb
  have HQ0 : Hid (∀ o, o = .cells #[.slice none 0 0] 97 (0, 0) → QS (Under w) (w.alloc o) qb (.slice none 0 0) []) := fun o ho => by
    rw [ho]
    exact ⟨by rw [hqb]; exact World.alloc_heap_new w _, World.ownsRow_nil _ _ _ _, fun e he => (by cases he), fun k hk => ⟨by have : k < w.heap.size := hk; simp; omega, by have : k < w.heap.size := hk; omega, by simp [Value.ownBlock]⟩⟩
  have HB0 : Hid (∀ o, Below w.heap.size w (w.alloc o)) := fun o => (Below.refl _ w).alloc (Nat.le_refl _) o
  clear hqb
  go_enter Tryz.func23, Tryz.ntmps23
  go_wp2_with fail
  rw [← unhide HQB]
  go_loopw [4, 5, 9] (fun _ _ i wr => ∃ (j : Nat) (a : Option Addr) (m cp : Nat) (es : List QE), j ≤ n ∧ m ≤ j ∧ i = .int .i64 j ∧ Hid (QS (Under w) wr qb (.slice a m cp) es ∧ Heap es ∧ (plE es).Perm (insFrom 0 (vs.take j)) ∧ Below w.heap.size w wr)) (fun _ _ i _ => n - (RowKit.intOf i).toNat)
  case atStart => exact ⟨0, none, 0, 0, [], by omega, by omega, rfl, ⟨unhide HQ0 _ rfl, fun i h1 h2 => absurd h2 (by simp), List.Perm.refl _, unhide HB0 _⟩⟩
  case round =>
    obtain ⟨j, a, m, cp, es, hj, hmj, rfl, HS⟩ := hrel
    by_cases hjn : j < n
    · obtain ⟨g, o, hgK, rfl, hce⟩ := unhide HC (by omega)
      have hc0 : wr.cell? ⟨g, o + j, none⟩ = some (vs.getD j (.slice none 0 0, [])).1 := ((unhide HS).2.2.2.cell (p := ⟨g, o + j, none⟩) hgK).trans (hce j hjn)
      have hm := getD_memL (vs := vs) (j := j) (by omega)
      have hrd := unhide HR _ hm
      have hrw : RdS (Under w) wr (vs.getD j (.slice none 0 0, [])).1 (vs.getD j (.slice none 0 0, [])).2 := hrd.kept (Kept.of_below (unhide HS).2.2.2)
      obtain ⟨ga, ca, hv, _, _⟩ := hrd
      have htk := take_snocL (vs := vs) (j := j) (by omega)
      rw [hv] at hc0 hrw
      have HP := hide (putBack_any (unhide HS).1 (by omega) (unhide HS).2.1 ga _ ca j _ hrw)
      have HTK := hide (And.intro htk hv)
      generalize (vs.getD j (.slice none 0 0, [])).2.length = ln at *
      clear hce hm hv hrw htk
      have hdj : decide ((j : Int) < (n : Int)) = true := by simp; omega
      go_wp2_with fail
      refine (unhide HP).mono ?_
      rintro e w1 ⟨rfl, hk1, a1, m1, cp1, es1, q1, q2, q3, q4⟩
      have HS1 : Hid (QS (Under w) w1 qb (.slice a1 m1 cp1) es1 ∧ Heap es1 ∧ (plE es1).Perm (insFrom 0 (vs.take (j + 1))) ∧ Below w.heap.size w w1) := by
        obtain ⟨s1, s2, s3, s4⟩ := unhide HS
        refine ⟨q4, q3, ?_, s4.trans (Kept.below hk1)⟩
        have h1 := q2.map (fun e : QE => (e.p, e.l))
        rw [List.map_append] at h1
        rw [(unhide HTK).1, insFrom_snoc, List.length_take, Nat.min_eq_left (by rw [hn]; omega), Nat.zero_add]
        refine h1.trans ?_
        have h2 := plE_live ⟨.slice ga ln ca, (vs.getD j (.slice none 0 0, [])).2, j⟩
        have h3 : (liveE ⟨.slice ga ln ca, (vs.getD j (.slice none 0 0, [])).2, j⟩).map (fun e : QE => (e.p, e.l)) = liveP (j, (vs.getD j (.slice none 0 0, [])).2) := h2
        rw [h3]
        exact List.Perm.append_right _ s3
      clear hk1 q2 q3 q4 HP HS
      go_wp2_with fail
      go_roundw
      case rel => exact ⟨j + 1, a1, m1, cp1, es1, by omega, by omega, rfl, HS1⟩
      case measure => simp [RowKit.intOf]; omega
    · obtain rfl : j = n := by omega
      have hdj : decide ((j : Int) < (j : Int)) = false := by simp
      go_wp2_with fail
      go_ret
      obtain ⟨s1, s2, s3, s4⟩ := unhide HS
      refine ⟨rfl, by rw [unhide HQB]; exact s4, a, m, cp, es, by omega, s2, ?_, s1⟩
      rw [List.take_of_length_le (by omega)] at s3
      exact s3

/-- what must be kept while the merged list grows -/
def KM (w : World) (v : Value) : Nat → Prop := fun k => k < w.heap.size ∨ v.ownBlock = some k

theorem own_keptM {w w' : World} {base : Nat} {e : TypeId} {size n : Nat} {v : Value} {xs : List Value} (h : w.ownsRow base e size v n xs) (hk : ∀ k, v.ownBlock = some k → w'.heap[k]? = w.heap[k]?) : w'.ownsRow base e size v n xs := by
  refine ⟨h.1, ?_⟩
  rcases h.2 with h1 | ⟨g, c, cur, h1, h2, h3, h4⟩
  · exact Or.inl h1
  · exact Or.inr ⟨g, c, cur, h1, h2, (hk g (by rw [h1]; rfl)).trans h3, h4⟩

def lenV : Value → Nat
  | .slice _ n _ => n
  | _ => 0

set_option maxRecDepth 20000 in
set_option maxHeartbeats 3200000 in
theorem merge_ok {w : World} {v : Value} {vs : List (Value × List Smp)} (h : RdL (Under w) w v vs) (h6 : vs.length ≤ 6) (h40 : ∀ x ∈ vs, x.2.length ≤ 40) :
    Calls Tryz.prog 9 #[v] w fun e w' => ∃ (u : Value) (out : List Smp), e = .returned (.tuple #[u, .int .i64 0]) ∧ MergeR (insFrom 0 vs) out ∧ w'.ownsRow w.heap.size 28 2 u out.length (flat out) ∧ Below w.heap.size w w' := by
  obtain ⟨i0, hi, hz0, hz1, hz2⟩ := info_parts infoS
  have HT := hide (tooMany_no h h6 h40)
  have HQ := hide (queuesOf_any h h6)
  have htot : ((insFrom 0 vs).map fun q => q.2.length).sum ≤ 240 := by
    rw [totL_ins]
    have : ∀ (l : List (Value × List Smp)), (∀ x ∈ l, x.2.length ≤ 40) → (l.map fun x => x.2.length).sum ≤ 40 * l.length := by
      intro l hl
      induction l with
      | nil => simp
      | cons x r ih =>
        have h1 := hl x (by simp)
        have h2 := ih (fun y hy => hl y (by simp [hy]))
        rw [List.map_cons, List.sum_cons, List.length_cons]
        omega
    have := this vs h40
    omega
  obtain ⟨ao, cap, rfl, hc, _, _⟩ := h
  clear h40
  generalize vs.length = n at *
  go_enter Tryz.func9, Tryz.ntmps9
  go_wp2_with fail
  refine (unhide HT).mono ?_
  rintro e w1 ⟨rfl, h1⟩
  rw [h1]
  clear h1 w1 HT
  go_wp2_with fail
  refine (unhide HQ).mono ?_
  rintro e w1 ⟨rfl, hb1, a1, m1, cp1, es1, hm1, hH1, hp1, hs1⟩
  have htot1 : totE es1 ≤ 240 := by
    have : totE es1 = ((plE es1).map fun q => q.2.length).sum := by simp [totE, plE, Function.comp_def]
    rw [this, (hp1.map fun q => q.2.length).sum_nat]
    exact htot
  obtain ⟨tot, htt⟩ : ∃ t, t = totE es1 := ⟨_, rfl⟩
  have HS1 : Hid (QS (KM w (.slice none 0 0)) w1 w.heap.size (.slice a1 m1 cp1) es1 ∧ Heap es1 ∧ (∀ t, MergeR (plE es1) t → MergeR (insFrom 0 vs) ([] ++ t)) ∧ Below w.heap.size w w1 ∧ ∀ e ∈ es1, RdS (Under w) w1 e.v e.l) :=
    ⟨hs1.re (fun k _ => rfl) (Nat.le_refl _) (fun k hk => by rcases hk with hk | hk; exact hk; cases hk) (fun e he => rds_more (hs1.rd e he).2 (fun k hk => Or.inl hk)), hH1, fun t ht => ht.perm hp1.symm, hb1, fun e he => (hs1.rd e he).2⟩
  have HT0 : Hid (([] : List Smp).length + totE es1 = tot) := by show 0 + totE es1 = tot; omega
  clear hb1 hH1 hp1 hs1 HQ htot
  rw [← htt] at htot1
  clear htt
  go_wp2_with fail
  go_loopw [5] (fun u wr => ∃ (out : List Smp) (es : List QE) (a : Option Addr) (m cp : Nat), m ≤ 6 ∧ lenV u = out.length ∧ Hid (wr.ownsRow w.heap.size 28 2 u out.length (flat out)) ∧ Hid (QS (KM w u) wr w.heap.size (.slice a m cp) es ∧ Heap es ∧ (∀ t, MergeR (plE es) t → MergeR (insFrom 0 vs) (out ++ t)) ∧ Below w.heap.size w wr ∧ ∀ e ∈ es, RdS (Under w) wr e.v e.l) ∧ Hid (out.length + totE es = tot)) (fun u _ => tot - lenV u)
  case atStart => exact ⟨[], es1, a1, m1, cp1, hm1, rfl, World.ownsRow_nil _ _ _ _, HS1, HT0⟩
  case round =>
    obtain ⟨out, es, a, m, cp, hm, hlen, HO, HS, HT⟩ := hrel
    have cq : wr.cell? ⟨w.heap.size, 0, none⟩ = some (.slice a m cp) := (unhide HS).1.cell
    cases m with
    | zero =>
      go_wp2_with fail
      refine (len_any a 0 cp _).mono ?_
      rintro e w2 ⟨rfl, h2⟩
      rw [h2]
      clear h2 w2
      go_wp2_with fail
      go_ret2
      obtain ⟨s1, s2, s3, s4, _⟩ := unhide HS
      have he : es = [] := List.eq_nil_of_length_eq_zero s1.len.symm
      rw [he] at s3
      have := s3 [] MergeR.nil
      rw [List.append_nil] at this
      exact ⟨_, out, rfl, this, unhide HO, s4⟩
    | succ m =>
      have hL := (unhide HS).1.len
      have hne := ((unhide HS).1.at (i := 0) (by omega)).1
      have hout : out.length ≤ 240 := by have := unhide HT; omega
      have hob : ∀ k, u5.ownBlock = some k → w.heap.size ≤ k ∧ k < wr.heap.size := fun k hk => (unhide HO).lt k hk
      have HNx := hide (next_any (unhide HS).1 (by omega) (unhide HS).2.1)
      have HNE := hide hne
      clear hne hL
      go_wp2_with fail
      refine (len_any a (m + 1) cp _).mono ?_
      rintro e w2 ⟨rfl, h2⟩
      rw [h2]
      clear h2 w2
      have hdm : decide ((0 : Int) < ((m + 1 : Nat) : Int)) = true := decide_eq_true (by omega)
      go_wp2_with fail
      refine (unhide HNx).mono ?_
      rintro e w2 ⟨rfl, hk2, a2, m2, cp2, rest, es2, e2, q1, q2, q3, q4, q5, q6, q7, q8⟩
      have ho2 : w2.ownsRow w.heap.size 28 2 u5 out.length (flat out) := own_keptM (unhide HO) (fun k hk => hk2.block k (Or.inr hk))
      have hqs : w.heap.size < w2.heap.size := (Array.getElem?_eq_some_iff.1 q7.hq).1
      have hm2 : m2 ≤ 6 := by
        have h1 := q7.len
        have h2 : es2.length ≤ es.length := by
          rw [q5.length_eq, ← q2.length_eq, List.length_append, List.length_cons]
          unfold liveE
          split <;> simp
        have h3 := (unhide HS).1.len
        omega
      have HF : Hid ((∀ t, MergeR (plE es2) t → MergeR (insFrom 0 vs) ((out ++ [((atE es 0).l.headD (0, 0))]) ++ t)) ∧ Heap es2 ∧ QS (KM w u5) w2 w.heap.size (.slice a2 m2 cp2) es2 ∧ (∀ e ∈ es2, RdS (Under w) w2 e.v e.l) ∧ Below w.heap.size w w2 ∧ out.length + 1 + totE es2 = tot) := by
        obtain ⟨s1, s2, s3, s4, s5⟩ := unhide HS
        refine ⟨fun t ht => ?_, q6, q7, q8 _ (fun k hk => Or.inl hk) s5, s4.trans (Kept.below (hk2.sub (fun k hk => Or.inl hk))), ?_⟩
        · have := s3 _ (merge_step s2 (unhide HNE) q2 q3 q4 q5 ht)
          rw [List.append_assoc]
          exact this
        · have h1 := tot_step (unhide HNE) q2 q3 q5
          have h2 := unhide HT
          omega
      generalize hx : (atE es 0).l.headD (0, 0) = x at *
      obtain ⟨T, V⟩ := x
      clear hk2 q1 q2 q3 q4 q5 q6 q7 q8 HNx HS
      go_wp2_with (first
        | (at_builtin; refine wpList_append_own_at _ rfl _ _ 24 rfl w.heap.size 28 i0 (.agg #[.int .i64 0, .int .u64 0]) 2 16 Tryz.underlying24 hi hz0 hz1 hz2 rfl (by decide) u5 out.length (flat out) rfl (ho2.alloc _) ⟨w2.heap.size, 0, none⟩ 1 1 [.int .i64 T, .int .u64 V] rfl rfl (cell_two_at _ _ _ _ _ rfl) (by intro u hu; simp at hu; rcases hu with rfl | rfl <;> rfl) (by unfold maxLen; omega) (by omega) (by simp; omega) ?_; intro v' W8 hown' hgrow _ hat)
        | go_in)
      have hlen' : lenV v' = out.length + 1 := by
        obtain ⟨g8, c8, e8⟩ := own_form hown'
        rw [e8]; rfl
      have HO' : Hid (W8.ownsRow w.heap.size 28 2 v' (out ++ [(T, V)]).length (flat (out ++ [(T, V)]))) := by
        show W8.ownsRow _ _ _ _ _ _
        rw [flat_snoc, List.length_append, List.length_singleton]
        exact hown'
      have HS' : Hid (QS (KM w v') W8 w.heap.size (.slice a2 m2 cp2) es2 ∧ Heap es2 ∧ (∀ t, MergeR (plE es2) t → MergeR (insFrom 0 vs) ((out ++ [(T, V)]) ++ t)) ∧ Below w.heap.size w W8 ∧ ∀ e ∈ es2, RdS (Under w) W8 e.v e.l) := by
        obtain ⟨f1, f2, f3, f4, f5, f6⟩ := unhide HF
        have hother : ∀ k, k < w2.heap.size → u5.ownBlock ≠ some k → W8.heap[k]? = w2.heap[k]? := fun k hk hne => (hgrow.block k (by simp; omega) (fun e => hne e.symm)).trans (Below.heap_alloc w2 _ k hk)
        have hund : Kept (Under w) w2 W8 := ⟨hgrow.os, hgrow.tape, hgrow.output, by have := hgrow.size; simp at this; omega, fun k hk => hother k (by have : k < w.heap.size := hk; omega) (fun e => by have := (hob k e).1; have : k < w.heap.size := hk; omega)⟩
        have hrd : ∀ e ∈ es2, RdS (Under w) W8 e.v e.l := fun e he => (f4 e he).kept hund
        have hnq : u5.ownBlock ≠ some w.heap.size := fun e => (f3.lo _ (Or.inr e)).2.1 rfl
        refine ⟨⟨(hother _ hqs hnq).trans f3.hq, own_keptM f3.own (fun k hk => hother k (f3.own.lt k hk).2 (fun e => (f3.lo k (Or.inr e)).2.2 hk)), fun e he => ⟨(f3.rd e he).1, rds_more (hrd e he) (fun k hk => Or.inl hk)⟩, fun k hk => ?_⟩, f2, f1, f5.trans (Kept.below hund), hrd⟩
        rcases hk with hk | hk
        · have hz := (f3.lo k (Or.inl hk))
          exact ⟨Nat.lt_of_lt_of_le hz.1 hund.size, hz.2⟩
        · rcases hat with e | e
          · rw [e] at hk
            have hz := (f3.lo k (Or.inr hk))
            exact ⟨Nat.lt_of_lt_of_le hz.1 hund.size, hz.2⟩
          · rw [e] at hk
            injection hk with hk
            have hk' : k = w2.heap.size + 1 := by simpa using hk.symm
            refine ⟨(hown'.lt k (by rw [e, hk']; simp)).2, by omega, fun e2 => ?_⟩
            have := (f3.own.lt k e2).2
            omega
      have HT' : Hid ((out ++ [(T, V)]).length + totE es2 = tot) := by
        show (out ++ [(T, V)]).length + totE es2 = tot
        rw [List.length_append, List.length_singleton]
        exact (unhide HF).2.2.2.2.2
      have htlt : out.length < tot := by have := (unhide HF).2.2.2.2.2; omega
      clear hown' hgrow hat HF ho2 HO HT
      go_wp2_with fail
      go_roundw
      case rel => exact ⟨out ++ [(T, V)], es2, a2, m2, cp2, hm2, by rw [hlen']; simp, HO', HS', HT'⟩
      case measure =>
        rw [hlen', hlen]
        omega
end Go.Proofs.YtgekdmjneogdoabGreatDoor
