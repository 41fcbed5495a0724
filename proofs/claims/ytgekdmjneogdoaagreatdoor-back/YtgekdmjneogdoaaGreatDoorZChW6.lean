import Derived.Test.YtgekdmjneogdoaaGreatDoorZChW5
import Derived.Recover
namespace Go.Proofs.YtgekdmjneogdoaaGreatDoor
open Go.RowKit

/-- a slice value that reads samples, out of a block of K -/
def RdS (K : Nat → Prop) (w : World) (v : Value) (l : List Smp) : Prop :=
  ∃ ao cap, v = .slice ao l.length cap ∧ l.length ≤ cap ∧ (0 < l.length → ∃ g o, K g ∧ ao = some ⟨g, o, none⟩ ∧ ∀ j, j < l.length → w.cell? ⟨g, o + 2 * j, none⟩ = some (.int .i64 (l.getD j (0, 0)).1) ∧ w.cell? ⟨g, o + 2 * j + 1, none⟩ = some (.int .u64 (l.getD j (0, 0)).2))

theorem RdS.kept {K : Nat → Prop} {w w' : World} {v : Value} {l : List Smp} (h : RdS K w v l) (hk : Kept K w w') : RdS K w' v l := by
  obtain ⟨ao, cap, h1, h2, h3⟩ := h
  refine ⟨ao, cap, h1, h2, fun h0 => ?_⟩
  obtain ⟨g, o, h4, h5, h6⟩ := h3 h0
  exact ⟨g, o, h4, h5, fun j hj => ⟨(hk.cell (p := ⟨g, _, none⟩) h4).trans (h6 j hj).1, (hk.cell (p := ⟨g, _, none⟩) h4).trans (h6 j hj).2⟩⟩

theorem Wr.sub {K J : Nat → Prop} {w : World} {p : Nat} {bs : List Nat} (h : Wr K w p bs) (hj : ∀ k, J k → K k) : Wr J w p bs := by
  obtain ⟨v, t, h1, h2, h3⟩ := h
  exact ⟨v, t, h1, h2, fun g hg hJ => h3 g hg (hj g hJ)⟩

set_option maxRecDepth 20000 in
set_option maxHeartbeats 800000 in
theorem fillUp_deferred (K : Nat → Prop) (p : Nat) (bs : List Nat) (u : FrameMode) (w : World) (hp : ¬ K p) (hK : ∀ k, K k → k < w.heap.size) (hw : Wr K w p bs) (hlen : bs.length ≤ 90000) :
    CallsD Tryz.prog 136 #[.pointer (some ⟨p, 0, none⟩)] u w fun e u' w' => u' = u ∧ (e = .returned (.tuple #[]) ∧ Wr K w' p (padN bs) ∧ Kept K w w') := by
  have HK := hide hK
  clear hK
  go_enter_d Tryz.func136, Tryz.ntmps136
  go_wp2_with fail
  go_loopw [] (fun wr => ∃ cs, Hid (padN cs = padN bs) ∧ Wr K wr p cs ∧ Kept K w wr) (fun wr => match wr.cell? ⟨p, 2, none⟩ with | some (.int .i64 h) => (8 - h.toNat) % 8 | _ => 0)
  case atStart => exact ⟨bs, rfl, hw, Kept.refl _ _⟩
  case round =>
    clear hw
    obtain ⟨cs, hI, hw, hkp⟩ := hrel
    have hl : cs.length ≤ 90008 := by
      have := congrArg List.length (unhide hI)
      rw [padN_length, padN_length] at this; omega
    have HW := hide hw
    obtain ⟨v, t, hh, hown, hg⟩ := hw
    have c2 := cell_of_row wr p 2 _ t _ hh
    simp only [List.getElem?_toArray, List.getElem?_cons_zero, List.getElem?_cons_succ] at c2
    clear hown hg hh
    by_cases h8 : cs.length % 8 = 0
    · rw [h8] at c2
      go_wp2_with fail
      go_end0
      have e := padN_full cs h8
      rw [unhide hI] at e
      exact ⟨rfl, e ▸ unhide HW, hkp⟩
    · have h80 : (0 : Int) < ((cs.length % 8 : Nat) : Int) := by omega
      generalize hr : cs.length % 8 = r at c2 h80
      have HR := hide hr
      have hr8 : r < 8 := by omega
      clear hr h8
      go_wp2_with fail
      refine (write_any K p 0 1 cs wr hp (fun k hk => Nat.lt_of_lt_of_le (unhide HK k hk) hkp.size) (unhide HW) (by omega) (by omega) (by omega)).mono ?_
      rintro e w1 ⟨rfl, hw1, hk1⟩
      go_wp2_with fail
      go_roundw
      case rel =>
        have h1 := unhide HR
        refine ⟨cs ++ [0], ?_, hw1, hkp.trans hk1⟩
        exact (padN_snoc cs (by omega)).trans (unhide hI)
      case measure =>
        obtain ⟨v, t, hh, _, _⟩ := hw1
        have d2 := cell_of_row w1 p 2 _ t _ hh
        simp only [List.getElem?_toArray, List.getElem?_cons_zero, List.getElem?_cons_succ] at d2
        have h1 := unhide HR
        rw [c2, d2]
        simp only [List.length_append, bitsN_length, Int.toNat_natCast]
        omega

set_option maxRecDepth 20000 in
set_option maxHeartbeats 1600000 in
theorem writeSamples_nil (K : Nat → Prop) (p : Nat) (v : Value) (w : World) (hp : ¬ K p) (hK : ∀ k, K k → k < w.heap.size) (hw : Wr K w p []) (hv : RdS K w v []) :
    Calls Tryz.prog 81 #[.pointer (some ⟨p, 0, none⟩), v] w fun e w' => e = .returned (.tuple #[]) ∧ Wr K w' p (padN (packN [])) ∧ Kept K w w' := by
  obtain ⟨ao, cap, rfl, _, _⟩ := hv
  have HK := hide hK
  have HW := hide (write_any K p 0 16 [] w hp hK hw (by simp) (by omega) (by omega))
  clear hK
  simp only [List.length_nil]
  go_enter_defers Tryz.func81, Tryz.ntmps81
  go_wp2_with fail
  refine (unhide HW).mono ?_
  rintro e w1 ⟨rfl, hw1, hk1⟩
  go_wp2_with fail
  refine leaves_cons (f := 136) (args := #[.pointer (some ⟨p, 0, none⟩)]) (by simp) (by simp [go_sem]) ?_
  refine (fillUp_deferred K p _ .returning w1 hp (fun k hk => Nat.lt_of_lt_of_le (unhide HK k hk) hk1.size) hw1 (by simp [bitsN_length])).mono ?_
  rintro e u' w2 ⟨rfl, rfl, hw2, hk2⟩
  exact ⟨_, results_none rfl _ _ _, rfl, hw2, hk1.trans hk2⟩

theorem RdS.at {K : Nat → Prop} {w : World} {g o n cap : Nat} {s : Smp} {r : List Smp} (h : RdS K w (.slice (some ⟨g, o, none⟩) n cap) (s :: r)) {i : Nat} (hi : i < r.length) :
    w.cell? ⟨g, o + 2 + i * 2, none⟩ = some (.int .i64 (r.getD i (0, 0)).1) ∧ w.cell? ⟨g, o + 2 + i * 2 + 1, none⟩ = some (.int .u64 (r.getD i (0, 0)).2) := by
  obtain ⟨ao, c, h1, h2, h3⟩ := h
  obtain ⟨g', o', _, h5, h6⟩ := h3 (by simp)
  cases h1
  cases h5
  have := h6 (i + 1) (by simp; omega)
  rw [List.getD_cons_succ] at this
  rw [show o + 2 + i * 2 = o + 2 * (i + 1) by omega]
  exact this

theorem Wr.psize {K : Nat → Prop} {w : World} {p : Nat} {bs : List Nat} (h : Wr K w p bs) : p < w.heap.size := by
  obtain ⟨v, t, hh, _⟩ := h; exact (Array.getElem?_eq_some_iff.1 hh).1

theorem Fix.lift {K : Nat → Prop} {w wr : World} {p q : Nat} {B : List Nat} {t : Tr} (F : Fix K w p q) (h : St K w wr p q B t) (o : Obj) : Fix (And1 K wr.heap.size) (wr.alloc o) p q := by
  have hp := h.wr.psize
  have hq := h.tr.cells.2.2
  refine ⟨F.pq, ?_, ?_, ?_, ⟨Or.inl F.G.1, Or.inl F.G.2⟩⟩
  · rintro (h | h)
    · exact F.np h
    · omega
  · rintro (h | h)
    · exact F.nq h
    · omega
  · rintro k (hk | rfl)
    · have := h.size F k (Or.inl hk); simp; omega
    · simp

theorem St.lift {K : Nat → Prop} {w wr : World} {p q : Nat} {B : List Nat} {t : Tr} (h : St K w wr p q B t) (F : Fix K w p q) (o : Obj) : St (And1 K wr.heap.size) (wr.alloc o) (wr.alloc o) p q B t := by
  have hb : Below wr.heap.size wr (wr.alloc o) := (Below.refl _ wr).alloc (Nat.le_refl _) o
  have h2 := h.below F hb
  refine ⟨?_, h2.tr, Kept.refl _ _, h2.tabs⟩
  obtain ⟨v, ty, h3, h4, h5⟩ := h.wr
  refine ⟨v, ty, (hb.block p (Array.getElem?_eq_some_iff.1 h3).1).trans h3, h4.alloc o, fun g hg hA => ?_⟩
  have hlt := (h4.lt g hg).2
  rcases hA with (hA | hA) | hA
  · exact h5 g hg (Or.inl hA)
  · omega
  · exact h5 g hg (Or.inr hA)

theorem St.drop {K : Nat → Prop} {w wr w5 : World} {p q : Nat} {B B' : List Nat} {t t' : Tr} {o : Obj} (h5 : St (And1 K wr.heap.size) (wr.alloc o) w5 p q B' t') (h : St K w wr p q B t) (F : Fix K w p q) : St K w w5 p q B' t' := by
  have h2 := h.below F ((Below.refl _ wr).alloc (Nat.le_refl _) o)
  refine ⟨h5.wr.sub ?_, h5.tr, h2.kept.trans (h5.kept.sub (fun k hk => Or.inl hk)), h5.tabs⟩
  rintro k (hk | hk)
  · exact Or.inl (Or.inl hk)
  · exact Or.inr hk

theorem rest_step {t : Tr} {r : List Smp} {i : Nat} (hi : i < r.length) : restN t (r.drop i) = (wrN t (r.getD i (0, 0))).1 ++ restN (wrN t (r.getD i (0, 0))).2 (r.drop (i + 1)) := by
  rw [List.drop_eq_getElem_cons hi, restN]
  have : r.getD i (0, 0) = r[i] := by rw [List.getD_eq_getElem?_getD, List.getElem?_eq_getElem hi]; rfl
  rw [this]

theorem wr_length {t : Tr} (ht : t.Ok) (s : Smp) : (wrN t s).1.length ≤ 145 := by
  have h1 := timeN_length (wI (wI (s.1 - t.T) - t.step))
  have h2 := valN_length (L := t.L) (M := t.M) (x := s.2 ^^^ t.V) ht.LM
  have h3 : (wrN t s).1 = timeN (wI (wI (s.1 - t.T) - t.step)) ++ (valN t.L t.M (s.2 ^^^ t.V)).1 := rfl
  rw [h3, List.length_append]; omega

theorem mem_getD {r : List Smp} {i : Nat} (hi : i < r.length) : r.getD i (0, 0) ∈ r := by
  have : r.getD i (0, 0) = r[i] := by rw [List.getD_eq_getElem?_getD, List.getElem?_eq_getElem hi]; rfl
  rw [this]; exact List.getElem_mem hi

set_option maxRecDepth 20000 in
set_option maxHeartbeats 1600000 in
theorem writeSamples_cons (K : Nat → Prop) (p : Nat) (v : Value) (s : Smp) (r : List Smp) (w : World) (hp : ¬ K p) (hK : ∀ k, K k → k < w.heap.size) (hw : Wr K w p []) (hv : RdS K w v (s :: r)) (hl : r.length < 40) (hs : ∀ x ∈ s :: r, SOk x) (hT : CTabs w) (hG : GK K) :
    Calls Tryz.prog 81 #[.pointer (some ⟨p, 0, none⟩), v] w fun e w' => e = .returned (.tuple #[]) ∧ Wr K w' p (padN (packN (s :: r))) ∧ Kept K w w' := by
  have HV := hide hv
  obtain ⟨ao, cap, rfl, hcap, hcell⟩ := hv
  obtain ⟨g, o, hKg, rfl, hcells⟩ := hcell (by simp)
  have HK := hide hK
  have HW := hide (fun n => write_any K p n 16 [] w hp hK hw (by simp))
  have HS := hide hs
  have HT := hide hT
  have hn : (s :: r).length = r.length + 1 := rfl
  have hs0 := hs s (by simp)
  obtain ⟨c0, c1⟩ := hcells 0 (by simp)
  simp only [Nat.mul_zero, Nat.add_zero, List.getD_cons_zero] at c0 c1
  have hT0 : IntKind.u64.wrap s.1 = (uN s.1 : Int) := by rw [IntKind.wrap_u64]; unfold uN; omega
  rw [hn] at hcap ⊢
  clear hK hw hs hT hcell hcells
  have hs1 := hs0.1
  have hs2 := hs0.2
  unfold I64 at hs1
  clear hs0
  go_enter_defers Tryz.func81, Tryz.ntmps81
  go_wp2_with fail
  have hn1 : (r.length : Int) + 1 = ((r.length + 1 : Nat) : Int) := by omega
  rw [hn1]
  refine (unhide HW _ (by omega) (by omega)).mono ?_
  rintro e w1 ⟨rfl, hw1, hk1⟩
  have d0 : w1.cell? ⟨g, o, none⟩ = some (.int .i64 s.1) := (hk1.cell (p := ⟨g, o, none⟩) hKg).trans c0
  have d1 : w1.cell? ⟨g, o + 1, none⟩ = some (.int .u64 s.2) := (hk1.cell (p := ⟨g, o + 1, none⟩) hKg).trans c1
  rw [← hn1]
  clear hn1
  go_wp2_with fail
  refine (write_any K p (uN s.1) 64 _ w1 hp (fun k hk => Nat.lt_of_lt_of_le (unhide HK k hk) hk1.size) hw1 (by simp [bitsN_length]) (uN_lt _) (by omega)).mono ?_
  rintro e w2 ⟨rfl, hw2, hk2⟩
  have hk12 := hk1.trans hk2
  clear hw1 hk1 hk2 d0 d1 w1
  have d0 : w2.cell? ⟨g, o, none⟩ = some (.int .i64 s.1) := (hk12.cell (p := ⟨g, o, none⟩) hKg).trans c0
  have d1 : w2.cell? ⟨g, o + 1, none⟩ = some (.int .u64 s.2) := (hk12.cell (p := ⟨g, o + 1, none⟩) hKg).trans c1
  go_wp2_with fail
  refine (write_any K p s.2 64 _ w2 hp (fun k hk => Nat.lt_of_lt_of_le (unhide HK k hk) hk12.size) hw2 (by simp [bitsN_length]) hs2 (by omega)).mono ?_
  rintro e w3 ⟨rfl, hw3, hk3⟩
  have hk13 := hk12.trans hk3
  clear hw2 hk12 hk3 d0 d1 w2
  have d0 : w3.cell? ⟨g, o, none⟩ = some (.int .i64 s.1) := (hk13.cell (p := ⟨g, o, none⟩) hKg).trans c0
  have d1 : w3.cell? ⟨g, o + 1, none⟩ = some (.int .u64 s.2) := (hk13.cell (p := ⟨g, o + 1, none⟩) hKg).trans c1
  clear c0 c1
  have hq : Hid (¬ K w3.heap.size) := fun h => by have := unhide HK _ h; have := hk13.size; omega
  have hps : p < w3.heap.size := by obtain ⟨v, t, hh, _⟩ := hw3; exact (Array.getElem?_eq_some_iff.1 hh).1
  have HF : Hid (Fix K w p w3.heap.size) := ⟨by omega, hp, unhide hq, unhide HK, hG⟩
  have H3 := hide hw3
  have HP := hide hk13
  have hS0 : Hid (∀ ty, St K w (w3.alloc (.cells #[.int .i64 s.1, .int .u64 s.2, .int .i64 0, .int .i64 0, .int .i64 0] ty)) p w3.heap.size ([] ++ bitsN (r.length + 1) 16 ++ bitsN (uN s.1) 64 ++ bitsN s.2 64) ⟨s.1, s.2, 0, 0, 0⟩) := by
    intro ty
    have hb : Below w3.heap.size w3 (w3.alloc (.cells #[.int .i64 s.1, .int .u64 s.2, .int .i64 0, .int .i64 0, .int .i64 0] ty)) := (Below.refl _ w3).alloc (Nat.le_refl _) _
    have hkk : Kept K w3 (w3.alloc (.cells #[.int .i64 s.1, .int .u64 s.2, .int .i64 0, .int .i64 0, .int .i64 0] ty)) := Kept.ofBelow hb (fun k hk => Nat.lt_of_lt_of_le (unhide HK k hk) (unhide HP).size)
    refine ⟨?_, ⟨ty, heap_alloc_new w3 _⟩, (unhide HP).trans hkk, ((unhide HT).kept hG (unhide HP)).kept hG hkk⟩
    obtain ⟨v, t, h1, h2, h3⟩ := (unhide H3).below hb
    refine ⟨v, t, h1, h2, fun k hk hA => ?_⟩
    rcases hA with hA | hA
    · exact h3 k hk hA
    · obtain ⟨v', t', h1', h2', h3'⟩ := unhide H3
      rw [hb.block p hps] at h1
      rw [h1] at h1'
      cases h1'
      have := (h2'.lt k hk).2
      omega
  clear hw3 hk13
  have hO0 : Hid (Tr.Ok ⟨s.1, s.2, 0, 0, 0⟩) := ⟨(unhide HS s (by simp)).1, hs2, (by unfold I64; omega : I64 0), by simp, by simp, fun _ => rfl⟩
  by_cases hc1 : cap = 1
  · subst hc1
    have hr0 : r = [] := List.eq_nil_of_length_eq_zero (by omega)
    subst hr0
    go_wp2_with fail
    go_loopw [36] (fun z wr => z = .int .i64 0 ∧ Hid (St K w wr p w3.heap.size ([] ++ bitsN (([] : List Smp).length + 1) 16 ++ bitsN (uN s.1) 64 ++ bitsN s.2 64) ⟨s.1, s.2, 0, 0, 0⟩)) (fun _ _ => 0)
    case atStart => exact ⟨rfl, unhide hS0 _⟩
    case round =>
      obtain ⟨rfl, hS⟩ := hrel
      clear d0 d1
      go_wp2_with fail
      refine leaves_cons (f := 136) (args := #[.pointer (some ⟨p, 0, none⟩)]) (by simp) (by simp [go_sem]) ?_
      have hSS := unhide hS
      refine (fillUp_deferred K p _ .returning wr hp (fun k hk => Nat.lt_of_lt_of_le (unhide HK k hk) hSS.kept.size) (hSS.wr.sub (fun k hk => Or.inl hk)) (by simp [bitsN_length])).mono ?_
      rintro e u' w5 ⟨rfl, rfl, hw5, hk5⟩
      refine ⟨_, results_none rfl _ _ _, rfl, ?_, hSS.kept.trans hk5⟩
      have e : packN [s] = [] ++ bitsN (([] : List Smp).length + 1) 16 ++ bitsN (uN s.1) 64 ++ bitsN s.2 64 := by
        rw [packN, restN, List.append_nil, List.nil_append]
      rw [e]
      exact hw5
  · go_wp2_with fail
    go_loopw [36] (fun z wr => ∃ (i : Nat) (t : Tr) (B : List Nat), i ≤ r.length ∧ z = .int .i64 i ∧ Hid (B ++ restN t (r.drop i) = [] ++ bitsN (r.length + 1) 16 ++ bitsN (uN s.1) 64 ++ bitsN s.2 64 ++ restN ⟨s.1, s.2, 0, 0, 0⟩ r) ∧ Hid t.Ok ∧ B.length ≤ 144 + 145 * i ∧ Hid (St K w wr p w3.heap.size B t)) (fun z _ => r.length - (RowKit.intOf z).toNat)
    case atStart => exact ⟨0, _, _, Nat.zero_le _, rfl, by rw [List.drop_zero]; rfl, hO0, by simp [bitsN_length], unhide hS0 _⟩
    case round =>
      obtain ⟨i, t, B, hi, rfl, hI, hO, hB, hS⟩ := hrel
      by_cases hir : i < r.length
      · have hcl := ((unhide HV).kept (unhide hS).kept).at hir
        obtain ⟨c0, c1⟩ := hcl
        have hsi := unhide HS _ (List.mem_cons_of_mem s (mem_getD hir))
        have hst := hide (rest_step (t := t) hir)
        have hwl := wr_length (unhide hO) (r.getD i (0, 0))
        have hwo := hide (wrN_ok t (unhide hO) _ hsi)
        generalize r.getD i (0, 0) = x at c0 c1 hsi hst hwl hwo
        obtain ⟨T, V⟩ := x
        simp only at c0 c1
        have hV := hsi.2
        have hsT := hide hsi.1
        simp only at hV
        have hwr := unhide hS
        clear d0 d1
        have hz : ∀ o', St (And1 K wr.heap.size) (wr.alloc o') (wr.alloc o') p w3.heap.size B t := fun o' => hwr.lift (unhide HF) o'
        have HZ := hide hz
        have HFz : Hid (∀ o', Fix (And1 K wr.heap.size) (wr.alloc o') p w3.heap.size) := fun o' => (unhide HF).lift hwr o'
        clear hz hwr hsi
        go_wp2_with fail
        refine ((unhide HZ _).time (unhide HFz _) T (by omega)).mono ?_
        rintro e w4 ⟨rfl, hS4⟩
        have e4 : w4.cell? ⟨wr.heap.size, 1, none⟩ = some (.int .u64 V) := (hS4.kept.cell (p := ⟨wr.heap.size, 1, none⟩) (Or.inr rfl)).trans (by simp)
        have hS4' := hide hS4
        clear hS4 c0 c1
        go_wp2_with fail
        have hl4 : (B ++ timeN (wI (wI (T - t.T) - t.step))).length ≤ 90000 := by
          have := timeN_length (wI (wI (T - t.T) - t.step))
          rw [List.length_append]; omega
        have hO' := unhide hO
        refine ((unhide hS4').value (unhide HFz _) V hl4 hV ⟨?_, hO'.V, wI_in _, hO'.LM, hO'.L31, hO'.M0⟩).mono ?_
        · exact hsT
        rintro e w5 ⟨rfl, hS5⟩
        go_wp2_with fail
        go_roundw
        case rel =>
          refine ⟨i + 1, (wrN t (T, V)).2, B ++ (wrN t (T, V)).1, by omega, by go_num, ?_, hwo, ?_, ?_⟩
          · have h1 := unhide hI
            rw [unhide hst] at h1
            show (B ++ (wrN t (T, V)).1) ++ restN (wrN t (T, V)).2 (r.drop (i + 1)) = _
            rw [← h1, List.append_assoc]
          · rw [List.length_append]; omega
          · have h1 := hS5.drop (unhide hS) (unhide HF)
            rw [List.append_assoc] at h1
            exact h1
        case measure => simp [RowKit.intOf]; omega
      · have hir2 : i = r.length := by omega
        subst hir2
        clear d0 d1
        go_wp2_with fail
        refine leaves_cons (f := 136) (args := #[.pointer (some ⟨p, 0, none⟩)]) (by simp) (by simp [go_sem]) ?_
        have hSS := unhide hS
        refine (fillUp_deferred K p B .returning wr hp (fun k hk => Nat.lt_of_lt_of_le (unhide HK k hk) hSS.kept.size) (hSS.wr.sub (fun k hk => Or.inl hk)) (by omega)).mono ?_
        rintro e u' w5 ⟨rfl, rfl, hw5, hk5⟩
        refine ⟨_, results_none rfl _ _ _, rfl, ?_, hSS.kept.trans hk5⟩
        have h1 := unhide hI
        rw [List.drop_length, restN, List.append_nil] at h1
        rw [h1] at hw5
        exact hw5
end Go.Proofs.YtgekdmjneogdoaaGreatDoor
