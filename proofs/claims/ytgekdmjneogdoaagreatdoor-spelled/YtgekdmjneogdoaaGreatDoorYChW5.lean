import Derived.Test.YtgekdmjneogdoaaGreatDoorYChW2
import Derived.Recover
import Derived.Laws.BytesString
namespace Go.Proofs.YtgekdmjneogdoaaGreatDoor
open Go.RowKit

set_option maxRecDepth 20000 in
set_option maxHeartbeats 1600000 in
theorem value_new {K : Nat → Prop} {w w1 : World} {p q : Nat} {B : List Nat} {t : Tr} (h : St K w w1 p q B t) (F : Fix K w p q) (V x : Nat) (hB : B.length ≤ 90000) (ex : bits BinOp.xor IntKind.u64 (V : Int) (t.V : Int) = (x : Int)) (h0 : x ≠ 0) (hx : x < 18446744073709551616)
    (hLM0 : t.L + t.M ≤ 64) (hf : ¬ (t.L ≤ lzN x ∧ 64 - t.L - t.M ≤ tzN x)) (L M b : Nat) (hL : min (lzN x) 31 = L) (hb : tzN x = b) (hLM : L + M + b = 64) (hM1 : 1 ≤ M) :
    Calls Tryz.prog 139 #[.pointer (some ⟨q, 0, none⟩), .pointer (some ⟨p, 0, none⟩), .int .u64 V] w1 fun e w' => e = .returned (.tuple #[]) ∧ St K w w' p q (B ++ bitsN 1 1 ++ bitsN 1 1 ++ bitsN L 5 ++ bitsN (M - 1) 6 ++ bitsN (x / 2 ^ b) M) { t with V := V, L := L, M := M } := by
  have H0 := hide (h.setV F V)
  obtain ⟨⟨_, c1, _, c3, c4⟩, hfz, hqs⟩ := h.tr.cells
  have f1 := hfz 1
  clear hfz h
  have HF := hide F
  clear F
  have g0 : ((x : Int) == 0) = false := by rw [beq_eq_false_iff_ne]; omega
  have hfd := decide_eq_false hf
  have Hf := hide hfd
  clear hf hfd
  have hwM : 64 - (L : Int) - b = (M : Int) := by omega
  have HWO : Hid (∀ w, CTabs w → GK (fun k => k < w.heap.size) → Calls Tryz.prog 194 #[.int .u64 x] w fun e w' => e = .returned (.agg #[.int .i64 L, .int .i64 M]) ∧ ∃ o, w' = w.alloc o) := fun w h1 h2 => by
    have := windowOf_any x w hx h0 h1 h2
    rw [hL, hb, hwM] at this
    exact this
  go_enter Tryz.func139, Tryz.ntmps139
  go_wp2_with fail
  refine ((unhide H0).write (unhide HF) 1 1 (by omega) (by omega) (by omega)).mono ?_
  rintro e w2 ⟨rfl, hS⟩
  have H1 := hide hS
  clear c1 c3 c4 f1 hqs H0
  obtain ⟨⟨_, _, _, c3, c4⟩, _, _⟩ := hS.tr.cells
  clear hS
  simp only at c3 c4
  go_wp2_with fail
  refine (fits_any t.L t.M x w2 (by omega) (by omega) hx h0 (unhide H1).tabs ((unhide H1).GK (unhide HF))).mono ?_
  rintro e w3 ⟨rfl, hb3⟩
  have hS3 := (unhide H1).below (unhide HF) hb3
  have H3 := hide hS3
  obtain ⟨⟨_, _, _, c3', c4'⟩, hfz, hqs⟩ := hS3.tr.cells
  have f3 := hfz 3
  have f4 := hfz 4
  clear hS3 hb3 H1 c3 c4 hfz
  simp only at c3' c4'
  rw [unhide Hf]
  go_wp2_with fail
  refine (unhide HWO w3 (unhide H3).tabs ((unhide H3).GK (unhide HF))).mono ?_
  rintro e w4 ⟨rfl, o, rfl⟩
  have hS4 := ((unhide H3).setLM (unhide HF) L M).below (unhide HF) ((Below.refl _ _).alloc (Nat.le_refl _) o)
  have H4 := hide hS4
  clear hS4
  go_wp2_with fail
  refine ((unhide H4).write (unhide HF) 1 1 (by simp [bitsN_length]; omega) (by omega) (by omega)).mono ?_
  rintro e w5 ⟨rfl, hS⟩
  have H5 := hide hS
  clear c3' c4' f3 f4 hqs H4 H3
  obtain ⟨⟨_, _, _, c3, c4⟩, _, _⟩ := hS.tr.cells
  clear hS
  simp only at c3 c4
  have hL64 : L ≤ 64 := by omega
  go_wp2_with fail
  refine ((unhide H5).write (unhide HF) L 5 (by simp [bitsN_length]; omega) (by omega) (by omega)).mono ?_
  rintro e w6 ⟨rfl, hS⟩
  have H6 := hide hS
  clear c3 c4 H5
  obtain ⟨⟨_, _, _, c3, c4⟩, _, _⟩ := hS.tr.cells
  clear hS
  simp only at c3 c4
  have hM2 : (M : Int) - 1 = ((M - 1 : Nat) : Int) := by omega
  go_wp2_with fail
  refine ((unhide H6).write (unhide HF) (M - 1) 6 (by simp [bitsN_length]; omega) (by omega) (by omega)).mono ?_
  rintro e w7 ⟨rfl, hS⟩
  have H7 := hide hS
  clear c3 c4 H6
  obtain ⟨⟨_, _, _, c3, c4⟩, _, hqs⟩ := hS.tr.cells
  clear hS
  simp only at c3 c4
  have H8 : Hid (∀ o, St K w (w7.alloc o).drew p q (B ++ bitsN 1 1 ++ bitsN 1 1 ++ bitsN L 5 ++ bitsN (M - 1) 6) { t with V := V, L := L, M := M }) := fun o => (unhide H7).below (unhide HF) ((Below.refl _ w7).alloc (Nat.le_refl _) o).drew
  have hb2 : 64 - (L : Int) - M = (b : Int) := by omega
  have HB := hide (fun w => behind_any L M w (by omega) (by omega))
  have hM : M ≤ 64 := by omega
  have hxb : x / 2 ^ b < 18446744073709551616 := Nat.lt_of_le_of_lt (Nat.div_le_self _ _) hx
  rw [hb2] at HB
  clear hM2 hwM hL hb
  go_wp2_with fail
  go_region_with (first | (go_at_call 141; refine (unhide HB _).mono ?_; rintro e w' ⟨rfl, o, rfl⟩) | (go_at_call 137; rw [shr_nat]; refine ((unhide H8 _).write (unhide HF) (x / 2 ^ b) M (by simp [bitsN_length]; omega) hxb hM).mono ?_; rintro e w8 ⟨rfl, hS8⟩))
  all_goals
    go_wp2_with fail
    first | go_end0 | refine bodyPost_ret (results_none rfl _ _ _) rfl ?_
    exact ⟨rfl, hS8⟩

/-- writeValue, all ways -/
theorem St.value {K : Nat → Prop} {w w1 : World} {p q : Nat} {B : List Nat} {t : Tr} (h : St K w w1 p q B t) (F : Fix K w p q) (V : Nat) (hB : B.length ≤ 90000) (hV : V < 18446744073709551616) (hO : t.Ok) :
    Calls Tryz.prog 139 #[.pointer (some ⟨q, 0, none⟩), .pointer (some ⟨p, 0, none⟩), .int .u64 V] w1 fun e w' => e = .returned (.tuple #[]) ∧
      St K w w' p q (B ++ (valN t.L t.M (V ^^^ t.V)).1) { t with V := V, L := (valN t.L t.M (V ^^^ t.V)).2.1, M := (valN t.L t.M (V ^^^ t.V)).2.2 } := by
  have hVt := hO.V
  have ex := u64_xor_nat V t.V hV hVt
  have hx64 : V ^^^ t.V < 18446744073709551616 := Nat.xor_lt_two_pow (n := 64) hV hVt
  have hok := valN_ok hO.LM hO.L31 hO.M0 hx64
  generalize V ^^^ t.V = x at ex hx64 hok
  by_cases h0 : x = 0
  · subst h0
    exact value_zero h F V hB (by simpa using ex)
  · by_cases hf : t.L ≤ lzN x ∧ 64 - t.L - t.M ≤ tzN x
    · have e : valN t.L t.M x = ([1, 0] ++ bitsN (x / 2 ^ (64 - t.L - t.M)) t.M, t.L, t.M) := by rw [valN, if_neg h0, if_pos hf]
      rw [e]
      have := value_fits h F V x hB ex h0 hx64 (64 - t.L - t.M) (by have := hO.LM; omega) hf
      simpa [bitsN] using this
    · have e : valN t.L t.M x = ([1, 1] ++ bitsN (min (lzN x) 31) 5 ++ bitsN (64 - min (lzN x) 31 - tzN x - 1) 6 ++ bitsN (x / 2 ^ (64 - min (lzN x) 31 - (64 - min (lzN x) 31 - tzN x))) (64 - min (lzN x) 31 - tzN x), min (lzN x) 31, 64 - min (lzN x) 31 - tzN x) := by rw [valN, if_neg h0, if_neg hf]
      rw [e] at hok ⊢
      have ht := (tzN_spec h0 hx64).1
      simp only at hok
      have hM1 : 1 ≤ 64 - min (lzN x) 31 - tzN x := by omega
      have hbb : 64 - min (lzN x) 31 - (64 - min (lzN x) 31 - tzN x) = tzN x := by omega
      rw [hbb]
      have := value_new h F V x hB ex h0 hx64 hO.LM hf (min (lzN x) 31) (64 - min (lzN x) 31 - tzN x) (tzN x) rfl rfl (by omega) hM1
      simp only [List.append_assoc] at this ⊢
      exact this

end Go.Proofs.YtgekdmjneogdoaaGreatDoor

namespace Go.Proofs.YtgekdmjneogdoaaGreatDoor
open Go.RowKit

/-- a slice value that reads samples, out of a block of K -/
def RdS (K : Nat → Prop) (w : World) (v : Value) (l : List Smp) : Prop :=
  ∃ ao cap, v = .slice ao l.length cap ∧ l.length ≤ cap ∧ (0 < l.length → ∃ g o, K g ∧ ao = some ⟨g, o, none⟩ ∧ ∀ j, j < l.length → w.cell? ⟨g, o + 2 * j, none⟩ = some (.int .i64 (l.getD j (0, 0)).1) ∧ w.cell? ⟨g, o + 2 * j + 1, none⟩ = some (.int .u64 (l.getD j (0, 0)).2))

theorem RdS.kept {K : Nat → Prop} {w w' : World} {v : Value} {l : List Smp} (h : RdS K w v l) (hk : Kept K w w') : RdS K w' v l := by
  obtain ⟨ao, cap, h1, h2, h3⟩ := h
  refine ⟨ao, cap, h1, h2, fun h0 => ?_⟩
  obtain ⟨g, o, h4, h5, h6⟩ := h3 h0
  exact ⟨g, o, h4, h5, fun j hj => ⟨(hk.cell (p := ⟨g, _, none⟩) h4).trans (h6 j hj).1, (hk.cell (p := ⟨g, _, none⟩) h4).trans (h6 j hj).2⟩⟩

theorem Wr.sub {K J : Nat → Prop} {w : World} {p : Nat} {bs : List Nat} (h : Wr K w p bs) (hj : ∀ k, J k → K k) : Wr J w p bs := by
  obtain ⟨v, t, h1, h2, h3⟩ := h
  exact ⟨v, t, h1, h2, fun g hg hJ => h3 g hg (hj g hJ)⟩

set_option maxRecDepth 20000 in
set_option maxHeartbeats 800000 in
theorem fillUp_deferred (K : Nat → Prop) (p : Nat) (bs : List Nat) (u : FrameMode) (w : World) (hp : ¬ K p) (hK : ∀ k, K k → k < w.heap.size) (hw : Wr K w p bs) (hlen : bs.length ≤ 90000) :
    CallsD Tryz.prog 136 #[.pointer (some ⟨p, 0, none⟩)] u w fun e u' w' => u' = u ∧ (e = .returned (.tuple #[]) ∧ Wr K w' p (padN bs) ∧ Kept K w w') := by
  have HK := hide hK
  clear hK
  go_enter_d Tryz.func136, Tryz.ntmps136
  go_wp2_with fail
  go_loopw [] (fun wr => ∃ cs, Hid (padN cs = padN bs) ∧ Wr K wr p cs ∧ Kept K w wr) (fun wr => match wr.cell? ⟨p, 2, none⟩ with | some (.int .i64 h) => (8 - h.toNat) % 8 | _ => 0)
  case atStart => exact ⟨bs, rfl, hw, Kept.refl _ _⟩
  case round =>
    clear hw
    obtain ⟨cs, hI, hw, hkp⟩ := hrel
    have hl : cs.length ≤ 90008 := by
      have := congrArg List.length (unhide hI)
      rw [padN_length, padN_length] at this; omega
    have HW := hide hw
    obtain ⟨v, t, hh, hown, hg⟩ := hw
    have c2 := cell_of_row wr p 2 _ t _ hh
    simp only [List.getElem?_toArray, List.getElem?_cons_zero, List.getElem?_cons_succ] at c2
    clear hown hg hh
    by_cases h8 : cs.length % 8 = 0
    · rw [h8] at c2
      go_wp2_with fail
      go_end0
      have e := padN_full cs h8
      rw [unhide hI] at e
      exact ⟨rfl, e ▸ unhide HW, hkp⟩
    · have h80 : (0 : Int) < ((cs.length % 8 : Nat) : Int) := by omega
      generalize hr : cs.length % 8 = r at c2 h80
      have HR := hide hr
      have hr8 : r < 8 := by omega
      clear hr h8
      go_wp2_with fail
      refine (write_any K p 0 1 cs wr hp (fun k hk => Nat.lt_of_lt_of_le (unhide HK k hk) hkp.size) (unhide HW) (by omega) (by omega) (by omega)).mono ?_
      rintro e w1 ⟨rfl, hw1, hk1⟩
      go_wp2_with fail
      go_roundw
      case rel =>
        have h1 := unhide HR
        refine ⟨cs ++ [0], ?_, hw1, hkp.trans hk1⟩
        exact (padN_snoc cs (by omega)).trans (unhide hI)
      case measure =>
        obtain ⟨v, t, hh, _, _⟩ := hw1
        have d2 := cell_of_row w1 p 2 _ t _ hh
        simp only [List.getElem?_toArray, List.getElem?_cons_zero, List.getElem?_cons_succ] at d2
        have h1 := unhide HR
        rw [c2, d2]
        simp only [List.length_append, bitsN_length, Int.toNat_natCast]
        omega

set_option maxRecDepth 20000 in
set_option maxHeartbeats 1600000 in
theorem writeSamples_nil (K : Nat → Prop) (p : Nat) (v : Value) (w : World) (hp : ¬ K p) (hK : ∀ k, K k → k < w.heap.size) (hw : Wr K w p []) (hv : RdS K w v []) :
    Calls Tryz.prog 81 #[.pointer (some ⟨p, 0, none⟩), v] w fun e w' => e = .returned (.tuple #[]) ∧ Wr K w' p (padN (packN [])) ∧ Kept K w w' := by
  obtain ⟨ao, cap, rfl, _, _⟩ := hv
  have HK := hide hK
  have HW := hide (write_any K p 0 16 [] w hp hK hw (by simp) (by omega) (by omega))
  clear hK
  simp only [List.length_nil]
  go_enter_defers Tryz.func81, Tryz.ntmps81
  go_wp2_with fail
  refine (unhide HW).mono ?_
  rintro e w1 ⟨rfl, hw1, hk1⟩
  go_wp2_with fail
  refine leaves_cons (f := 136) (args := #[.pointer (some ⟨p, 0, none⟩)]) (by simp) (by simp [go_sem]) ?_
  refine (fillUp_deferred K p _ .returning w1 hp (fun k hk => Nat.lt_of_lt_of_le (unhide HK k hk) hk1.size) hw1 (by simp [bitsN_length])).mono ?_
  rintro e u' w2 ⟨rfl, rfl, hw2, hk2⟩
  exact ⟨_, results_none rfl _ _ _, rfl, hw2, hk1.trans hk2⟩

theorem RdS.at {K : Nat → Prop} {w : World} {g o n cap : Nat} {s : Smp} {r : List Smp} (h : RdS K w (.slice (some ⟨g, o, none⟩) n cap) (s :: r)) {i : Nat} (hi : i < r.length) :
    w.cell? ⟨g, o + 2 + i * 2, none⟩ = some (.int .i64 (r.getD i (0, 0)).1) ∧ w.cell? ⟨g, o + 2 + i * 2 + 1, none⟩ = some (.int .u64 (r.getD i (0, 0)).2) := by
  obtain ⟨ao, c, h1, h2, h3⟩ := h
  obtain ⟨g', o', _, h5, h6⟩ := h3 (by simp)
  cases h1
  cases h5
  have := h6 (i + 1) (by simp; omega)
  rw [List.getD_cons_succ] at this
  rw [show o + 2 + i * 2 = o + 2 * (i + 1) by omega]
  exact this

theorem Wr.psize {K : Nat → Prop} {w : World} {p : Nat} {bs : List Nat} (h : Wr K w p bs) : p < w.heap.size := by
  obtain ⟨v, t, hh, _⟩ := h; exact (Array.getElem?_eq_some_iff.1 hh).1

theorem Fix.lift {K : Nat → Prop} {w wr : World} {p q : Nat} {B : List Nat} {t : Tr} (F : Fix K w p q) (h : St K w wr p q B t) (o : Obj) : Fix (And1 K wr.heap.size) (wr.alloc o) p q := by
  have hp := h.wr.psize
  have hq := h.tr.cells.2.2
  refine ⟨F.pq, ?_, ?_, ?_, ⟨Or.inl F.G.1, Or.inl F.G.2⟩⟩
  · rintro (h | h)
    · exact F.np h
    · omega
  · rintro (h | h)
    · exact F.nq h
    · omega
  · rintro k (hk | rfl)
    · have := h.size F k (Or.inl hk); simp; omega
    · simp

theorem St.lift {K : Nat → Prop} {w wr : World} {p q : Nat} {B : List Nat} {t : Tr} (h : St K w wr p q B t) (F : Fix K w p q) (o : Obj) : St (And1 K wr.heap.size) (wr.alloc o) (wr.alloc o) p q B t := by
  have hb : Below wr.heap.size wr (wr.alloc o) := (Below.refl _ wr).alloc (Nat.le_refl _) o
  have h2 := h.below F hb
  refine ⟨?_, h2.tr, Kept.refl _ _, h2.tabs⟩
  obtain ⟨v, ty, h3, h4, h5⟩ := h.wr
  refine ⟨v, ty, (hb.block p (Array.getElem?_eq_some_iff.1 h3).1).trans h3, h4.alloc o, fun g hg hA => ?_⟩
  have hlt := (h4.lt g hg).2
  rcases hA with (hA | hA) | hA
  · exact h5 g hg (Or.inl hA)
  · omega
  · exact h5 g hg (Or.inr hA)

theorem St.drop {K : Nat → Prop} {w wr w5 : World} {p q : Nat} {B B' : List Nat} {t t' : Tr} {o : Obj} (h5 : St (And1 K wr.heap.size) (wr.alloc o) w5 p q B' t') (h : St K w wr p q B t) (F : Fix K w p q) : St K w w5 p q B' t' := by
  have h2 := h.below F ((Below.refl _ wr).alloc (Nat.le_refl _) o)
  refine ⟨h5.wr.sub ?_, h5.tr, h2.kept.trans (h5.kept.sub (fun k hk => Or.inl hk)), h5.tabs⟩
  rintro k (hk | hk)
  · exact Or.inl (Or.inl hk)
  · exact Or.inr hk

theorem rest_step {t : Tr} {r : List Smp} {i : Nat} (hi : i < r.length) : restN t (r.drop i) = (wrN t (r.getD i (0, 0))).1 ++ restN (wrN t (r.getD i (0, 0))).2 (r.drop (i + 1)) := by
  rw [List.drop_eq_getElem_cons hi, restN]
  have : r.getD i (0, 0) = r[i] := by rw [List.getD_eq_getElem?_getD, List.getElem?_eq_getElem hi]; rfl
  rw [this]

theorem wr_length {t : Tr} (ht : t.Ok) (s : Smp) : (wrN t s).1.length ≤ 145 := by
  have h1 := timeN_length (wI (wI (s.1 - t.T) - t.step))
  have h2 := valN_length (L := t.L) (M := t.M) (x := s.2 ^^^ t.V) ht.LM
  have h3 : (wrN t s).1 = timeN (wI (wI (s.1 - t.T) - t.step)) ++ (valN t.L t.M (s.2 ^^^ t.V)).1 := rfl
  rw [h3, List.length_append]; omega

theorem mem_getD {r : List Smp} {i : Nat} (hi : i < r.length) : r.getD i (0, 0) ∈ r := by
  have : r.getD i (0, 0) = r[i] := by rw [List.getD_eq_getElem?_getD, List.getElem?_eq_getElem hi]; rfl
  rw [this]; exact List.getElem_mem hi

set_option maxRecDepth 20000 in
set_option maxHeartbeats 1600000 in
theorem writeSamples_cons (K : Nat → Prop) (p : Nat) (v : Value) (s : Smp) (r : List Smp) (w : World) (hp : ¬ K p) (hK : ∀ k, K k → k < w.heap.size) (hw : Wr K w p []) (hv : RdS K w v (s :: r)) (hl : r.length < 40) (hs : ∀ x ∈ s :: r, SOk x) (hT : CTabs w) (hG : GK K) :
    Calls Tryz.prog 81 #[.pointer (some ⟨p, 0, none⟩), v] w fun e w' => e = .returned (.tuple #[]) ∧ Wr K w' p (padN (packN (s :: r))) ∧ Kept K w w' := by
  have HV := hide hv
  obtain ⟨ao, cap, rfl, hcap, hcell⟩ := hv
  obtain ⟨g, o, hKg, rfl, hcells⟩ := hcell (by simp)
  have HK := hide hK
  have HW := hide (fun n => write_any K p n 16 [] w hp hK hw (by simp))
  have HS := hide hs
  have HT := hide hT
  have hn : (s :: r).length = r.length + 1 := rfl
  have hs0 := hs s (by simp)
  obtain ⟨c0, c1⟩ := hcells 0 (by simp)
  simp only [Nat.mul_zero, Nat.add_zero, List.getD_cons_zero] at c0 c1
  have hT0 : IntKind.u64.wrap s.1 = (uN s.1 : Int) := by rw [IntKind.wrap_u64]; unfold uN; omega
  rw [hn] at hcap ⊢
  clear hK hw hs hT hcell hcells
  have hs1 := hs0.1
  have hs2 := hs0.2
  unfold I64 at hs1
  clear hs0
  go_enter_defers Tryz.func81, Tryz.ntmps81
  go_wp2_with fail
  have hn1 : (r.length : Int) + 1 = ((r.length + 1 : Nat) : Int) := by omega
  rw [hn1]
  refine (unhide HW _ (by omega) (by omega)).mono ?_
  rintro e w1 ⟨rfl, hw1, hk1⟩
  have d0 : w1.cell? ⟨g, o, none⟩ = some (.int .i64 s.1) := (hk1.cell (p := ⟨g, o, none⟩) hKg).trans c0
  have d1 : w1.cell? ⟨g, o + 1, none⟩ = some (.int .u64 s.2) := (hk1.cell (p := ⟨g, o + 1, none⟩) hKg).trans c1
  rw [← hn1]
  clear hn1
  go_wp2_with fail
  refine (write_any K p (uN s.1) 64 _ w1 hp (fun k hk => Nat.lt_of_lt_of_le (unhide HK k hk) hk1.size) hw1 (by simp [bitsN_length]) (uN_lt _) (by omega)).mono ?_
  rintro e w2 ⟨rfl, hw2, hk2⟩
  have hk12 := hk1.trans hk2
  clear hw1 hk1 hk2 d0 d1 w1
  have d0 : w2.cell? ⟨g, o, none⟩ = some (.int .i64 s.1) := (hk12.cell (p := ⟨g, o, none⟩) hKg).trans c0
  have d1 : w2.cell? ⟨g, o + 1, none⟩ = some (.int .u64 s.2) := (hk12.cell (p := ⟨g, o + 1, none⟩) hKg).trans c1
  go_wp2_with fail
  refine (write_any K p s.2 64 _ w2 hp (fun k hk => Nat.lt_of_lt_of_le (unhide HK k hk) hk12.size) hw2 (by simp [bitsN_length]) hs2 (by omega)).mono ?_
  rintro e w3 ⟨rfl, hw3, hk3⟩
  have hk13 := hk12.trans hk3
  clear hw2 hk12 hk3 d0 d1 w2
  have d0 : w3.cell? ⟨g, o, none⟩ = some (.int .i64 s.1) := (hk13.cell (p := ⟨g, o, none⟩) hKg).trans c0
  have d1 : w3.cell? ⟨g, o + 1, none⟩ = some (.int .u64 s.2) := (hk13.cell (p := ⟨g, o + 1, none⟩) hKg).trans c1
  clear c0 c1
  have hq : Hid (¬ K w3.heap.size) := fun h => by have := unhide HK _ h; have := hk13.size; omega
  have hps : p < w3.heap.size := by obtain ⟨v, t, hh, _⟩ := hw3; exact (Array.getElem?_eq_some_iff.1 hh).1
  have HF : Hid (Fix K w p w3.heap.size) := ⟨by omega, hp, unhide hq, unhide HK, hG⟩
  have H3 := hide hw3
  have HP := hide hk13
  have hS0 : Hid (∀ ty, St K w (w3.alloc (.cells #[.int .i64 s.1, .int .u64 s.2, .int .i64 0, .int .i64 0, .int .i64 0] ty)) p w3.heap.size ([] ++ bitsN (r.length + 1) 16 ++ bitsN (uN s.1) 64 ++ bitsN s.2 64) ⟨s.1, s.2, 0, 0, 0⟩) := by
    intro ty
    have hb : Below w3.heap.size w3 (w3.alloc (.cells #[.int .i64 s.1, .int .u64 s.2, .int .i64 0, .int .i64 0, .int .i64 0] ty)) := (Below.refl _ w3).alloc (Nat.le_refl _) _
    have hkk : Kept K w3 (w3.alloc (.cells #[.int .i64 s.1, .int .u64 s.2, .int .i64 0, .int .i64 0, .int .i64 0] ty)) := Kept.ofBelow hb (fun k hk => Nat.lt_of_lt_of_le (unhide HK k hk) (unhide HP).size)
    refine ⟨?_, ⟨ty, heap_alloc_new w3 _⟩, (unhide HP).trans hkk, ((unhide HT).kept hG (unhide HP)).kept hG hkk⟩
    obtain ⟨v, t, h1, h2, h3⟩ := (unhide H3).below hb
    refine ⟨v, t, h1, h2, fun k hk hA => ?_⟩
    rcases hA with hA | hA
    · exact h3 k hk hA
    · obtain ⟨v', t', h1', h2', h3'⟩ := unhide H3
      rw [hb.block p hps] at h1
      rw [h1] at h1'
      cases h1'
      have := (h2'.lt k hk).2
      omega
  clear hw3 hk13
  have hO0 : Hid (Tr.Ok ⟨s.1, s.2, 0, 0, 0⟩) := ⟨(unhide HS s (by simp)).1, hs2, (by unfold I64; omega : I64 0), by simp, by simp, fun _ => rfl⟩
  by_cases hc1 : cap = 1
  · subst hc1
    have hr0 : r = [] := List.eq_nil_of_length_eq_zero (by omega)
    subst hr0
    go_wp2_with fail
    go_loopw [36] (fun z wr => z = .int .i64 0 ∧ Hid (St K w wr p w3.heap.size ([] ++ bitsN (([] : List Smp).length + 1) 16 ++ bitsN (uN s.1) 64 ++ bitsN s.2 64) ⟨s.1, s.2, 0, 0, 0⟩)) (fun _ _ => 0)
    case atStart => exact ⟨rfl, unhide hS0 _⟩
    case round =>
      obtain ⟨rfl, hS⟩ := hrel
      clear d0 d1
      go_wp2_with fail
      refine leaves_cons (f := 136) (args := #[.pointer (some ⟨p, 0, none⟩)]) (by simp) (by simp [go_sem]) ?_
      have hSS := unhide hS
      refine (fillUp_deferred K p _ .returning wr hp (fun k hk => Nat.lt_of_lt_of_le (unhide HK k hk) hSS.kept.size) (hSS.wr.sub (fun k hk => Or.inl hk)) (by simp [bitsN_length])).mono ?_
      rintro e u' w5 ⟨rfl, rfl, hw5, hk5⟩
      refine ⟨_, results_none rfl _ _ _, rfl, ?_, hSS.kept.trans hk5⟩
      have e : packN [s] = [] ++ bitsN (([] : List Smp).length + 1) 16 ++ bitsN (uN s.1) 64 ++ bitsN s.2 64 := by
        rw [packN, restN, List.append_nil, List.nil_append]
      rw [e]
      exact hw5
  · go_wp2_with fail
    go_loopw [36] (fun z wr => ∃ (i : Nat) (t : Tr) (B : List Nat), i ≤ r.length ∧ z = .int .i64 i ∧ Hid (B ++ restN t (r.drop i) = [] ++ bitsN (r.length + 1) 16 ++ bitsN (uN s.1) 64 ++ bitsN s.2 64 ++ restN ⟨s.1, s.2, 0, 0, 0⟩ r) ∧ Hid t.Ok ∧ B.length ≤ 144 + 145 * i ∧ Hid (St K w wr p w3.heap.size B t)) (fun z _ => r.length - (RowKit.intOf z).toNat)
    case atStart => exact ⟨0, _, _, Nat.zero_le _, rfl, by rw [List.drop_zero]; rfl, hO0, by simp [bitsN_length], unhide hS0 _⟩
    case round =>
      obtain ⟨i, t, B, hi, rfl, hI, hO, hB, hS⟩ := hrel
      by_cases hir : i < r.length
      · have hcl := ((unhide HV).kept (unhide hS).kept).at hir
        obtain ⟨c0, c1⟩ := hcl
        have hsi := unhide HS _ (List.mem_cons_of_mem s (mem_getD hir))
        have hst := hide (rest_step (t := t) hir)
        have hwl := wr_length (unhide hO) (r.getD i (0, 0))
        have hwo := hide (wrN_ok t (unhide hO) _ hsi)
        generalize r.getD i (0, 0) = x at c0 c1 hsi hst hwl hwo
        obtain ⟨T, V⟩ := x
        simp only at c0 c1
        have hV := hsi.2
        have hsT := hide hsi.1
        simp only at hV
        have hwr := unhide hS
        clear d0 d1
        have hz : ∀ o', St (And1 K wr.heap.size) (wr.alloc o') (wr.alloc o') p w3.heap.size B t := fun o' => hwr.lift (unhide HF) o'
        have HZ := hide hz
        have HFz : Hid (∀ o', Fix (And1 K wr.heap.size) (wr.alloc o') p w3.heap.size) := fun o' => (unhide HF).lift hwr o'
        clear hz hwr hsi
        go_wp2_with fail
        refine ((unhide HZ _).time (unhide HFz _) T (by omega)).mono ?_
        rintro e w4 ⟨rfl, hS4⟩
        have e4 : w4.cell? ⟨wr.heap.size, 1, none⟩ = some (.int .u64 V) := (hS4.kept.cell (p := ⟨wr.heap.size, 1, none⟩) (Or.inr rfl)).trans (by simp)
        have hS4' := hide hS4
        clear hS4 c0 c1
        go_wp2_with fail
        have hl4 : (B ++ timeN (wI (wI (T - t.T) - t.step))).length ≤ 90000 := by
          have := timeN_length (wI (wI (T - t.T) - t.step))
          rw [List.length_append]; omega
        have hO' := unhide hO
        refine ((unhide hS4').value (unhide HFz _) V hl4 hV ⟨?_, hO'.V, wI_in _, hO'.LM, hO'.L31, hO'.M0⟩).mono ?_
        · exact hsT
        rintro e w5 ⟨rfl, hS5⟩
        go_wp2_with fail
        go_roundw
        case rel =>
          refine ⟨i + 1, (wrN t (T, V)).2, B ++ (wrN t (T, V)).1, by omega, by go_num, ?_, hwo, ?_, ?_⟩
          · have h1 := unhide hI
            rw [unhide hst] at h1
            show (B ++ (wrN t (T, V)).1) ++ restN (wrN t (T, V)).2 (r.drop (i + 1)) = _
            rw [← h1, List.append_assoc]
          · rw [List.length_append]; omega
          · have h1 := hS5.drop (unhide hS) (unhide HF)
            rw [List.append_assoc] at h1
            exact h1
        case measure => simp [RowKit.intOf]; omega
      · have hir2 : i = r.length := by omega
        subst hir2
        clear d0 d1
        go_wp2_with fail
        refine leaves_cons (f := 136) (args := #[.pointer (some ⟨p, 0, none⟩)]) (by simp) (by simp [go_sem]) ?_
        have hSS := unhide hS
        refine (fillUp_deferred K p B .returning wr hp (fun k hk => Nat.lt_of_lt_of_le (unhide HK k hk) hSS.kept.size) (hSS.wr.sub (fun k hk => Or.inl hk)) (by omega)).mono ?_
        rintro e u' w5 ⟨rfl, rfl, hw5, hk5⟩
        refine ⟨_, results_none rfl _ _ _, rfl, ?_, hSS.kept.trans hk5⟩
        have h1 := unhide hI
        rw [List.drop_length, restN, List.append_nil] at h1
        rw [h1] at hw5
        exact hw5
end Go.Proofs.YtgekdmjneogdoaaGreatDoor

namespace Go.Proofs.YtgekdmjneogdoaaGreatDoor
open Go.RowKit

def bytesOf (l : List Nat) : ByteArray := ⟨(l.map UInt8.ofNat).toArray⟩

theorem push_nats : ∀ (l : List Nat) (s : ByteArray), (l.map fun (b : Nat) => (b : Int)).foldl (fun r n => r.push (UInt8.ofNat n.toNat)) s = ⟨(s.data.toList ++ l.map UInt8.ofNat).toArray⟩ := by
  intro l
  induction l with
  | nil => intro s; cases s; simp
  | cons c r ih =>
    intro s
    simp only [List.map_cons, List.foldl_cons]
    rw [ih]
    simp [ByteArray.push]

theorem string_of_own {w : World} {base g cap : Nat} {l : List Nat} (h : w.ownsRow base 5 1 (.slice (some ⟨g, 0, none⟩) l.length cap) l.length (l.map encO)) :
    (convert 135 9 (.slice (some ⟨g, 0, none⟩) l.length cap)).run Tryz.prog w = .ok (.string (bytesOf l)) w := by
  rw [run_convert_bytes_string w _ _ 5 _ _ _ Tryz.underlying135 Tryz.underlying5 Tryz.underlying9]
  have h1 := run_loadCells_list (P := Tryz.prog) (w := w) ⟨g, 0, none⟩ (l.map encO) (h.cells (g := g) rfl)
  rw [List.length_map] at h1
  have h2 : l.map encO = (l.map fun (b : Nat) => (b : Int)).map (Value.int .u8) := by simp
  rw [h2] at h1
  rw [run_bytesToString w _ _ _ _ h1, push_nats]
  rfl

abbrev Under (w : World) : Nat → Prop := fun k => k < w.heap.size

set_option maxRecDepth 20000 in
set_option maxHeartbeats 800000 in
theorem chunkOf_any (v : Value) (l : List Smp) (w : World) (hv : RdS (Under w) w v l) (hl : l.length ≤ 40) (hs : ∀ x ∈ l, SOk x) (hT : CTabs w) (hG : GK (Under w)) :
    Calls Tryz.prog 50 #[v] w fun e w' => e = .returned (.string (bytesOf (chunkN l))) ∧ Below w.heap.size w w' := by
  have HW : Hid (∀ ty, Calls Tryz.prog 81 #[.pointer (some ⟨w.heap.size, 0, none⟩), v] (w.alloc (.cells #[.slice none 0 0, .int .u8 0, .int .i64 0] ty)) fun e w' => e = .returned (.tuple #[]) ∧ Wr (Under w) w' w.heap.size (padN (packN l)) ∧ Kept (Under w) (w.alloc (.cells #[.slice none 0 0, .int .u8 0, .int .i64 0] ty)) w') := by
    intro ty
    have hk : Kept (Under w) w (w.alloc (.cells #[.slice none 0 0, .int .u8 0, .int .i64 0] ty)) := (Kept.refl _ w).alloc (fun _ h => h) _
    have hw0 : Wr (Under w) (w.alloc (.cells #[.slice none 0 0, .int .u8 0, .int .i64 0] ty)) w.heap.size [] :=
      ⟨.slice none 0 0, ty, heap_alloc_new w _, World.ownsRow_nil _ _ _ _, fun g hg => by cases hg⟩
    have hK : ∀ k, Under w k → k < (w.alloc (.cells #[.slice none 0 0, .int .u8 0, .int .i64 0] ty)).heap.size := fun k (hk : k < w.heap.size) => by simp; omega
    cases l with
    | nil => exact writeSamples_nil _ _ v _ (Nat.lt_irrefl _) hK hw0 (hv.kept hk)
    | cons s r => exact writeSamples_cons _ _ v s r _ (Nat.lt_irrefl _) hK hw0 (hv.kept hk) (by simp at hl; omega) hs (hT.kept hG hk) hG
  clear hv hT hs
  go_enter Tryz.func50, Tryz.ntmps50
  go_wp2_with fail
  refine (unhide HW _).mono ?_
  rintro e w1 ⟨rfl, hw1, hk1⟩
  obtain ⟨u, ty, hh, hown, _⟩ := hw1
  have hc := chunkN_two l
  change w1.ownsRow (w.heap.size + 1) 5 1 u (chunkN l).length ((chunkN l).map encO) at hown
  obtain ⟨n, hn⟩ : ∃ n, (chunkN l).length = n + 1 := ⟨(chunkN l).length - 1, by omega⟩
  obtain ⟨g, cp, rfl⟩ : ∃ g cp, u = .slice (some ⟨g, 0, none⟩) (chunkN l).length cp := by
    rw [hn] at hown ⊢
    exact own_form hown
  have c0 := cell_of_row w1 w.heap.size 0 _ ty _ hh
  simp only [List.getElem?_toArray, List.getElem?_cons_zero] at c0
  have hcv := string_of_own hown
  clear hh hown hn hc
  go_wp2_with fail
  go_ret
  exact ⟨rfl, (Kept.trans ((Kept.refl _ w).alloc (fun _ h => h) _) hk1).below⟩

set_option maxHeartbeats 400000 in
theorem pack_ok (v : Value) (l : List Smp) (w : World) (hv : RdS (Under w) w v l) (hl : l.length ≤ 40) (hs : ∀ x ∈ l, SOk x) (hT : CTabs w) (hG : GK (Under w)) :
    Calls Tryz.prog 24 #[v] w fun e w' => e = .returned (.tuple #[.string (bytesOf (chunkN l)), .int .i64 0]) ∧ Below w.heap.size w w' := by
  have H := hide (chunkOf_any v l w hv hl hs hT hG)
  obtain ⟨ao, cap, rfl, _, _⟩ := hv
  clear hT hs
  go_enter Tryz.func24, Tryz.ntmps24
  go_wp2_with fail
  refine (unhide H).mono ?_
  rintro e w1 ⟨rfl, hb⟩
  go_wp2_with fail
  go_ret2
  exact ⟨rfl, hb⟩

end Go.Proofs.YtgekdmjneogdoaaGreatDoor
