import Derived.Test.YtgekdmjneogdoaaGreatDoorZChW2
namespace Go.Proofs.YtgekdmjneogdoaaGreatDoor
open Go.RowKit

set_option maxRecDepth 20000 in
set_option maxHeartbeats 1600000 in
theorem value_new {K : Nat → Prop} {w w1 : World} {p q : Nat} {B : List Nat} {t : Tr} (h : St K w w1 p q B t) (F : Fix K w p q) (V x : Nat) (hB : B.length ≤ 90000) (ex : bits BinOp.xor IntKind.u64 (V : Int) (t.V : Int) = (x : Int)) (h0 : x ≠ 0) (hx : x < 18446744073709551616)
    (hLM0 : t.L + t.M ≤ 64) (hf : ¬ (t.L ≤ lzN x ∧ 64 - t.L - t.M ≤ tzN x)) (L M b : Nat) (hL : min (lzN x) 31 = L) (hb : tzN x = b) (hLM : L + M + b = 64) (hM1 : 1 ≤ M) :
    Calls Tryz.prog 139 #[.pointer (some ⟨q, 0, none⟩), .pointer (some ⟨p, 0, none⟩), .int .u64 V] w1 fun e w' => e = .returned (.tuple #[]) ∧ St K w w' p q (B ++ bitsN 1 1 ++ bitsN 1 1 ++ bitsN L 5 ++ bitsN (M - 1) 6 ++ bitsN (x / 2 ^ b) M) { t with V := V, L := L, M := M } := by
  have H0 := hide (h.setV F V)
  obtain ⟨⟨_, c1, _, c3, c4⟩, hfz, hqs⟩ := h.tr.cells
  have f1 := hfz 1
  clear hfz h
  have HF := hide F
  clear F
  have g0 : ((x : Int) == 0) = false := by rw [beq_eq_false_iff_ne]; omega
  have hfd := decide_eq_false hf
  have Hf := hide hfd
  clear hf hfd
  have hwM : 64 - (L : Int) - b = (M : Int) := by omega
  have HWO : Hid (∀ w, CTabs w → GK (fun k => k < w.heap.size) → Calls Tryz.prog 194 #[.int .u64 x] w fun e w' => e = .returned (.agg #[.int .i64 L, .int .i64 M]) ∧ ∃ o, w' = w.alloc o) := fun w h1 h2 => by
    have := windowOf_any x w hx h0 h1 h2
    rw [hL, hb, hwM] at this
    exact this
  go_enter Tryz.func139, Tryz.ntmps139
  go_wp2_with fail
  refine ((unhide H0).write (unhide HF) 1 1 (by omega) (by omega) (by omega)).mono ?_
  rintro e w2 ⟨rfl, hS⟩
  have H1 := hide hS
  clear c1 c3 c4 f1 hqs H0
  obtain ⟨⟨_, _, _, c3, c4⟩, _, _⟩ := hS.tr.cells
  clear hS
  simp only at c3 c4
  go_wp2_with fail
  refine (fits_any t.L t.M x w2 (by omega) (by omega) hx h0 (unhide H1).tabs ((unhide H1).GK (unhide HF))).mono ?_
  rintro e w3 ⟨rfl, hb3⟩
  have hS3 := (unhide H1).below (unhide HF) hb3
  have H3 := hide hS3
  obtain ⟨⟨_, _, _, c3', c4'⟩, hfz, hqs⟩ := hS3.tr.cells
  have f3 := hfz 3
  have f4 := hfz 4
  clear hS3 hb3 H1 c3 c4 hfz
  simp only at c3' c4'
  rw [unhide Hf]
  go_wp2_with fail
  refine (unhide HWO w3 (unhide H3).tabs ((unhide H3).GK (unhide HF))).mono ?_
  rintro e w4 ⟨rfl, o, rfl⟩
  have hS4 := ((unhide H3).setLM (unhide HF) L M).below (unhide HF) ((Below.refl _ _).alloc (Nat.le_refl _) o)
  have H4 := hide hS4
  clear hS4
  go_wp2_with fail
  refine ((unhide H4).write (unhide HF) 1 1 (by simp [bitsN_length]; omega) (by omega) (by omega)).mono ?_
  rintro e w5 ⟨rfl, hS⟩
  have H5 := hide hS
  clear c3' c4' f3 f4 hqs H4 H3
  obtain ⟨⟨_, _, _, c3, c4⟩, _, _⟩ := hS.tr.cells
  clear hS
  simp only at c3 c4
  have hL64 : L ≤ 64 := by omega
  go_wp2_with fail
  refine ((unhide H5).write (unhide HF) L 5 (by simp [bitsN_length]; omega) (by omega) (by omega)).mono ?_
  rintro e w6 ⟨rfl, hS⟩
  have H6 := hide hS
  clear c3 c4 H5
  obtain ⟨⟨_, _, _, c3, c4⟩, _, _⟩ := hS.tr.cells
  clear hS
  simp only at c3 c4
  have hM2 : (M : Int) - 1 = ((M - 1 : Nat) : Int) := by omega
  go_wp2_with fail
  refine ((unhide H6).write (unhide HF) (M - 1) 6 (by simp [bitsN_length]; omega) (by omega) (by omega)).mono ?_
  rintro e w7 ⟨rfl, hS⟩
  have H7 := hide hS
  clear c3 c4 H6
  obtain ⟨⟨_, _, _, c3, c4⟩, _, hqs⟩ := hS.tr.cells
  clear hS
  simp only at c3 c4
  have H8 : Hid (∀ o, St K w (w7.alloc o).drew p q (B ++ bitsN 1 1 ++ bitsN 1 1 ++ bitsN L 5 ++ bitsN (M - 1) 6) { t with V := V, L := L, M := M }) := fun o => (unhide H7).below (unhide HF) ((Below.refl _ w7).alloc (Nat.le_refl _) o).drew
  have hb2 : 64 - (L : Int) - M = (b : Int) := by omega
  have HB := hide (fun w => behind_any L M w (by omega) (by omega))
  have hM : M ≤ 64 := by omega
  have hxb : x / 2 ^ b < 18446744073709551616 := Nat.lt_of_le_of_lt (Nat.div_le_self _ _) hx
  rw [hb2] at HB
  clear hM2 hwM hL hb
  go_wp2_with fail
  go_region_with (first | (go_at_call 141; refine (unhide HB _).mono ?_; rintro e w' ⟨rfl, o, rfl⟩) | (go_at_call 137; rw [shr_nat]; refine ((unhide H8 _).write (unhide HF) (x / 2 ^ b) M (by simp [bitsN_length]; omega) hxb hM).mono ?_; rintro e w8 ⟨rfl, hS8⟩))
  all_goals
    go_wp2_with fail
    first | go_end0 | refine bodyPost_ret (results_none rfl _ _ _) rfl ?_
    exact ⟨rfl, hS8⟩

/-- writeValue, all ways -/
theorem St.value {K : Nat → Prop} {w w1 : World} {p q : Nat} {B : List Nat} {t : Tr} (h : St K w w1 p q B t) (F : Fix K w p q) (V : Nat) (hB : B.length ≤ 90000) (hV : V < 18446744073709551616) (hO : t.Ok) :
    Calls Tryz.prog 139 #[.pointer (some ⟨q, 0, none⟩), .pointer (some ⟨p, 0, none⟩), .int .u64 V] w1 fun e w' => e = .returned (.tuple #[]) ∧
      St K w w' p q (B ++ (valN t.L t.M (V ^^^ t.V)).1) { t with V := V, L := (valN t.L t.M (V ^^^ t.V)).2.1, M := (valN t.L t.M (V ^^^ t.V)).2.2 } := by
  have hVt := hO.V
  have ex := u64_xor_nat V t.V hV hVt
  have hx64 : V ^^^ t.V < 18446744073709551616 := Nat.xor_lt_two_pow (n := 64) hV hVt
  have hok := valN_ok hO.LM hO.L31 hO.M0 hx64
  generalize V ^^^ t.V = x at ex hx64 hok
  by_cases h0 : x = 0
  · subst h0
    exact value_zero h F V hB (by simpa using ex)
  · by_cases hf : t.L ≤ lzN x ∧ 64 - t.L - t.M ≤ tzN x
    · have e : valN t.L t.M x = ([1, 0] ++ bitsN (x / 2 ^ (64 - t.L - t.M)) t.M, t.L, t.M) := by rw [valN, if_neg h0, if_pos hf]
      rw [e]
      have := value_fits h F V x hB ex h0 hx64 (64 - t.L - t.M) (by have := hO.LM; omega) hf
      simpa [bitsN] using this
    · have e : valN t.L t.M x = ([1, 1] ++ bitsN (min (lzN x) 31) 5 ++ bitsN (64 - min (lzN x) 31 - tzN x - 1) 6 ++ bitsN (x / 2 ^ (64 - min (lzN x) 31 - (64 - min (lzN x) 31 - tzN x))) (64 - min (lzN x) 31 - tzN x), min (lzN x) 31, 64 - min (lzN x) 31 - tzN x) := by rw [valN, if_neg h0, if_neg hf]
      rw [e] at hok ⊢
      have ht := (tzN_spec h0 hx64).1
      simp only at hok
      have hM1 : 1 ≤ 64 - min (lzN x) 31 - tzN x := by omega
      have hbb : 64 - min (lzN x) 31 - (64 - min (lzN x) 31 - tzN x) = tzN x := by omega
      rw [hbb]
      have := value_new h F V x hB ex h0 hx64 hO.LM hf (min (lzN x) 31) (64 - min (lzN x) 31 - tzN x) (tzN x) rfl rfl (by omega) hM1
      simp only [List.append_assoc] at this ⊢
      exact this

end Go.Proofs.YtgekdmjneogdoaaGreatDoor
