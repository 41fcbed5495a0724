import Derived.Test.YtgekdmjneogdoaaGreatDoorYChR5
namespace Go.Proofs.YtgekdmjneogdoaaGreatDoor
open Go.RowKit

/-- readValue, all ways -/
theorem RS.value {K : Nat → Prop} {w w1 : World} {z q pos : Nat} {s : ByteArray} {t : Tr} (h : RS K w w1 z q s pos t) (F : FixR K w z q) (hb : pos ≤ 800000) (hLM : t.L + t.M ≤ 64) (hV : t.V < 18446744073709551616) :
    Calls Tryz.prog 85 #[.pointer (some ⟨q, 0, none⟩), .pointer (some ⟨z, 0, none⟩)] w1 fun e w' =>
      (∃ t' pos', rdVal t (bitsOf s pos) = some (t', bitsOf s pos') ∧ pos' ≤ pos + 77 ∧ (t'.L + t'.M ≤ 64 ∧ t'.V < 18446744073709551616 ∧ t'.T = t.T ∧ t'.step = t.step) ∧ e = .returned (.tuple #[]) ∧ RS K w w' z q s pos' t') ∨ (rdVal t (bitsOf s pos) = none ∧ e = .panicked [few] ∧ Kept K w w') := by
  have hp := h.pos
  by_cases hl : pos + 1 ≤ 8 * s.size
  · have r1 := rdL_some s pos 1 hl
    have hb1 := bval_one s pos
    by_cases h0 : bval ((bitsOf s pos).take 1) = 0
    · refine (val_zero h F hb hl h0).mono ?_
      rintro e w' ⟨rfl, hS⟩
      refine Or.inl ⟨t, pos + 1, ?_, by omega, ⟨hLM, hV, rfl, rfl⟩, rfl, hS⟩
      rw [rdVal, r1, Option.bind_some, if_pos h0]
    · have h1 : bval ((bitsOf s pos).take 1) = 1 := by omega
      by_cases hl2 : pos + 1 + 1 ≤ 8 * s.size
      · have r2 := rdL_some s (pos + 1) 1 hl2
        have hb2 := bval_one s (pos + 1)
        by_cases h2 : bval ((bitsOf s (pos + 1)).take 1) = 1
        · by_cases hl5 : pos + 1 + 1 + 5 ≤ 8 * s.size
          · have r5 := rdL_some s (pos + 1 + 1) 5 hl5
            by_cases hl6 : pos + 1 + 1 + 5 + 6 ≤ 8 * s.size
            · have r6 := rdL_some s (pos + 1 + 1 + 5) 6 hl6
              have hL := take_lt (natsOf s) (pos + 1 + 1) 5
              have hm := take_lt (natsOf s) (pos + 1 + 1 + 5) 6
              generalize hLe : bval ((bitsOf s (pos + 1 + 1)).take 5) = L at *
              generalize hme : bval ((bitsOf s (pos + 1 + 1 + 5)).take 6) = m at *
              have hw : rdWin t.L t.M (bitsOf s (pos + 1)) = some ((L, m + 1), bitsOf s (pos + 1 + 1 + 5 + 6)) := by
                rw [rdWin, r2, Option.bind_some, if_pos h2, r5, Option.bind_some, r6, Option.bind_some]
              have hv : rdVal t (bitsOf s pos) = (rdWin t.L t.M (bitsOf s (pos + 1))).bind fun q => if 64 < q.1.1 + q.1.2 then none else (rdL q.1.2 q.2).bind fun x => some ({ t with V := t.V ^^^ (x.1 * 2 ^ (64 - q.1.1 - q.1.2) % 18446744073709551616), L := q.1.1, M := q.1.2 }, x.2) := by
                rw [rdVal, r1, Option.bind_some, if_neg h0]
              rw [hw, Option.bind_some] at hv
              simp only at hv
              have hL32 : L < 32 := by
                have := take_lt (natsOf s) (pos + 1 + 1) 5
                rw [hLe] at this; simpa using this
              have hm64 : m < 64 := by
                have := take_lt (natsOf s) (pos + 1 + 1 + 5) 6
                rw [hme] at this; simpa using this
              by_cases hwd : 64 < L + (m + 1)
              · refine (val_wide h F hb hl h1 hl2 h2 L hl5 hLe m hl6 hme hwd).mono ?_
                rintro e w' ⟨rfl, hk⟩
                rw [if_pos hwd] at hv
                exact Or.inr ⟨hv, rfl, hk⟩
              · rw [if_neg hwd] at hv
                obtain ⟨b, hbb⟩ : ∃ b, b = 64 - L - (m + 1) := ⟨_, rfl⟩
                by_cases hl3 : pos + 1 + 1 + 5 + 6 + (m + 1) ≤ 8 * s.size
                · have r7 := rdL_some s (pos + 1 + 1 + 5 + 6) (m + 1) hl3
                  rw [r7, Option.bind_some, ← hbb] at hv
                  refine (val_new h F hb hl h1 hl2 h2 L hl5 hLe m hl6 hme (m + 1) b rfl (by omega) hl3 hV _ _ rfl rfl).mono ?_
                  rintro e w' ⟨rfl, hS⟩
                  exact Or.inl ⟨_, _, hv, by omega, ⟨by simp only; omega, Nat.xor_lt_two_pow (n := 64) hV (Nat.mod_lt _ (by decide)), rfl, rfl⟩, rfl, hS⟩
                · have r7 := rdL_none s (pos + 1 + 1 + 5 + 6) (m + 1) (by omega) (by omega)
                  rw [r7] at hv
                  refine (val_new_bad h F hb hl h1 hl2 h2 L hl5 hLe m hl6 hme (m + 1) b rfl (by omega) (by omega)).mono ?_
                  rintro e w' ⟨rfl, hk⟩
                  exact Or.inr ⟨hv, rfl, hk⟩
            · have r6 := rdL_none s (pos + 1 + 1 + 5) 6 (by omega) (by omega)
              refine (val_bad6 h F hb hl h1 hl2 h2 _ hl5 rfl (by omega)).mono ?_
              rintro e w' ⟨rfl, hk⟩
              refine Or.inr ⟨?_, rfl, hk⟩
              rw [rdVal, r1, Option.bind_some, if_neg h0, rdWin, r2, Option.bind_some, if_pos h2, r5, Option.bind_some, r6]; rfl
          · have r5 := rdL_none s (pos + 1 + 1) 5 (by omega) (by omega)
            refine (val_bad5 h F hb hl h1 hl2 h2 (by omega)).mono ?_
            rintro e w' ⟨rfl, hk⟩
            refine Or.inr ⟨?_, rfl, hk⟩
            rw [rdVal, r1, Option.bind_some, if_neg h0, rdWin, r2, Option.bind_some, if_pos h2, r5]; rfl
        · have h20 : bval ((bitsOf s (pos + 1)).take 1) = 0 := by omega
          have hw : rdWin t.L t.M (bitsOf s (pos + 1)) = some ((t.L, t.M), bitsOf s (pos + 1 + 1)) := by
            rw [rdWin, r2, Option.bind_some, if_neg h2]
          have hv : rdVal t (bitsOf s pos) = (rdWin t.L t.M (bitsOf s (pos + 1))).bind fun q => if 64 < q.1.1 + q.1.2 then none else (rdL q.1.2 q.2).bind fun x => some ({ t with V := t.V ^^^ (x.1 * 2 ^ (64 - q.1.1 - q.1.2) % 18446744073709551616), L := q.1.1, M := q.1.2 }, x.2) := by
            rw [rdVal, r1, Option.bind_some, if_neg h0]
          rw [hw, Option.bind_some] at hv
          simp only at hv
          rw [if_neg (by omega)] at hv
          obtain ⟨b, hbb⟩ : ∃ b, b = 64 - t.L - t.M := ⟨_, rfl⟩
          by_cases hl3 : pos + 1 + 1 + t.M ≤ 8 * s.size
          · have r7 := rdL_some s (pos + 1 + 1) t.M hl3
            rw [r7, Option.bind_some, ← hbb] at hv
            refine (val_old h F hb hl h1 hl2 h20 b (by omega) hl3 hV _ _ rfl rfl).mono ?_
            rintro e w' ⟨rfl, hS⟩
            exact Or.inl ⟨_, _, hv, by omega, ⟨hLM, Nat.xor_lt_two_pow (n := 64) hV (Nat.mod_lt _ (by decide)), rfl, rfl⟩, rfl, hS⟩
          · have r7 := rdL_none s (pos + 1 + 1) t.M (by omega) (by omega)
            rw [r7] at hv
            refine (val_old_bad h F hb hl h1 hl2 h20 b (by omega) (by omega)).mono ?_
            rintro e w' ⟨rfl, hk⟩
            exact Or.inr ⟨hv, rfl, hk⟩
      · have r2 := rdL_none s (pos + 1) 1 (by omega) (by omega)
        refine (val_none2 h F hb hl h1 (by omega)).mono ?_
        rintro e w' ⟨rfl, hk⟩
        refine Or.inr ⟨?_, rfl, hk⟩
        rw [rdVal, r1, Option.bind_some, if_neg h0, rdWin, r2]; rfl
  · have r1 := rdL_none s pos 1 (by omega) hp
    refine (val_none h F hb (by omega)).mono ?_
    rintro e w' ⟨rfl, hk⟩
    refine Or.inr ⟨?_, rfl, hk⟩
    rw [rdVal, r1]; rfl

end Go.Proofs.YtgekdmjneogdoaaGreatDoor
