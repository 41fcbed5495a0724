import Derived.Test.YtgekdmjneogdoaaGreatDoorZRm6
namespace Go.Proofs.YtgekdmjneogdoaaGreatDoor
open Go.RowKit Go.Shelf Go.Maps

/-- is this a good look back, and a good part? -/
def partOk (n : Nat) (k a b : Int) : Prop := 1 ≤ k ∧ k ≤ n ∧ 1 ≤ b ∧ b ≤ 1000 ∧ 0 ≤ a ∧ a ≤ b

set_option maxRecDepth 20000 in
set_option maxHeartbeats 800000 in
theorem refrank_bad {K : Nat → Prop} {w : World} {yb n W C : Nat} {r : Value} {s : RuleS} {l : List Cnt} (h : RMt K w yb n W C r s l) (k a b : Int) (hp : ¬ partOk n k a b) :
    Calls Tryz.prog 177 #[.pointer (some ⟨yb, 0, none⟩), .int .i64 k, .int .i64 a, .int .i64 b] w fun e w' => e = .returned (.tuple #[.int .i64 0, .int .i64 5]) ∧ w' = w := by
  have c0 := h.c0
  have hn8 := h.hn.2
  clear h
  unfold partOk at hp
  by_cases h1 : 1 ≤ k
  · by_cases h2 : k ≤ n
    · by_cases h3 : 1 ≤ b
      · by_cases h4 : b ≤ 1000
        · by_cases h5 : 0 ≤ a
          · have h6 : b < a := by omega
            have f0 : decide (k < 1) = false := by simp; omega
            have f1 : decide ((n : Int) < k) = false := by simp; omega
            have f2 : decide (b < 1) = false := by simp; omega
            have f3 : decide (1000 < b) = false := by simp; omega
            have f4 : decide (a < 0) = false := by simp; omega
            have f5 : decide (b < a) = true := by simp; omega
            clear hp
            go_enter Tryz.func177, Tryz.ntmps177
            go_wp2_with fail
            go_ret2
            exact ⟨rfl, rfl⟩
          · have h6 : a < 0 := by omega
            have f0 : decide (k < 1) = false := by simp; omega
            have f1 : decide ((n : Int) < k) = false := by simp; omega
            have f2 : decide (b < 1) = false := by simp; omega
            have f3 : decide (1000 < b) = false := by simp; omega
            have f4 : decide (a < 0) = true := by simp; omega
            clear hp h5
            go_enter Tryz.func177, Tryz.ntmps177
            go_wp2_with fail
            go_ret2
            exact ⟨rfl, rfl⟩
        · have h6 : 1000 < b := by omega
          have f0 : decide (k < 1) = false := by simp; omega
          have f1 : decide ((n : Int) < k) = false := by simp; omega
          have f2 : decide (b < 1) = false := by simp; omega
          have f3 : decide (1000 < b) = true := by simp; omega
          clear hp h4
          go_enter Tryz.func177, Tryz.ntmps177
          go_wp2_with fail
          go_ret2
          exact ⟨rfl, rfl⟩
      · have h6 : b < 1 := by omega
        have f0 : decide (k < 1) = false := by simp; omega
        have f1 : decide ((n : Int) < k) = false := by simp; omega
        have f2 : decide (b < 1) = true := by simp; omega
        clear hp h3
        go_enter Tryz.func177, Tryz.ntmps177
        go_wp2_with fail
        go_ret2
        exact ⟨rfl, rfl⟩
    · have h6 : (n : Int) < k := by omega
      have f0 : decide (k < 1) = false := by simp; omega
      have f1 : decide ((n : Int) < k) = true := by simp; omega
      clear hp h2
      go_enter Tryz.func177, Tryz.ntmps177
      go_wp2_with fail
      go_ret2
      exact ⟨rfl, rfl⟩
  · have h6 : k < 1 := by omega
    have f0 : decide (k < 1) = true := by simp; omega
    clear hp h1
    go_enter Tryz.func177, Tryz.ntmps177
    go_wp2_with fail
    go_ret2
    exact ⟨rfl, rfl⟩

set_option maxRecDepth 20000 in
set_option maxHeartbeats 800000 in
theorem refrank_empty {K : Nat → Prop} {w : World} {yb n W C : Nat} {r : Value} {s : RuleS} {l : List Cnt} (h : RMt K w yb n W C r s l) (k a b : Nat) (hk1 : 1 ≤ k) (hk2 : k ≤ n) (hb1 : 1 ≤ b) (hb2 : b ≤ 1000) (hab : a ≤ b) (hl : l.length < 8000000000000)
    (hD : lastC l ((C / W : Nat) - (k : Int)) = []) :
    Calls Tryz.prog 177 #[.pointer (some ⟨yb, 0, none⟩), .int .i64 k, .int .i64 a, .int .i64 b] w fun e w' => e = .returned (.tuple #[.int .i64 0, .int .i64 9]) ∧ Below w.heap.size w w' := by
  have hn8 := h.hn.2
  have c0 := h.c0
  have HLa := hide (reflast_ok h k hk1 (by omega) hl)
  rw [hD] at HLa
  clear h hD
  have hda : decide (n < k) = false := by simp; omega
  have hdb : decide (b < a) = false := by simp; omega
  go_enter Tryz.func177, Tryz.ntmps177
  go_wp2_with fail
  refine (unhide HLa).mono ?_
  rintro e w2 ⟨u, rfl, hO, hB⟩
  have HB := hide hB
  obtain ⟨ao, cap, rfl, hcap, hcells⟩ := rdi_own (l := []) hO
  clear hcells hO hB HLa
  go_wp2_with fail
  go_ret2
  exact ⟨rfl, unhide HB⟩

/-- a value out of its order -/
theorem back_neg (b : Nat) (hb : isB b) (h : ordI b < 0) : -(ordI b) + 9223372036854775808 = (b : Int) := by
  obtain ⟨⟨h1, h2⟩, h3⟩ := hb
  unfold ordI at h ⊢
  split at h
  · rename_i c
    rw [if_pos c]
    omega
  · omega

theorem back_pos (b : Nat) (hb : isB b) (h : 0 ≤ ordI b) : ordI b = (b : Int) := by
  obtain ⟨⟨h1, h2⟩, h3⟩ := hb
  unfold ordI at h ⊢
  split at h
  · rename_i c
    exfalso
    omega
  · rename_i c
    rw [if_neg c]
    omega

set_option maxRecDepth 20000 in
set_option maxHeartbeats 800000 in
theorem refquant_of {w : World} (yb : Nat) (k a b : Int) (x e : Int) (y : Int) (Q : World → Prop)  (hx1 : -9223372036854775807 ≤ x) (hx2 : x ≤ 9223372036854775807) (hy : (x < 0 ∧ y = -x + 9223372036854775808) ∨ (0 ≤ x ∧ y = x))
    (hR : Calls Tryz.prog 177 #[.pointer (some ⟨yb, 0, none⟩), .int .i64 k, .int .i64 a, .int .i64 b] w fun en w' => en = .returned (.tuple #[.int .i64 x, .int .i64 e]) ∧ Q w') :
    Calls Tryz.prog 123 #[.pointer (some ⟨yb, 0, none⟩), .int .i64 k, .int .i64 a, .int .i64 b] w fun en w' => en = .returned (.tuple #[.int .u64 y, .int .i64 e]) ∧ Q w' := by
  have HR := hide hR
  clear hR
  rcases hy with ⟨h1, rfl⟩ | ⟨h1, rfl⟩
  · have hd : decide (x < 0) = true := by simp; omega
    go_enter Tryz.func123, Tryz.ntmps123
    go_wp2_with fail
    refine (unhide HR).mono ?_
    rintro en w' ⟨rfl, hq⟩
    have HQ := hide hq
    clear hq HR
    go_wp2_with fail
    go_ret2
    exact ⟨rfl, unhide HQ⟩
  · have hd : decide (y < 0) = false := by simp; omega
    go_enter Tryz.func123, Tryz.ntmps123
    go_wp2_with fail
    refine (unhide HR).mono ?_
    rintro en w' ⟨rfl, hq⟩
    have HQ := hide hq
    clear hq HR
    go_wp2_with fail
    go_ret2
    exact ⟨rfl, unhide HQ⟩

set_option maxRecDepth 20000 in
set_option maxHeartbeats 400000 in
theorem refcount_ok {K : Nat → Prop} {w : World} {yb n W C : Nat} {r : Value} {s : RuleS} {l : List Cnt} (h : RMt K w yb n W C r s l) (k : Nat) (hk1 : 1 ≤ k) (hk2 : k ≤ n) (hl : l.length < 8000000000000) :
    Calls Tryz.prog 122 #[.pointer (some ⟨yb, 0, none⟩), .int .i64 k] w fun e w' => e = .returned (.tuple #[.int .i64 ((lastC l ((C / W : Nat) - (k : Int))).length : Nat), .int .i64 0]) ∧ Below w.heap.size w w' := by
  have hn8 := h.hn.2
  have c0 := h.c0
  have HLa := hide (reflast_ok h k hk1 (by omega) hl)
  clear h
  have hda : decide (n < k) = false := by simp; omega
  have hdb : decide ((k : Int) < 1) = false := by simp; omega
  generalize lastC l ((C / W : Nat) - (k : Int)) = E at *
  go_enter Tryz.func122, Tryz.ntmps122
  go_wp2_with fail
  refine (unhide HLa).mono ?_
  rintro e w2 ⟨u, rfl, hO, hB⟩
  have HB := hide hB
  obtain ⟨ao, cap, rfl, hcap, hcells⟩ := rdi_own hO
  clear hcells hO hB HLa
  go_wp2_with fail
  go_ret2
  exact ⟨rfl, unhide HB⟩

set_option maxRecDepth 20000 in
set_option maxHeartbeats 400000 in
theorem refcount_bad {K : Nat → Prop} {w : World} {yb n W C : Nat} {r : Value} {s : RuleS} {l : List Cnt} (h : RMt K w yb n W C r s l) (k : Int) (hk : k < 1 ∨ (n : Int) < k) :
    Calls Tryz.prog 122 #[.pointer (some ⟨yb, 0, none⟩), .int .i64 k] w fun e w' => e = .returned (.tuple #[.int .i64 0, .int .i64 5]) ∧ w' = w := by
  have c0 := h.c0
  have hn8 := h.hn.2
  clear h
  rcases Int.lt_or_le k 1 with h1 | h1
  · clear hk
    go_enter Tryz.func122, Tryz.ntmps122
    go_wp2_with fail
    go_ret2
    exact ⟨rfl, rfl⟩
  · have h2 : decide ((n : Int) < k) = true := by simp; omega
    have h3 : decide (k < 1) = false := by simp; omega
    clear hk
    go_enter Tryz.func122, Tryz.ntmps122
    go_wp2_with fail
    go_ret2
    exact ⟨rfl, rfl⟩
end Go.Proofs.YtgekdmjneogdoaaGreatDoor
