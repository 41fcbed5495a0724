import Derived.Test.YtgekdmjneogdoaaGreatDoorYChW5
import Derived.Deep.QuietTactic
import Derived.BigQuiet
namespace Go.Proofs.YtgekdmjneogdoaaGreatDoor
open Go.RowKit

/-- the bit reader at z: of the bytes s so many bits have been read -/
def RdrAt (w : World) (z : Nat) (s : ByteArray) (pos : Nat) : Prop :=
  ∃ ty, w.heap[z]? = some (.cells #[.string s, .int .i64 pos] ty (0, 0))

def natsOf (s : ByteArray) : List Nat := s.data.toList.map UInt8.toNat

theorem natsOf_length (s : ByteArray) : (natsOf s).length = s.size := by unfold natsOf; rw [List.length_map, Array.length_toList]; rfl

theorem take_snoc {B : List Nat} {pos j : Nat} (h : pos + j < B.length) : bval ((B.drop pos).take (j + 1)) = 2 * bval ((B.drop pos).take j) + B.getD (pos + j) 0 := by
  have h1 : j < (B.drop pos).length := by rw [List.length_drop]; omega
  rw [List.take_add_one, List.getElem?_eq_getElem h1]
  simp only [Option.toList]
  rw [bval_snoc, List.getElem_drop]
  congr 1
  rw [List.getD_eq_getElem?_getD, List.getElem?_eq_getElem h]; rfl

theorem cbits_getD {c : List Nat} {i : Nat} (h : i < 8 * c.length) : (cbits c).getD i 0 = c.getD (i / 8) 0 / 2 ^ (7 - i % 8) % 2 := by
  rw [List.getD_eq_getElem?_getD, cbits_get c i h]; rfl

theorem Kept.drewN {K : Nat → Prop} {w w' : World} (h : Kept K w w') (n : Nat) : Kept K w (w'.drewN n) := by
  obtain ⟨h1, h2, h3, h4, h5⟩ := h
  exact ⟨h1, h2, h3, by simpa using h4, by simpa using h5⟩

theorem bit_val (c k : Nat) (hc : c < 256) : IntKind.u64.wrap (bits BinOp.and IntKind.u8 ((c : Int) / 2 ^ k) 1) = ((c / 2 ^ k % 2 : Nat) : Int) := by
  have h1 : c / 2 ^ k < 256 := Nat.lt_of_le_of_lt (Nat.div_le_self _ _) hc
  rw [shr_nat]
  have := u8_and_nat (c / 2 ^ k) 1 h1 (by omega)
  rw [nat_mask1] at this
  have e : ((1 : Nat) : Int) = 1 := rfl
  rw [e] at this
  rw [this, IntKind.wrap_u64]
  omega

theorem or_two (N b : Nat) (hN : N < 9223372036854775808) (hb : b < 2) : bits BinOp.or IntKind.u64 ((N : Int) * 2) (b : Int) = ((2 * N + b : Nat) : Int) := by
  have h1 := u64_or_nat (2 * N) b (by omega) (by omega)
  have h2 := Nat.two_pow_add_eq_or_of_lt (i := 1) (b := b) (by simpa using hb) N
  rw [Nat.pow_one] at h2
  rw [← h2] at h1
  rw [← h1]
  congr 1; omega

theorem byte_at (s : ByteArray) (q : Nat) (h : q < s.size) : (natsOf s).getD q 0 = s[q].toNat := by
  unfold natsOf
  have h2 : q < (s.data.toList.map UInt8.toNat).length := by rw [List.length_map, Array.length_toList]; exact h
  rw [List.getD_eq_getElem?_getD, List.getElem?_eq_getElem h2]
  simp only [List.getElem_map, Array.getElem_toList]
  rfl

theorem take_lt (c : List Nat) (pos j : Nat) : bval (((cbits c).drop pos).take j) < 2 ^ j := by
  have h1 := bval_lt (((cbits c).drop pos).take j) (fun b hb => cbits_lt c b (List.mem_of_mem_drop (List.mem_of_mem_take hb)))
  have h2 : (((cbits c).drop pos).take j).length ≤ j := List.length_take_le _ _
  exact Nat.lt_of_lt_of_le h1 (Nat.pow_le_pow_right (by omega) h2)

set_option maxRecDepth 20000 in
set_option maxHeartbeats 1600000 in
theorem read_ok (K : Nat → Prop) (z pos n : Nat) (s : ByteArray) (w : World) (hz : ¬ K z) (hr : RdrAt w z s pos) (hpos : pos + n ≤ 8 * s.size) (hs : pos + n ≤ 1000000) (hn : n ≤ 64) :
    Calls Tryz.prog 83 #[.pointer (some ⟨z, 0, none⟩), .int .i64 n] w fun e w' => e = .returned (.int .u64 (bval (((cbits (natsOf s)).drop pos).take n))) ∧ RdrAt w' z s (pos + n) ∧ Kept K w w' := by
  have hlen : (cbits (natsOf s)).length = 8 * s.size := by rw [cbits_length, natsOf_length]
  go_enter Tryz.func83, Tryz.ntmps83
  go_wp2_with fail
  go_loopw [5, 7] (fun x y wr => ∃ j : Nat, j ≤ n ∧ y = .int .i64 j ∧ x = .int .u64 (bval (((cbits (natsOf s)).drop pos).take j)) ∧ RdrAt wr z s (pos + j) ∧ Kept K w wr) (fun _ y _ => n - (RowKit.intOf y).toNat)
  case atStart => exact ⟨0, Nat.zero_le _, rfl, by simp [bval], hr, Kept.refl _ _⟩
  case round =>
    clear hr
    obtain ⟨j, hj, rfl, rfl, hr, hk⟩ := hrel
    have HR := hide hr
    obtain ⟨ty, hh⟩ := hr
    have c0 := cell_of_row wr z 0 _ ty _ hh
    have c1 := cell_of_row wr z 1 _ ty _ hh
    simp only [List.getElem?_toArray, List.getElem?_cons_zero, List.getElem?_cons_succ] at c0 c1
    have f1 := frozen_of_row wr z 1 _ ty hh
    by_cases hjn : j < n
    · generalize hi : pos + j = i at c1
      have hi8 : i < 8 * s.size := by omega
      have hi6 : i < 1000000 := by omega
      obtain ⟨q, hq⟩ : ∃ q, q = i / 8 := ⟨_, rfl⟩
      obtain ⟨m, hm⟩ : ∃ m, m = i % 8 := ⟨_, rfl⟩
      have e1 : (i : Int) / 8 = (q : Int) := by omega
      have e2 : (i : Int) % 8 = (m : Int) := by omega
      have hqs : q < s.size := by omega
      have hm8 : m < 8 := by omega
      have hlt : bval (((cbits (natsOf s)).drop pos).take j) < 2 ^ j := take_lt _ _ _
      have HI := hide hi
      have HQ := hide hq
      have HM := hide hm
      have HN : Hid (∃ N, bval (((cbits (natsOf s)).drop pos).take j) = N) := ⟨_, rfl⟩
      obtain ⟨N, hN⟩ := unhide HN
      rw [hN] at hlt ⊢
      have HN2 := hide hN
      have HL := hide hlen
      have HP := hide hpos
      have HH := hide hh
      clear hi hq hm hN HN hlen hpos hh
      go_wp2_with fail
      have hN63 : N < 9223372036854775808 := by
        have : 2 ^ j ≤ 2 ^ 63 := Nat.pow_le_pow_right (by omega) (by omega)
        omega
      go_quiet (fail)
      go_wp2_with fail
      go_quiet (fail)
      go_wp2_with fail
      go_roundw
      case rel =>
        have hi := unhide HI
        refine ⟨j + 1, by omega, by go_num, ?_, ?_, (hk.drewN _).setCell hz _⟩
        · have hl := unhide HL
          have h1 := take_snoc (B := cbits (natsOf s)) (pos := pos) (j := j) (by omega)
          rw [unhide HN2, hi, cbits_getD (by rw [natsOf_length]; exact hi8), ← unhide HQ, ← unhide HM, byte_at s q hqs] at h1
          rw [h1, bit_val _ _ (UInt8.toNat_lt _), or_two N _ hN63 (by omega)]
        · have hh := unhide HH
          rw [hi] at hh
          have h2 : ∀ m, RdrAt ((wr.drewN m).setCell ⟨z, 1, none⟩ (.int .i64 ((i : Int) + 1))) z s (i + 1) := fun m => by
            have h3 := heap_setCell_same (wr.drewN m) z 1 _ ty (.int .i64 ((i : Int) + 1)) (by simpa using hh)
            exact ⟨ty, by simpa using h3⟩
          rw [show pos + (j + 1) = i + 1 by omega]
          exact h2 _
      case measure => simp [RowKit.intOf]; omega
    · have hjn2 : j = n := by omega
      subst hjn2
      go_wp2_with fail
      go_ret
      exact ⟨rfl, unhide HR, hk⟩

/-- what a reader gives up with -/
abbrev few : PanicEntry := { v := .iface 140 (.agg #[]), recovered := false }

set_option maxRecDepth 20000 in
set_option maxHeartbeats 1600000 in
theorem read_bad (K : Nat → Prop) (z pos n : Nat) (s : ByteArray) (w : World) (hz : ¬ K z) (hr : RdrAt w z s pos) (hpos : 8 * s.size < pos + n) (hp0 : pos ≤ 8 * s.size) (hs : pos ≤ 1000000) (hn : n ≤ 64) :
    Calls Tryz.prog 83 #[.pointer (some ⟨z, 0, none⟩), .int .i64 n] w fun e w' => e = .panicked [few] ∧ Kept K w w' := by
  go_enter Tryz.func83, Tryz.ntmps83
  go_wp2_with fail
  go_loopw [5, 7] (fun x y wr => ∃ (j N : Nat), pos + j ≤ 8 * s.size ∧ y = .int .i64 j ∧ x = .int .u64 N ∧ N < 2 ^ j ∧ RdrAt wr z s (pos + j) ∧ Kept K w wr) (fun _ y _ => n - (RowKit.intOf y).toNat)
  case atStart => exact ⟨0, 0, by omega, rfl, rfl, by simp, hr, Kept.refl _ _⟩
  case round =>
    clear hr
    obtain ⟨j, N, hj, rfl, rfl, hlt, hr, hk⟩ := hrel
    have HR := hide hr
    obtain ⟨ty, hh⟩ := hr
    have c0 := cell_of_row wr z 0 _ ty _ hh
    have c1 := cell_of_row wr z 1 _ ty _ hh
    simp only [List.getElem?_toArray, List.getElem?_cons_zero, List.getElem?_cons_succ] at c0 c1
    have f1 := frozen_of_row wr z 1 _ ty hh
    have hjn : j < n := by omega
    generalize hi : pos + j = i at c1
    have hi6 : i < 2000000 := by omega
    obtain ⟨q, hq⟩ : ∃ q, q = i / 8 := ⟨_, rfl⟩
    obtain ⟨m, hm⟩ : ∃ m, m = i % 8 := ⟨_, rfl⟩
    have e1 : (i : Int) / 8 = (q : Int) := by omega
    have e2 : (i : Int) % 8 = (m : Int) := by omega
    have hm8 : m < 8 := by omega
    have HI := hide hi
    have HQ := hide hq
    have HM := hide hm
    have HP := hide hpos
    have HJ := hide hj
    have HH := hide hh
    by_cases hi8 : i < 8 * s.size
    · have hqs : q < s.size := by omega
      clear hi hq hm hpos hh hj hp0
      have hN63 : N < 9223372036854775808 := by
        have : 2 ^ j ≤ 2 ^ 63 := Nat.pow_le_pow_right (by omega) (by omega)
        omega
      go_wp2_with fail
      go_quiet (fail)
      go_wp2_with fail
      go_quiet (fail)
      go_wp2_with fail
      go_roundw
      case rel =>
        have hi := unhide HI
        have hcl : s[q].toNat / 2 ^ (7 - m) % 2 < 2 := Nat.mod_lt _ (by omega)
        refine ⟨j + 1, 2 * N + s[q].toNat / 2 ^ (7 - m) % 2, by omega, by go_num, ?_, ?_, ?_, (hk.drewN _).setCell hz _⟩
        · rw [bit_val _ _ (UInt8.toNat_lt _), or_two N _ hN63 hcl]
        · rw [Nat.pow_succ]; omega
        · have hh := unhide HH
          rw [hi] at hh
          have h2 : ∀ m, RdrAt ((wr.drewN m).setCell ⟨z, 1, none⟩ (.int .i64 ((i : Int) + 1))) z s (i + 1) := fun m => by
            have h3 := heap_setCell_same (wr.drewN m) z 1 _ ty (.int .i64 ((i : Int) + 1)) (by simpa using hh)
            exact ⟨ty, by simpa using h3⟩
          rw [show pos + (j + 1) = i + 1 by omega]
          exact h2 _
      case measure => simp [RowKit.intOf]; omega
    · have hqs : s.size ≤ q := by omega
      clear hi hq hm hpos hh hj hp0
      go_wp2_with fail
      go_quiet (fail)
      go_wp2_with fail
      simp only [bodyPost]
      exact ⟨trivial, trivial, hk.drewN _⟩
end Go.Proofs.YtgekdmjneogdoaaGreatDoor
