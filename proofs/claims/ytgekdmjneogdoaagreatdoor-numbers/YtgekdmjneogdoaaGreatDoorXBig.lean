import Derived.Test.YtgekdmjneogdoaaGreatDoorXPlain
import Derived.Maps.AppendAt
import Derived.WalkSmall
import Derived.Lib.SmallJoins
import Derived.Deep.QuietTactic
import Derived.BigQuiet
namespace Go.Proofs.YtgekdmjneogdoaaGreatDoor
open Go.RowKit

set_option maxRecDepth 20000 in
set_option maxHeartbeats 400000 in
theorem ref_parts (v : Nat) (w : World) (hv : v < 9218868437227405312) :
    Calls Tryz.prog 154 #[.int .u64 v] w fun e w' => e = .returned (.tuple #[.int .u64 (if v / 4503599627370496 = 0 then v % 4503599627370496 else v % 4503599627370496 + 4503599627370496 : Nat), .int .i64 (if v / 4503599627370496 = 0 then (-1074 : Int) else ((v / 4503599627370496 : Nat) : Int) - 1075)]) ∧ w' = w := by
  have h1 : v / 4503599627370496 < 2047 := by omega
  have h2 : v % 4503599627370496 < 4503599627370496 := by omega
  by_cases h : v / 4503599627370496 = 0
  · rw [if_pos h, if_pos h]
    have h3 : ((v / 4503599627370496 : Nat) : Int) = 0 := by omega
    go_enter Tryz.func154, Tryz.ntmps154
    go_wp2_with fail
    go_ret2
    exact ⟨by go_num, rfl⟩
  · rw [if_neg h, if_neg h]
    have h3 : ((v / 4503599627370496 : Nat) : Int) ≠ 0 := by omega
    go_enter Tryz.func154, Tryz.ntmps154
    go_wp2_with fail
    go_ret2
    exact ⟨by go_num, rfl⟩

/-- a natural number's digits of base 2^24, the lowest first -/
def digsF : Nat → Nat → List Nat
  | 0, _ => []
  | f + 1, n => if n = 0 then [] else n % 16777216 :: digsF f (n / 16777216)
def digs (n : Nat) : List Nat := digsF n n

theorem digsF_more : ∀ (f g n : Nat), n ≤ f → n ≤ g → digsF f n = digsF g n := by
  intro f
  induction f with
  | zero =>
    intro g n h _
    obtain rfl : n = 0 := by omega
    cases g with
    | zero => rfl
    | succ g => simp [digsF]
  | succ f ih =>
    intro g n h1 h2
    cases g with
    | zero =>
      obtain rfl : n = 0 := by omega
      simp [digsF]
    | succ g =>
      by_cases h0 : n = 0
      · subst h0
        simp [digsF]
      · simp only [digsF, if_neg h0]
        rw [ih g (n / 16777216) (by omega) (by omega)]

theorem digs_pos {n : Nat} (h : 0 < n) : digs n = n % 16777216 :: digs (n / 16777216) := by
  obtain ⟨m, rfl⟩ : ∃ m, n = m + 1 := ⟨n - 1, by omega⟩
  show digsF (m + 1) (m + 1) = _
  simp only [digsF]
  rw [if_neg (by omega), digsF_more m ((m + 1) / 16777216) ((m + 1) / 16777216) (by omega) (by omega)]
  rfl

theorem digs_zero : digs 0 = [] := rfl

abbrev encN : Nat → Value := fun n => Value.int .i64 (n : Int)

theorem infoBg : (Tryz.prog.info? 3).map (fun i => (i.zero, i.size, i.bytes)) = some (some (.int .i64 0), 1, 8) := by kernel_rfl

set_option maxRecDepth 20000 in
set_option maxHeartbeats 800000 in
theorem ref_of (n : Nat) (w : World) (hn : n < 18446744073709551616) :
    Calls Tryz.prog 157 #[.int .u64 n] w fun e w' => ∃ v, e = .returned v ∧ w'.ownsRow w.heap.size 3 1 v (digs n).length ((digs n).map encN) ∧ Below w.heap.size w w' := by
  obtain ⟨i0, hi, hz0, hz1, hz2⟩ := info_parts infoBg
  go_enter Tryz.func157, Tryz.ntmps157
  go_wp2_with fail
  go_loopw [0, 3] (fun x v wr => ∃ (m : Nat) (l : List Nat), x = .int .u64 m ∧ Hid (l ++ digs m = digs n ∧ m * 16777216 ^ l.length ≤ n) ∧ wr.ownsRow w.heap.size 3 1 v l.length (l.map encN) ∧ Below w.heap.size w wr) (fun x _ _ => (RowKit.intOf x).toNat)
  case atStart => exact ⟨n, [], rfl, ⟨rfl, by simp⟩, World.ownsRow_nil _ _ _ _, Below.refl _ _⟩
  case round =>
    obtain ⟨m, l, rfl, hk, hown, hbl⟩ := hrel
    have hs := hbl.size
    by_cases hm : m = 0
    · have hm2 : (m : Int) = 0 := by omega
      subst hm
      go_wp2_with fail
      go_ret
      obtain ⟨k1, k2⟩ := unhide hk
      rw [digs_zero, List.append_nil] at k1
      rw [← k1]
      exact ⟨_, rfl, hown, hbl⟩
    · have hm2 : (0 : Int) < m := by omega
      have hm64 : m < 18446744073709551616 := by
        have := (unhide hk).2
        have h1 : 1 ≤ 16777216 ^ l.length := Nat.one_le_pow _ _ (by omega)
        have h2 : m * 1 ≤ m * 16777216 ^ l.length := Nat.mul_le_mul_left _ h1
        omega
      have hl : l.length ≤ 2 := by
        have h2 := (unhide hk).2
        by_cases h3 : 3 ≤ l.length
        · have h4 : 16777216 ^ 3 ≤ 16777216 ^ l.length := Nat.pow_le_pow_right (by omega) h3
          have h5 : 1 * 16777216 ^ l.length ≤ m * 16777216 ^ l.length := Nat.mul_le_mul_right _ (by omega)
          omega
        · omega
      have hd : m % 16777216 < 16777216 := by omega
      go_wp2_with (at_builtin; refine wpList_append_own _ rfl _ _ 213 rfl w.heap.size 3 i0 (.int .i64 0) 1 8 Tryz.underlying213 hi hz0 hz1 hz2 rfl (by decide) _ _ _ rfl (hown.alloc _) ⟨wr.heap.size, 0, none⟩ 1 1 [encN (m % 16777216)] rfl rfl ?c1 ?c2 ?c3 ?c4 ?c5 ?_)
      case c1 => exact cell_one_new _ _ _
      case c2 => intro u hu; simp at hu; subst hu; rfl
      case c3 => unfold maxLen; omega
      case c4 => omega
      case c5 => simp; omega
      intro v' w1 hown' hgrow _
      have hb1 : Below w.heap.size w w1 := (hbl.alloc (by omega) _).grown hgrow (by simp; omega) (fun j hj => (hown.lt j hj).1)
      have hown2 : w1.ownsRow w.heap.size 3 1 v' (l ++ [m % 16777216]).length ((l ++ [m % 16777216]).map encN) := by simpa using hown'
      clear hown' hgrow hown
      go_wp2_with fail
      go_roundw
      case rel =>
        refine ⟨m / 16777216, l ++ [m % 16777216], by go_num, ?_, hown2, hb1⟩
        obtain ⟨k1, k2⟩ := unhide hk
        refine ⟨?_, ?_⟩
        · rw [← k1, digs_pos (show 0 < m by omega)]; simp
        · simp only [List.length_append, List.length_singleton]
          rw [Nat.pow_succ, Nat.mul_comm (16777216 ^ l.length), ← Nat.mul_assoc]
          exact Nat.le_trans (Nat.mul_le_mul_right _ (Nat.div_mul_le_self m 16777216)) k2
      case measure => simp [RowKit.intOf]; omega
end Go.Proofs.YtgekdmjneogdoaaGreatDoor

namespace Go.Proofs.YtgekdmjneogdoaaGreatDoor
open Go.RowKit

/-- the number that digits of base 2^24 tell, the lowest first -/
def valB : List Nat → Nat
  | [] => 0
  | d :: l => d + 16777216 * valB l

theorem valB_snoc (l : List Nat) (d : Nat) : valB (l ++ [d]) = valB l + d * 16777216 ^ l.length := by
  induction l with
  | nil => simp [valB]
  | cons x l ih =>
    simp only [List.cons_append, valB, ih, List.length_cons, Nat.pow_succ]
    rw [Nat.mul_add, ← Nat.mul_assoc, Nat.mul_comm 16777216 d, Nat.mul_assoc, Nat.mul_comm 16777216 (16777216 ^ l.length)]
    omega

theorem valB_digs : ∀ n, valB (digs n) = n := by
  intro n
  induction n using Nat.strongRecOn with
  | ind n ih =>
    by_cases h : n = 0
    · subst h; rw [digs_zero]; rfl
    · rw [digs_pos (by omega), valB, ih (n / 16777216) (by omega)]; omega

theorem digs_lt : ∀ n, ∀ d ∈ digs n, d < 16777216 := by
  intro n
  induction n using Nat.strongRecOn with
  | ind n ih =>
    by_cases h : n = 0
    · subst h; rw [digs_zero]; simp
    · rw [digs_pos (by omega)]
      intro d hd
      rcases List.mem_cons.1 hd with rfl | hd
      · omega
      · exact ih (n / 16777216) (by omega) d hd

theorem valB_pos : ∀ (l : List Nat), l ≠ [] → l.getLast? ≠ some 0 → 0 < valB l
  | [], h, _ => absurd rfl h
  | [d], _, h => by simp at h; simp [valB]; omega
  | d :: e :: l, _, h => by
    have := valB_pos (e :: l) (by simp) (by simpa using h)
    simp only [valB] at this ⊢; omega

/-- digits without a nought at their end are the number's own -/
theorem digs_val : ∀ (l : List Nat), (∀ d ∈ l, d < 16777216) → l.getLast? ≠ some 0 → digs (valB l) = l
  | [], _, _ => digs_zero
  | d :: l, hd, hz => by
    have h1 : d < 16777216 := hd d (by simp)
    have h2 : 0 < valB (d :: l) := valB_pos _ (by simp) hz
    rw [digs_pos h2]
    have h3 : valB (d :: l) % 16777216 = d := by simp only [valB]; omega
    have h4 : valB (d :: l) / 16777216 = valB l := by simp only [valB]; omega
    rw [h3, h4, digs_val l (fun x hx => hd x (by simp [hx])) ?_]
    cases l with
    | nil => simp
    | cons e l => simpa using hz

/-- a slice value that reads a list of digits -/
def Rd (w : World) (v : Value) (l : List Nat) : Prop :=
  ∃ ao cap, v = .slice ao l.length cap ∧ (0 < l.length → ∃ g, g < w.heap.size ∧ ao = some ⟨g, 0, none⟩ ∧ ∀ j, j < l.length → w.cell? ⟨g, j, none⟩ = some (encN (l.getD j 0)))

theorem Rd.below {w w' : World} {v : Value} {l : List Nat} (h : Rd w v l) {B : Nat} (hB : w.heap.size ≤ B) (hb : Below B w w') : Rd w' v l := by
  obtain ⟨ao, cap, rfl, h2⟩ := h
  refine ⟨ao, cap, rfl, fun h0 => ?_⟩
  obtain ⟨g, h3, h4, h5⟩ := h2 h0
  exact ⟨g, Nat.lt_of_lt_of_le h3 hb.size, h4, fun j hj => (hb.cell (by exact Nat.lt_of_lt_of_le h3 hB)).trans (h5 j hj)⟩

theorem rd_own {w : World} {base : Nat} {v : Value} {l : List Nat} (h : w.ownsRow base 3 1 v l.length (l.map encN)) : Rd w v l := by
  have hlt := h.lt
  have h' := h
  obtain ⟨_, h2⟩ := h
  rcases h2 with ⟨rfl, h0⟩ | ⟨g, cap, cur, rfl, _⟩
  · exact ⟨none, 0, by rw [h0], fun h1 => by omega⟩
  · refine ⟨_, _, rfl, fun _ => ⟨g, (hlt g rfl).2, rfl, fun j hj => ?_⟩⟩
    rw [h'.cellAt j (by omega), List.getElem?_map, List.getD_eq_getElem?_getD, List.getElem?_eq_getElem hj]
    rfl

theorem times_step {l o : List Nat} {m a c k : Nat} (hk : k < l.length) (ho : o.length = k) (h : valB o + c * 16777216 ^ k = valB (l.take k) * m + a) :
    valB (o ++ [(l.getD k 0 * m + c) % 16777216]) + (l.getD k 0 * m + c) / 16777216 * 16777216 ^ (k + 1) = valB (l.take (k + 1)) * m + a := by
  have ht : l.take (k + 1) = l.take k ++ [l.getD k 0] := by
    rw [List.take_add_one, List.getD_eq_getElem?_getD, List.getElem?_eq_getElem hk]; rfl
  rw [ht, valB_snoc, valB_snoc, ho, List.length_take, Nat.min_eq_left (by omega), Nat.pow_succ]
  generalize hx : l.getD k 0 * m + c = x
  have h2 : x % 16777216 * 16777216 ^ k + x / 16777216 * (16777216 ^ k * 16777216) = x * 16777216 ^ k := by
    rw [Nat.mul_comm (16777216 ^ k) 16777216, ← Nat.mul_assoc, ← Nat.add_mul]
    congr 1; omega
  rw [Nat.add_assoc, h2, ← hx, Nat.add_mul, Nat.add_mul, Nat.mul_right_comm (l.getD k 0) _ m]
  omega

theorem carry_step {o : List Nat} {c N : Nat} (h : valB o + c * 16777216 ^ o.length = N) : valB (o ++ [c % 16777216]) + c / 16777216 * 16777216 ^ (o.length + 1) = N := by
  rw [valB_snoc, Nat.pow_succ, Nat.add_assoc, Nat.mul_comm (16777216 ^ o.length) 16777216, ← Nat.mul_assoc, ← Nat.add_mul, ← h]
  congr 2; omega
end Go.Proofs.YtgekdmjneogdoaaGreatDoor

namespace Go.Proofs.YtgekdmjneogdoaaGreatDoor
open Go.RowKit

set_option maxRecDepth 20000 in
set_option maxHeartbeats 1600000 in
theorem ref_times (v : Value) (l : List Nat) (m a : Nat) (w : World) (hr : Rd w v l) (hl : l.length ≤ 100000) (hd : ∀ d ∈ l, d < 16777216) (hm : m ≤ 16777216) (ha : a ≤ 16777216) :
    Calls Tryz.prog 160 #[v, .int .i64 m, .int .i64 a] w fun e w' => ∃ v', e = .returned v' ∧ w'.ownsRow w.heap.size 3 1 v' (digs (valB l * m + a)).length ((digs (valB l * m + a)).map encN) ∧ Below w.heap.size w w' := by
  obtain ⟨i0, hi, hz0, hz1, hz2⟩ := info_parts infoBg
  have hD := hide hd
  have hR := hide hr
  clear hd hr
  obtain ⟨ao, cap, rfl, hrd⟩ := unhide hR
  have HR := hide hrd
  clear hR hrd
  go_enter Tryz.func160, Tryz.ntmps160
  go_wp2_with fail
  go_loopw [7, 8, 9] (fun x y z wr => ∃ (k c : Nat) (o : List Nat), k ≤ l.length ∧ c ≤ 16777216 ∧ z = .int .i64 k ∧ y = .int .i64 c ∧ Hid (valB o + c * 16777216 ^ k = valB (l.take k) * m + a ∧ o.length = k ∧ ∀ d ∈ o, d < 16777216) ∧ wr.ownsRow w.heap.size 3 1 x o.length (o.map encN) ∧ Below w.heap.size w wr) (fun _ _ z _ => l.length - (RowKit.intOf z).toNat)
  case atStart => exact ⟨0, a, [], by omega, ha, rfl, rfl, ⟨by simp [valB], rfl, by simp⟩, World.ownsRow_nil _ _ _ _, Below.refl _ _⟩
  case round =>
    obtain ⟨k, c, o, hk, hc, rfl, rfl, hI, hown, hbl⟩ := hrel
    have hs := hbl.size
    by_cases hkl : k < l.length
    · obtain ⟨g, hg, rfl, hcell⟩ := unhide HR (by omega)
      have hck : wr.cell? ⟨g, k, none⟩ = some (encN (l.getD k 0)) := (hbl.cell hg).trans (hcell k hkl)
      clear hcell
      have hdk : l.getD k 0 < 16777216 := by
        rw [List.getD_eq_getElem?_getD, List.getElem?_eq_getElem hkl]
        exact unhide hD _ (List.getElem_mem hkl)
      have hol : Hid (o.length = k) := (unhide hI).2.1
      generalize hdd : l.getD k 0 = d at hck hdk
      have hp1 : d * m ≤ 16777215 * 16777216 := Nat.mul_le_mul (by omega) hm
      have hp2 : (0 : Int) ≤ (d : Int) * m := by rw [← Int.natCast_mul]; omega
      have hp3 : (d : Int) * m ≤ 281474976710656 := by rw [← Int.natCast_mul]; omega
      go_wp2_with (at_builtin; refine wpList_append_own _ rfl _ _ 213 rfl w.heap.size 3 i0 (.int .i64 0) 1 8 Tryz.underlying213 hi hz0 hz1 hz2 rfl (by decide) _ _ _ rfl (hown.alloc _) ⟨wr.heap.size, 0, none⟩ 1 1 [encN ((d * m + c) % 16777216)] rfl rfl ?c1 ?c2 ?c3 ?c4 ?c5 ?_)
      case c1 =>
        rw [show (((d : Int) * m + c) % 16777216) = (((d * m + c) % 16777216 : Nat) : Int) by simp]
        exact cell_one_new _ _ _
      case c2 => intro u hu; simp at hu; subst hu; rfl
      case c3 => have := unhide hol; unfold maxLen; omega
      case c4 => have := unhide hol; omega
      case c5 => simp; omega
      intro v' w1 hown' hgrow _
      have hb1 : Below w.heap.size w w1 := (hbl.alloc (by omega) _).grown hgrow (by simp; omega) (fun j hj => (hown.lt j hj).1)
      have hown2 : w1.ownsRow w.heap.size 3 1 v' (o ++ [(d * m + c) % 16777216]).length ((o ++ [(d * m + c) % 16777216]).map encN) := by simpa using hown'
      clear hown' hgrow hown
      go_wp2_with fail
      go_roundw
      case rel =>
        obtain ⟨k1, k2, k3⟩ := unhide hI
        refine ⟨k + 1, (d * m + c) / 16777216, o ++ [(d * m + c) % 16777216], by omega, by omega, by go_num, by simp, ⟨?_, by simp [k2], ?_⟩, hown2, hb1⟩
        · rw [← hdd]; exact times_step hkl k2 k1
        · intro x hx
          rcases List.mem_append.1 hx with hx | hx
          · exact k3 x hx
          · simp at hx; subst hx; omega
      case measure => simp [RowKit.intOf]; omega
    · have hkl2 : Hid (k = l.length) := (by omega : k = l.length)
      clear HR
      go_wp2_with fail
      have hI2 : Hid (valB o + c * 16777216 ^ o.length = valB l * m + a ∧ o.length = l.length ∧ ∀ d ∈ o, d < 16777216) := by
        obtain ⟨k1, k2, k3⟩ := unhide hI
        have k4 := unhide hkl2
        rw [k4, List.take_length] at k1
        exact ⟨by rw [k2, k4]; exact k1, by rw [k2, k4], k3⟩
      clear hI hkl2
      go_loopw [7, 8] (fun x y wq => ∃ (c : Nat) (o : List Nat), c ≤ 16777216 ∧ y = .int .i64 c ∧ Hid (valB o + c * 16777216 ^ o.length = valB l * m + a ∧ (o.length = l.length ∨ (o.length = l.length + 1 ∧ c ≤ 1) ∨ (o.length = l.length + 2 ∧ c = 0)) ∧ ∀ d ∈ o, d < 16777216) ∧ wq.ownsRow w.heap.size 3 1 x o.length (o.map encN) ∧ Below w.heap.size w wq) (fun _ y _ => (RowKit.intOf y).toNat)
      case atStart => exact ⟨c, o, hc, rfl, ⟨(unhide hI2).1, .inl (unhide hI2).2.1, (unhide hI2).2.2⟩, hown, hbl⟩
      case round =>
        clear hown hbl hI2 hs hc
        obtain ⟨c, o, hc, rfl, hI, hown, hbl⟩ := hrel
        have hs := hbl.size
        by_cases hc0 : c = 0
        · subst hc0
          have hI2 : Hid (valB o = valB l * m + a ∧ o.length ≤ l.length + 2 ∧ ∀ d ∈ o, d < 16777216) := by
            obtain ⟨k1, k2, k3⟩ := unhide hI
            exact ⟨by simpa using k1, by omega, k3⟩
          clear hI
          go_wp2_with fail
          go_loopw [7] (fun x wz => ∃ (o : List Nat), Hid (valB o = valB l * m + a ∧ o.length ≤ l.length + 2 ∧ ∀ d ∈ o, d < 16777216) ∧ wz.ownsRow w.heap.size 3 1 x o.length (o.map encN) ∧ Below w.heap.size w wz) (fun x _ => match x with | .slice _ n _ => n | _ => 0)
          case atStart => exact ⟨o, hI2, hown, hbl⟩
          case round =>
            clear hown hbl hI2 hs
            obtain ⟨o, hI, hown, hbl⟩ := hrel
            rcases List.eq_nil_or_concat o with rfl | ⟨o', d, ho⟩
            · have hfin : Hid (digs (valB l * m + a) = []) := by
                rw [← (unhide hI).1]; exact digs_zero
              rcases Joins.ownsRow_forms hown with ⟨rfl, _⟩ | ⟨g, cp, rfl⟩
              · go_wp2_with fail
                go_ret
                rw [unhide hfin]
                exact ⟨_, rfl, hown, hbl⟩
              · go_wp2_with fail
                go_ret
                rw [unhide hfin]
                exact ⟨_, rfl, hown, hbl⟩
            · rw [List.concat_eq_append] at ho
              subst ho
              obtain ⟨g, cp, rfl⟩ : ∃ g cp, u7 = .slice (some ⟨g, 0, none⟩) (o' ++ [d]).length cp := by
                rcases Joins.ownsRow_forms hown with ⟨_, h0⟩ | h0
                · simp at h0
                · exact h0
              have hlen : (o' ++ [d]).length = o'.length + 1 := by simp
              rw [hlen] at hown
              rw [hlen]
              have hcell : wr.cell? ⟨g, o'.length, none⟩ = some (encN d) := by
                rw [hown.cellAt o'.length (by omega)]; simp
              have hol : o'.length ≤ l.length + 1 := by
                have := (unhide hI).2.1
                rw [hlen] at this; omega
              have hpop : Hid (wr.ownsRow w.heap.size 3 1 (.slice (some ⟨g, 0, none⟩) o'.length cp) o'.length (o'.map encN)) := ownsRow_pop (last := [encN d]) (by simp) (by simpa using hown)
              have hcp : o'.length + 1 ≤ cp := by
                obtain ⟨_, h2⟩ := hown
                rcases h2 with ⟨h0, _⟩ | ⟨g', cap', cur, hv, hg, hh, hn, hcap, hsz, htake⟩
                · cases h0
                · cases hv; exact hn
              by_cases hd0 : d = 0
              · subst hd0
                have hown0 := hide hown
                clear hown
                go_wp2_with fail
                go_roundw
                case rel =>
                  refine ⟨o', ?_, unhide hpop, hbl⟩
                  obtain ⟨k1, k2, k3⟩ := unhide hI
                  rw [valB_snoc] at k1
                  exact ⟨by omega, by omega, fun x hx => k3 x (List.mem_append_left _ hx)⟩
                case measure => simp
              · have hd1 : (d : Int) ≠ 0 := by omega
                have hown0 := hide hown
                clear hown
                go_wp2_with fail
                go_ret
                obtain ⟨k1, k2, k3⟩ := unhide hI
                have hfin := digs_val _ k3 (by simp; exact hd0)
                rw [k1] at hfin
                rw [hfin, hlen]
                exact ⟨_, rfl, unhide hown0, hbl⟩
        · have hc1 : (0 : Int) < c := by omega
          have hol : Hid (o.length ≤ l.length + 1) := by
            obtain ⟨k1, k2, k3⟩ := unhide hI
            exact (by omega : o.length ≤ l.length + 1)
          have hcm : c % 16777216 < 16777216 := by omega
          go_wp2_with (at_builtin; refine wpList_append_own _ rfl _ _ 213 rfl w.heap.size 3 i0 (.int .i64 0) 1 8 Tryz.underlying213 hi hz0 hz1 hz2 rfl (by decide) _ _ _ rfl (hown.alloc _) ⟨wr.heap.size, 0, none⟩ 1 1 [encN (c % 16777216)] rfl rfl ?c1 ?c2 ?c3 ?c4 ?c5 ?_)
          case c1 => exact cell_one_new _ _ _
          case c2 => intro u hu; simp at hu; subst hu; rfl
          case c3 => have := unhide hol; unfold maxLen; omega
          case c4 => have := unhide hol; omega
          case c5 => simp; omega
          intro v' w1 hown' hgrow _
          have hb1 : Below w.heap.size w w1 := (hbl.alloc (by omega) _).grown hgrow (by simp; omega) (fun j hj => (hown.lt j hj).1)
          have hown2 : w1.ownsRow w.heap.size 3 1 v' (o ++ [c % 16777216]).length ((o ++ [c % 16777216]).map encN) := by simpa using hown'
          clear hown' hgrow hown
          go_wp2_with fail
          go_roundw
          case rel =>
            obtain ⟨k1, k2, k3⟩ := unhide hI
            refine ⟨c / 16777216, o ++ [c % 16777216], by omega, by go_num, ⟨?_, ?_, ?_⟩, hown2, hb1⟩
            · have := carry_step k1; simpa using this
            · simp only [List.length_append, List.length_singleton]; omega
            · intro x hx
              rcases List.mem_append.1 hx with hx | hx
              · exact k3 x hx
              · simp at hx; subst hx; omega
          case measure => simp [RowKit.intOf]; omega
end Go.Proofs.YtgekdmjneogdoaaGreatDoor

namespace Go.Proofs.YtgekdmjneogdoaaGreatDoor
open Go.RowKit

theorem digs_len_mono : ∀ (n m : Nat), m ≤ n → (digs m).length ≤ (digs n).length := by
  intro n
  induction n using Nat.strongRecOn with
  | ind n ih =>
    intro m h
    by_cases hm : m = 0
    · subst hm; rw [digs_zero]; simp
    · rw [digs_pos (show 0 < m by omega), digs_pos (show 0 < n by omega)]
      have := ih (n / 16777216) (by omega) (m / 16777216) (Nat.div_le_div_right h)
      simp only [List.length_cons]; omega

theorem digs_len_lt : ∀ (k n : Nat), n < 16777216 ^ k → (digs n).length ≤ k
  | 0, n, h => by have h0 : n = 0 := by simpa using h
                  rw [h0, digs_zero]; simp
  | k + 1, n, h => by
    by_cases hn : n = 0
    · rw [hn, digs_zero]; simp
    · rw [digs_pos (by omega)]
      have := digs_len_lt k (n / 16777216) (by rw [Nat.pow_succ] at h; exact Nat.div_lt_of_lt_mul (by rw [Nat.mul_comm]; exact h))
      simp only [List.length_cons]; omega

/-- a number whose digits of base 2^24 are not too many -/
def Lim (n : Nat) : Prop := (digs n).length ≤ 100000

theorem Lim.mono {m n : Nat} (h : Lim n) (hm : m ≤ n) : Lim m := Nat.le_trans (digs_len_mono n m hm) h

theorem times_rd (v : Value) (n m a : Nat) (w : World) (hr : Rd w v (digs n)) (hl : Lim n) (hm : m ≤ 16777216) (ha : a ≤ 16777216) :
    Calls Tryz.prog 160 #[v, .int .i64 m, .int .i64 a] w fun e w' => ∃ v', e = .returned v' ∧ Rd w' v' (digs (n * m + a)) ∧ Below w.heap.size w w' := by
  refine (ref_times v (digs n) m a w hr hl (digs_lt n) hm ha).mono ?_
  rintro e w' ⟨v', rfl, h1, h2⟩
  rw [valB_digs] at h1
  exact ⟨v', rfl, rd_own h1, h2⟩

set_option maxRecDepth 20000 in
set_option maxHeartbeats 800000 in
theorem ref_ten (v : Value) (n p : Nat) (w : World) (hr : Rd w v (digs n)) (hl : Lim (n * 10 ^ p)) (hp : p ≤ 1000000) :
    Calls Tryz.prog 199 #[v, .int .i64 p] w fun e w' => ∃ v', e = .returned v' ∧ Rd w' v' (digs (n * 10 ^ p)) ∧ Below w.heap.size w w' := by
  have hR := hide hr
  have hL := hide hl
  have T := hide times_rd
  clear hr hl
  go_enter Tryz.func199, Tryz.ntmps199
  go_wp2_with fail
  go_loopw [0, 1] (fun x y wr => ∃ (k M : Nat), k ≤ p ∧ y = .int .i64 k ∧ Hid (M * 10 ^ k = n * 10 ^ p ∧ Rd wr x (digs M)) ∧ Below w.heap.size w wr) (fun _ y _ => (RowKit.intOf y).toNat)
  case atStart => exact ⟨p, n, by omega, rfl, ⟨rfl, unhide hR⟩, Below.refl _ _⟩
  case round =>
    obtain ⟨k, M, hk, rfl, hI, hbl⟩ := hrel
    have hs := hbl.size
    by_cases h6 : 6 ≤ k
    · have h6' : (6 : Int) ≤ k := by omega
      have hLM : Hid (Lim M) := by
        refine (unhide hL).mono ?_
        rw [← (unhide hI).1]
        exact Nat.le_mul_of_pos_right _ (Nat.pow_pos (by omega))
      go_wp2_with fail
      refine (unhide T _ M 1000000 0 _ (unhide hI).2 (unhide hLM) (by omega) (by omega)).mono ?_
      rintro e w1 ⟨v', rfl, hr1, hb1⟩
      rw [Nat.add_zero] at hr1
      have hr2 := hide hr1
      clear hr1
      go_wp2_with fail
      go_roundw
      case rel =>
        refine ⟨k - 6, M * 1000000, by omega, by go_num, ⟨?_, unhide hr2⟩, hbl.trans (hb1.mono hs)⟩
        rw [← (unhide hI).1, Nat.mul_assoc]
        congr 1
        rw [show (1000000 : Nat) = 10 ^ 6 by rfl, ← Nat.pow_add]
        congr 1; omega
      case measure => simp [RowKit.intOf]; omega
    · have h6' : ¬ (6 : Int) ≤ k := by omega
      go_wp2_with fail
      go_loopw [0, 1] (fun x y wr => ∃ (k M : Nat), k ≤ 5 ∧ y = .int .i64 k ∧ Hid (M * 10 ^ k = n * 10 ^ p ∧ Rd wr x (digs M)) ∧ Below w.heap.size w wr) (fun _ y _ => (RowKit.intOf y).toNat)
      case atStart => exact ⟨k, M, by omega, rfl, hI, hbl⟩
      case round =>
        clear hI hbl hs
        obtain ⟨k, M, hk, rfl, hI, hbl⟩ := hrel
        have hs := hbl.size
        by_cases h0 : k = 0
        · subst h0
          go_wp2_with fail
          go_ret
          obtain ⟨k1, k2⟩ := unhide hI
          rw [Nat.pow_zero, Nat.mul_one] at k1
          rw [← k1]
          exact ⟨_, rfl, k2, hbl⟩
        · have h1 : (0 : Int) < k := by omega
          have hLM : Hid (Lim M) := by
            refine (unhide hL).mono ?_
            rw [← (unhide hI).1]
            exact Nat.le_mul_of_pos_right _ (Nat.pow_pos (by omega))
          go_wp2_with fail
          refine (unhide T _ M 10 0 _ (unhide hI).2 (unhide hLM) (by omega) (by omega)).mono ?_
          rintro e w1 ⟨v', rfl, hr1, hb1⟩
          rw [Nat.add_zero] at hr1
          have hr2 := hide hr1
          clear hr1
          go_wp2_with fail
          go_roundw
          case rel =>
            refine ⟨k - 1, M * 10, by omega, by go_num, ⟨?_, unhide hr2⟩, hbl.trans (hb1.mono hs)⟩
            rw [← (unhide hI).1, Nat.mul_assoc]
            congr 1
            rw [Nat.mul_comm, ← Nat.pow_succ]
            congr 1; omega
          case measure => simp [RowKit.intOf]; omega

/-- which of two lists of digits of one length is the lower: by the highest digit that parts -/
theorem valB_lt_of {a b : List Nat} (hl : a.length = b.length) (k : Nat) (hk : k < a.length) (ha : ∀ d ∈ a, d < 16777216) (hb : ∀ d ∈ b, d < 16777216)
    (he : ∀ j, k < j → j < a.length → a.getD j 0 = b.getD j 0) (hlt : a.getD k 0 < b.getD k 0) : valB a < valB b := by
  induction a generalizing b k with
  | nil => simp at hk
  | cons x a ih =>
    cases b with
    | nil => simp at hl
    | cons y b =>
      have hl' : a.length = b.length := by simpa using hl
      have hx := ha x (by simp)
      have hy := hb y (by simp)
      cases k with
      | zero =>
        have hab : a = b := by
          apply List.ext_getElem hl'
          intro j h1 h2
          have := he (j + 1) (by omega) (by simp; omega)
          simpa [List.getD_eq_getElem?_getD, h1, h2] using this
        subst hab
        simp [valB] at hlt ⊢
        exact hlt
      | succ k =>
        have := ih (b := b) (k := k) hl' (by simpa using hk) (fun d hd => ha d (by simp [hd])) (fun d hd => hb d (by simp [hd]))
          (fun j h1 h2 => by simpa using he (j + 1) (by omega) (by simp; omega)) (by simpa using hlt)
        simp only [valB]; omega

theorem digs_lt_len {m n : Nat} (h : (digs m).length < (digs n).length) : m < n := by
  by_cases hmn : m < n
  · exact hmn
  · have := digs_len_mono m n (by omega); omega

theorem below_dn {B : Nat} {a w : World} {k : Nat} (h : Below B a w) : Below B a (w.drewN k) := ⟨h.os, h.tape, h.output, h.size, h.block⟩

set_option maxRecDepth 20000 in
set_option maxHeartbeats 800000 in
theorem ref_less (va vb : Value) (m n : Nat) (w : World) (ha : Rd w va (digs m)) (hb : Rd w vb (digs n)) (hl : Lim m) :
    Calls Tryz.prog 202 #[va, vb] w fun e w' => e = .returned (.bool (decide (m < n))) ∧ Below w.heap.size w w' := by
  obtain ⟨ao, ca, rfl, ha2⟩ := ha
  obtain ⟨bo, cb, rfl, hb2⟩ := hb
  have HA := hide ha2
  have HB := hide hb2
  clear ha2 hb2
  have hL := hide hl
  have hla : (digs m).length ≤ 100000 := hl
  clear hl
  by_cases hlen : (digs m).length = (digs n).length
  · rw [← hlen]
    rw [← hlen] at HB
    generalize hLL : (digs m).length = L at *
    have hlen2 := hide hlen
    have hLL2 := hide hLL
    clear hlen hLL
    go_enter Tryz.func202, Tryz.ntmps202
    go_wp2_with fail
    go_loopw [5] (fun x wr => ∃ k : Nat, k ≤ L ∧ x = .int .i64 ((k : Int) - 1) ∧ Hid (∀ j, k ≤ j → j < L → (digs m).getD j 0 = (digs n).getD j 0) ∧ Below w.heap.size w wr) (fun x _ => (RowKit.intOf x + 1).toNat)
    case atStart => exact ⟨L, by omega, rfl, fun j h1 h2 => by omega, Below.refl _ _⟩
    case round =>
      obtain ⟨k, hk, rfl, hI, hbl⟩ := hrel
      by_cases h0 : k = 0
      · subst h0
        have heq : Hid (m = n) := by
          have h1 : digs m = digs n := by
            apply List.ext_getElem ((unhide hLL2).trans (unhide hlen2))
            intro j h1 h2
            have := unhide hI j (by omega) (by rw [unhide hLL2] at h1; exact h1)
            simpa [List.getD_eq_getElem?_getD, h1, h2] using this
          have h2 := valB_digs m
          rw [h1, valB_digs] at h2
          exact h2.symm
        go_wp2_with fail
        go_ret
        refine ⟨?_, hbl⟩
        rw [decide_eq_false (by have := unhide heq; omega)]; rfl
      · obtain ⟨k', rfl⟩ : ∃ k', k = k' + 1 := ⟨k - 1, by omega⟩
        obtain ⟨g, hg, rfl, hca⟩ := unhide HA (by omega)
        obtain ⟨g', hg', rfl, hcb⟩ := unhide HB (by omega)
        have h1 : ∀ wz, Below w.heap.size w wz → wz.cell? ⟨g, k', none⟩ = some (encN ((digs m).getD k' 0)) := fun wz hz => (hz.cell hg).trans (hca k' (by omega))
        have h2 : ∀ wz, Below w.heap.size w wz → wz.cell? ⟨g', k', none⟩ = some (encN ((digs n).getD k' 0)) := fun wz hz => (hz.cell hg').trans (hcb k' (by omega))
        have h3 := h1 _ hbl
        have h4 := h2 _ hbl
        have h5 : ((k' + 1 : Nat) : Int) - 1 = k' := by omega
        have hki : (k' : Int) < L := by omega
        rw [h5]
        clear hca hcb h1 h2
        generalize hda : (digs m).getD k' 0 = da at *
        generalize hdb : (digs n).getD k' 0 = db at *
        by_cases hd : da = db
        · have hd' : (da : Int) = db := by omega
          go_wp2_with fail
          go_quiet (fail)
          go_wp2_with fail
          go_roundw
          case rel =>
            refine ⟨k', by omega, rfl, ?_, below_dn hbl⟩
            intro j h1 h2
            by_cases hj : j = k'
            · rw [hj, hda, hdb, hd]
            · exact unhide hI j (by omega) h2
          case measure => simp [RowKit.intOf]
        · have hd' : (da : Int) ≠ db := by omega
          have hres : Hid (decide (m < n) = decide ((da : Int) < db)) := by
            have e1 := unhide hLL2
            have e2 := unhide hlen2
            apply decide_eq_decide.2
            by_cases hlt : da < db
            · have := valB_lt_of (a := digs m) (b := digs n) (by omega) k' (by omega) (digs_lt m) (digs_lt n) (fun j j1 j2 => unhide hI j (by omega) (by omega)) (by rw [hda, hdb]; exact hlt)
              rw [valB_digs, valB_digs] at this
              omega
            · have := valB_lt_of (a := digs n) (b := digs m) (by omega) k' (by omega) (digs_lt n) (digs_lt m) (fun j j1 j2 => (unhide hI j (by omega) (by omega)).symm) (by rw [hda, hdb]; omega)
              rw [valB_digs, valB_digs] at this
              omega
          go_wp2_with fail
          go_quiet (fail)
          go_wp2_with fail
          go_quiet (fail)
          go_wp2_with fail
          go_ret
          rw [unhide hres]
          exact ⟨by simp, below_dn (below_dn hbl)⟩
  · go_enter Tryz.func202, Tryz.ntmps202
    have hlen' : ((digs m).length : Int) ≠ (digs n).length := by omega
    go_wp2_with fail
    go_ret
    refine ⟨?_, Below.refl _ _⟩
    have hres : decide ((digs m).length < (digs n).length) = decide (m < n) := by
      apply decide_eq_decide.2
      constructor
      · exact digs_lt_len
      · intro h
        have := digs_len_mono n m (by omega)
        omega
    rw [← hres]
    rfl
end Go.Proofs.YtgekdmjneogdoaaGreatDoor

namespace Go.Proofs.YtgekdmjneogdoaaGreatDoor
open Go.RowKit

theorem digs_shift (x : Nat) (hx : 0 < x) : ∀ k, digs (x * 16777216 ^ k) = List.replicate k 0 ++ digs x
  | 0 => by simp
  | k + 1 => by
    have hp : 0 < x * 16777216 ^ (k + 1) := Nat.mul_pos hx (Nat.pow_pos (by omega))
    rw [digs_pos hp, Nat.pow_succ, ← Nat.mul_assoc, Nat.mul_mod_left, Nat.mul_div_cancel _ (by omega), digs_shift x hx k]
    rfl

theorem own_below {w w' : World} {base B : Nat} {e : TypeId} {size : Nat} {v : Value} {n : Nat} {xs : List Value} (h : w.ownsRow base e size v n xs) (hb : Below B w w') (hB : w.heap.size ≤ B) : w'.ownsRow base e size v n xs := by
  have hlt := h.lt
  obtain ⟨h1, h2⟩ := h
  refine ⟨h1, ?_⟩
  rcases h2 with h2 | ⟨g, cap, cur, rfl, hg, hh, hr⟩
  · exact .inl h2
  · exact .inr ⟨g, cap, cur, rfl, hg, by rw [hb.block g (Nat.lt_of_lt_of_le (hlt g rfl).2 hB)]; exact hh, hr⟩

theorem made_zero (k : Nat) : (madeCells #[Value.int .i64 0] k).toList = (List.replicate k 0).map encN := by
  simp only [madeCells, List.map_replicate]
  apply List.ext_getElem
  · simp
  · intro j h1 h2
    simp [Nat.mod_one]

theorem pow_split (n p : Nat) : n * 2 ^ (p % 24) * 16777216 ^ (p / 24) = n * 2 ^ p := by
  rw [Nat.mul_assoc, show (16777216 : Nat) = 2 ^ 24 by rfl, ← Nat.pow_mul, ← Nat.pow_add]
  congr 2; omega

set_option maxRecDepth 20000 in
set_option maxHeartbeats 800000 in
theorem ref_shift (v : Value) (n p : Nat) (w : World) (hr : Rd w v (digs n)) (hl : Lim (n * 2 ^ p)) (hp : p ≤ 1000000) :
    Calls Tryz.prog 200 #[v, .int .i64 p] w fun e w' => ∃ v', e = .returned v' ∧ Rd w' v' (digs (n * 2 ^ p)) ∧ Below w.heap.size w w' := by
  have hR := hide hr
  have hL := hide hl
  have T := hide times_rd
  obtain ⟨i0, hi, hz0, hz1, hz2⟩ := info_parts infoBg
  obtain ⟨ao, ca, rfl, _⟩ := hr
  clear hl
  by_cases hn : n = 0
  · subst hn
    rw [digs_zero] at *
    go_enter Tryz.func200, Tryz.ntmps200
    go_wp2_with fail
    go_ret
    rw [Nat.zero_mul, digs_zero]
    exact ⟨_, rfl, ⟨none, 0, rfl, fun h => by simp at h⟩, Below.refl _ _⟩
  · have hlen : (0 : Int) < (digs n).length := by rw [digs_pos (by omega)]; simp
    have hlen2 : ((digs n).length : Int) ≠ 0 := by omega
    go_enter Tryz.func200, Tryz.ntmps200
    go_wp2_with (at_make; refine wpList_make_full _ rfl _ _ 213 rfl w.heap.size 3 i0 (.int .i64 0) 1 Tryz.underlying213 hi hz0 hz1 .i64 .i64 _ _ (p / 24) rfl rfl ?c1 ?c2 ?c3 ?c4 ?c5 ?_)
    case c1 => simp
    case c2 => simp
    case c3 => rw [hz2]; omega
    case c4 => unfold maxLen; omega
    case c5 => exact Nat.le_refl _
    intro w1 hown hgrow
    rw [made_zero] at hown
    have hb1 : Below w.heap.size w w1 := (Below.refl w.heap.size w).grown hgrow (Nat.le_refl _) (fun j hj => by cases hj)
    have hown1 := hide hown
    have hs1 := hb1.size
    clear hown hgrow
    have hrm : p % 24 < 24 := by omega
    go_wp2_with fail
    go_loopw [6, 7] (fun x y wr => ∃ i : Nat, i ≤ p % 24 ∧ y = .int .i64 i ∧ x = .int .i64 (2 ^ i : Nat) ∧ wr = w1) (fun _ y _ => p % 24 - (RowKit.intOf y).toNat)
    case atStart => exact ⟨0, by omega, rfl, rfl, rfl⟩
    case round =>
      obtain ⟨i, hir, rfl, rfl, rfl⟩ := hrel
      have hpw : 2 ^ i ≤ 8388608 := Nat.le_trans (Nat.pow_le_pow_right (by omega) (show i ≤ 23 by omega)) (by decide)
      generalize hM : 2 ^ i = M at *
      by_cases hi2 : i < p % 24
      · have hi3 : (i : Int) < (p : Int) % 24 := by omega
        go_wp2_with fail
        go_roundw
        case rel => exact ⟨i + 1, by omega, by go_num, by rw [Nat.pow_succ, hM]; go_num, by trivial⟩
        case measure => simp [RowKit.intOf]; omega
      · have hi3 : ¬ (i : Int) < (p : Int) % 24 := by omega
        have hi4 : Hid (i = p % 24) := (by omega : i = p % 24)
        have hLn : Hid (Lim n) := (unhide hL).mono (Nat.le_mul_of_pos_right _ (Nat.pow_pos (by omega)))
        go_wp2_with fail
        refine (unhide T _ n M 0 _ ((unhide hR).below (Nat.le_refl _) hb1) (unhide hLn) (by omega) (by omega)).mono ?_
        rintro e w2 ⟨v', rfl, hr2, hb2⟩
        rw [Nat.add_zero] at hr2
        have hown2 := own_below (unhide hown1) hb2 (Nat.le_refl _)
        have hs2 := hb2.size
        have hb02 : Below w.heap.size w w2 := hb1.trans (hb2.mono hs1)
        have hMp : 0 < M := by rw [← hM]; exact Nat.pow_pos (by omega)
        have hnM : 0 < n * M := Nat.mul_pos (by omega) hMp
        obtain ⟨ao', ca', rfl, hrr⟩ := hr2
        obtain ⟨g, hg, rfl, hcell⟩ := hrr (by rw [digs_pos hnM]; simp)
        have hLM : Lim (n * M) := (unhide hL).mono (Nat.mul_le_mul_left _ (by rw [← hM]; exact Nat.pow_le_pow_right (by omega) (by omega)))
        have hlm : Hid ((digs (n * M)).length ≤ 100000) := hLM
        have hcell2 := hide hcell
        clear hrr hcell
        generalize hdl : digs (n * M) = ds at *
        go_wp2_with (at_builtin; refine wpList_append_own _ rfl _ _ 213 rfl w.heap.size 3 i0 (.int .i64 0) 1 8 Tryz.underlying213 hi hz0 hz1 hz2 rfl (by decide) _ _ _ rfl hown2 ⟨g, 0, none⟩ ds.length ca' (ds.map encN) rfl (by simp) ?c1 ?c2 ?c3 ?c4 ?c5 ?_)
        case c1 =>
          intro j u hj
          rw [List.getElem?_map] at hj
          by_cases hjl : j < ds.length
          · rw [List.getElem?_eq_getElem hjl] at hj
            simp at hj
            have := unhide hcell2 j hjl
            rw [List.getD_eq_getElem?_getD, List.getElem?_eq_getElem hjl] at this
            have hadd : ((⟨g, 0, none⟩ : Addr).add j) = ⟨g, j, none⟩ := by
              by_cases hj0 : j = 0 <;> simp [Addr.add, hj0]
            rw [hadd, this, ← hj]
            rfl
          · rw [List.getElem?_eq_none (by omega)] at hj; simp at hj
        case c2 =>
          intro u hu
          obtain ⟨x, _, rfl⟩ := List.mem_map.1 hu
          rfl
        case c3 => have := unhide hlm; unfold maxLen; omega
        case c4 => have := unhide hlm; omega
        case c5 => omega
        intro v3 w3 hown3 hgrow3 _
        have hb3 : Below w.heap.size w w3 := hb02.grown hgrow3 (by omega) (fun j hj => by simp [Value.ownBlock] at hj; omega)
        have hfin : Hid (digs (n * 2 ^ p) = List.replicate (p / 24) 0 ++ ds) := by
          have := digs_shift (n * M) hnM (p / 24)
          rw [hdl, ← hM, unhide hi4, pow_split] at this
          exact this
        have hown4 : Hid (w3.ownsRow w.heap.size 3 1 v3 (digs (n * 2 ^ p)).length ((digs (n * 2 ^ p)).map encN)) := by
          rw [unhide hfin]; apply hide; simpa using hown3
        clear hown3 hgrow3
        go_wp2_with fail
        go_ret
        exact ⟨_, rfl, rd_own (unhide hown4), hb3⟩
end Go.Proofs.YtgekdmjneogdoaaGreatDoor

namespace Go.Proofs.YtgekdmjneogdoaaGreatDoor
open Go.RowKit

theorem valB_set : ∀ (o : List Nat) (t d : Nat), t < o.length → valB (o.set t d) + o.getD t 0 * 16777216 ^ t = valB o + d * 16777216 ^ t
  | [], t, d, h => by simp at h
  | x :: o, 0, d, _ => by simp [valB]; omega
  | x :: o, t + 1, d, h => by
    have := valB_set o t d (by simpa using h)
    simp only [List.set_cons_succ, valB, List.getD_cons_succ, Nat.pow_succ]
    have e1 : o.getD t 0 * (16777216 ^ t * 16777216) = 16777216 * (o.getD t 0 * 16777216 ^ t) := by
      rw [← Nat.mul_assoc, Nat.mul_comm]
    have e2 : d * (16777216 ^ t * 16777216) = 16777216 * (d * 16777216 ^ t) := by
      rw [← Nat.mul_assoc, Nat.mul_comm]
    rw [e1, e2]
    omega

theorem valB_lt : ∀ (l : List Nat), (∀ d ∈ l, d < 16777216) → valB l < 16777216 ^ l.length
  | [], _ => by simp [valB]
  | d :: l, h => by
    have h1 := valB_lt l (fun x hx => h x (by simp [hx]))
    have h2 := h d (by simp)
    simp only [valB, List.length_cons, Nat.pow_succ]
    omega

/-- a number below B^t has a nought from the digit t on -/
theorem valB_zero : ∀ (o : List Nat) (t j : Nat), valB o < 16777216 ^ t → t ≤ j → o.getD j 0 = 0
  | [], t, j, _, _ => by simp
  | x :: o, 0, j, h, _ => by
    have h1 : valB (x :: o) = 0 := by simpa using h
    simp only [valB] at h1
    have hx : x = 0 := by omega
    have ho : valB o = 0 := by omega
    cases j with
    | zero => simp [hx]
    | succ j => simpa using valB_zero o 0 j (by rw [ho]; simp) (by omega)
  | x :: o, t + 1, 0, _, hj => by omega
  | x :: o, t + 1, j + 1, h, hj => by
    simp only [valB, Nat.pow_succ] at h
    simpa using valB_zero o t j (by omega) (by omega)

/-- one round of the product -/
theorem prod_step {o : List Nat} {t c y R : Nat} (ht : t < o.length) (h : valB o + c * 16777216 ^ t = R) :
    valB (o.set t ((o.getD t 0 + c + y) % 16777216)) + (o.getD t 0 + c + y) / 16777216 * 16777216 ^ (t + 1) = R + y * 16777216 ^ t := by
  have h1 := valB_set o t ((o.getD t 0 + c + y) % 16777216) ht
  generalize hx : o.getD t 0 + c + y = x at *
  have h2 : x % 16777216 * 16777216 ^ t + x / 16777216 * 16777216 ^ (t + 1) = x * 16777216 ^ t := by
    rw [Nat.pow_succ, Nat.mul_comm (16777216 ^ t) 16777216, ← Nat.mul_assoc, ← Nat.add_mul]
    congr 1; omega
  have h3 : x * 16777216 ^ t = o.getD t 0 * 16777216 ^ t + c * 16777216 ^ t + y * 16777216 ^ t := by
    rw [← hx, Nat.add_mul, Nat.add_mul]
  omega

theorem take_step {l : List Nat} {k : Nat} (hk : k < l.length) : valB (l.take (k + 1)) = valB (l.take k) + l.getD k 0 * 16777216 ^ k := by
  have ht : l.take (k + 1) = l.take k ++ [l.getD k 0] := by
    rw [List.take_add_one, List.getD_eq_getElem?_getD, List.getElem?_eq_getElem hk]; rfl
  rw [ht, valB_snoc, List.length_take, Nat.min_eq_left (by omega)]
end Go.Proofs.YtgekdmjneogdoaaGreatDoor

namespace Go.Proofs.YtgekdmjneogdoaaGreatDoor
open Go.RowKit

set_option maxRecDepth 20000 in
set_option maxHeartbeats 3200000 in
theorem ref_product (va vb : Value) (m n : Nat) (w : World) (ha : Rd w va (digs m)) (hb : Rd w vb (digs n)) (hla : Lim m) (hlb : Lim n) :
    Calls Tryz.prog 201 #[va, vb] w fun e w' => ∃ v', e = .returned v' ∧ Rd w' v' (digs (m * n)) ∧ Below w.heap.size w w' := by
  obtain ⟨i0, hi, hz0, hz1, hz2⟩ := info_parts infoBg
  obtain ⟨ao, ca, rfl, ha2⟩ := ha
  obtain ⟨bo, cb, rfl, hb2⟩ := hb
  have HA := hide ha2
  have HB := hide hb2
  clear ha2 hb2
  have hda := hide (digs_lt m)
  have hdb := hide (digs_lt n)
  have hva := hide (valB_digs m)
  have hvb := hide (valB_digs n)
  have hla2 : (digs m).length ≤ 100000 := hla
  have hlb2 : (digs n).length ≤ 100000 := hlb
  clear hla hlb
  generalize digs m = A at *
  generalize digs n = B at *
  generalize hLA : A.length = la at *
  generalize hLB : B.length = lb at *
  have hLA2 := hide hLA
  have hLB2 := hide hLB
  clear hLA hLB
  go_enter Tryz.func201, Tryz.ntmps201
  go_wp2_with (at_make; refine wpList_make_full _ rfl _ _ 213 rfl w.heap.size 3 i0 (.int .i64 0) 1 Tryz.underlying213 hi hz0 hz1 .i64 .i64 _ _ (la + lb + 1) rfl rfl ?c1 ?c2 ?c3 ?c4 ?c5 ?_)
  case c1 => simp
  case c2 => simp
  case c3 => rw [hz2]; omega
  case c4 => unfold maxLen; omega
  case c5 => exact Nat.le_refl _
  intro w1 hown hgrow
  rw [show (madeCells #[Value.int .i64 0] (la + lb + 1)).toList = (List.replicate (la + lb + 1) 0).map encN from made_zero _] at hown
  have hb1 : Below w.heap.size w w1 := (Below.refl w.heap.size w).grown hgrow (Nat.le_refl _) (fun j hj => by cases hj)
  have hown1 := hide hown
  have hs1 := hb1.size
  clear hown hgrow
  generalize hL : la + lb + 1 = L at *
  generalize hG : w.heap.size = G at *
  go_wp2_with fail
  go_loopw [6] (fun x wr => ∃ (i : Nat) (o : List Nat), i ≤ la ∧ x = .int .i64 i ∧ Hid (o.length = L ∧ valB o = valB (A.take i) * valB B ∧ ∀ d ∈ o, d < 16777216) ∧ Hid (wr.ownsRow G 3 1 (.slice (some ⟨G, 0, none⟩) L L) L (o.map encN)) ∧ Below G w wr) (fun x _ => la - (RowKit.intOf x).toNat)
  case atStart =>
    refine ⟨0, List.replicate L 0, by omega, rfl, ⟨by simp, ?_, ?_⟩, hown1, hb1⟩
    · have : ∀ k, valB (List.replicate k 0) = 0 := by intro k; induction k with
        | zero => rfl
        | succ k ih => rw [List.replicate_succ, valB, ih]
      rw [this]; simp [valB]
    · intro d hd; have := List.eq_of_mem_replicate hd; omega
  case round =>
    clear hown1 hb1 hs1
    obtain ⟨i, o, hil, rfl, hI, hown, hbl⟩ := hrel
    by_cases hia : i < la
    · obtain ⟨g, hg, rfl, hca⟩ := unhide HA (by omega)
      have hcA := hide hca
      clear hca
      go_wp2_with fail
      go_loopw [7, 8, 9] (fun x y _ wr => ∃ (j c : Nat) (o' : List Nat), j ≤ lb + 1 ∧ c < 16777216 ∧ y = .int .i64 j ∧ x = .int .i64 c ∧ Hid (o'.length = L ∧ valB o' + c * 16777216 ^ (i + j) = valB o + A.getD i 0 * valB (B.take j) * 16777216 ^ i ∧ (∀ d ∈ o', d < 16777216) ∧ (∀ t, i + j ≤ t → o'.getD t 0 = o.getD t 0) ∧ (lb < j → c = 0)) ∧ Hid (wr.ownsRow G 3 1 (.slice (some ⟨G, 0, none⟩) L L) L (o'.map encN)) ∧ Below G w wr) (fun _ y _ _ => lb + 1 - (RowKit.intOf y).toNat)
      case atStart =>
        obtain ⟨k1, k2, k3⟩ := unhide hI
        exact ⟨0, 0, o, by omega, by omega, rfl, rfl, ⟨k1, by simp [valB], k3, fun t _ => rfl, fun h => by omega⟩, hown, hbl⟩
      case round =>
        clear hown hbl
        obtain ⟨j, c, o', hj, hc, rfl, rfl, hJ, hown, hbl⟩ := hrel
        by_cases hjb : j < lb
        · obtain ⟨g', hg', rfl, hcb⟩ := unhide HB (by omega)
          have hcB := hide hcb
          clear hcb
          have hto : i + j < L := by omega
          have hti : (i : Int) + j < L := by omega
          have hd0 : o'.getD (i + j) 0 < 16777216 := by
            rw [List.getD_eq_getElem?_getD, List.getElem?_eq_getElem (by rw [(unhide hJ).1]; exact hto)]
            exact (unhide hJ).2.2.1 _ (List.getElem_mem _)
          have hcO : wr.cell? ⟨G, i + j, none⟩ = some (encN (o'.getD (i + j) 0)) := by
            rw [(unhide hown).cellAt (i + j) (by omega), List.getElem?_map, List.getD_eq_getElem?_getD, List.getElem?_eq_getElem (by rw [(unhide hJ).1]; exact hto)]
            rfl
          have hfO : wr.frozen? ⟨G, i + j, none⟩ = false := (unhide hown).frozenAt _
          generalize hde : o'.getD (i + j) 0 = d0 at hd0 hcO
          have hcA2 : wr.cell? ⟨g, i, none⟩ = some (encN (A.getD i 0)) := (hbl.cell hg).trans (unhide hcA i hia)
          have hcB2 : wr.cell? ⟨g', j, none⟩ = some (encN (B.getD j 0)) := (hbl.cell hg').trans (unhide hcB j hjb)
          have hd1 : A.getD i 0 < 16777216 := by
            rw [List.getD_eq_getElem?_getD, List.getElem?_eq_getElem (by rw [unhide hLA2]; exact hia)]
            exact unhide hda _ (List.getElem_mem _)
          have hd2 : B.getD j 0 < 16777216 := by
            rw [List.getD_eq_getElem?_getD, List.getElem?_eq_getElem (by rw [unhide hLB2]; exact hjb)]
            exact unhide hdb _ (List.getElem_mem _)
          generalize hae : A.getD i 0 = x1 at hd1 hcA2
          generalize hbe : B.getD j 0 = x2 at hd2 hcB2
          have hp1 : x1 * x2 ≤ 16777215 * 16777215 := Nat.mul_le_mul (by omega) (by omega)
          have hp2 : (0 : Int) ≤ (x1 : Int) * x2 := by rw [← Int.natCast_mul]; omega
          have hp3 : (x1 : Int) * x2 ≤ 281474943156225 := by rw [← Int.natCast_mul]; omega
          have hil2 : (i : Int) < la := by omega
          have hjl2 : (j : Int) < lb := by omega
          have hdj : decide ((j : Int) < lb) = true := decide_eq_true hjl2
          go_wp2_with fail
          go_quiet (fail)
          go_wp2_with fail
          go_roundw
          case rel =>
            obtain ⟨k1, k2, k3, k4, k5⟩ := unhide hJ
            have hst := World.ownsRow.stored (w := wr.drewN nq) (g := G) (cap := L) (n := L) (unhide hown) (i + j) (encN ((d0 + c + x1 * x2) % 16777216))
            rw [show (((d0 : Int) + c + (x1 : Int) * x2) % 16777216) = (((d0 + c + x1 * x2) % 16777216 : Nat) : Int) by simp]
            refine ⟨j + 1, (d0 + c + x1 * x2) / 16777216, o'.set (i + j) ((d0 + c + x1 * x2) % 16777216), by omega, by omega, by go_num, by simp, ⟨by simpa using k1, ?_, ?_, ?_, by omega⟩, ?_, ?_⟩
            · rw [hae] at k2
              have h1 := prod_step (o := o') (t := i + j) (c := c) (y := x1 * x2) (by rw [k1]; exact hto) k2
              rw [hde] at h1
              rw [show i + (j + 1) = i + j + 1 by omega, h1, take_step (by rw [unhide hLB2]; exact hjb), hbe, Nat.add_assoc]
              congr 1
              rw [Nat.mul_add, Nat.add_mul, Nat.pow_add]
              congr 1
              rw [Nat.mul_comm (16777216 ^ i), Nat.mul_assoc, Nat.mul_assoc, Nat.mul_assoc]
            · intro d hd
              rcases List.mem_or_eq_of_mem_set hd with h | h
              · exact k3 d h
              · rw [h]; omega
            · intro t ht
              rw [← k4 t (by omega), List.getD_eq_getElem?_getD, List.getD_eq_getElem?_getD, List.getElem?_set_ne (by omega)]
            · apply hide; rw [List.map_set]; exact hst.1
            · exact (below_dn hbl).grown hst.2 (by have := hbl.size; simp only [hG] at this; exact this) (fun t ht => by cases ht; exact Nat.le_refl _)
          case measure => simp [RowKit.intOf]; omega
        · have hdj : decide ((j : Int) < lb) = false := decide_eq_false (by omega)
          by_cases hc0 : c = 0
          · subst hc0
            go_wp2_with fail
            go_roundw
            case rel =>
              obtain ⟨k1, k2, k3, k4, k5⟩ := unhide hJ
              obtain ⟨q1, q2, q3⟩ := unhide hI
              refine ⟨i + 1, o', by omega, by go_num, ⟨k1, ?_, k3⟩, hown, hbl⟩
              rw [List.take_of_length_le (by rw [unhide hLB2]; omega), Nat.zero_mul, Nat.add_zero, q2] at k2
              rw [k2, take_step (by rw [unhide hLA2]; exact hia), Nat.add_mul]
              congr 1
              rw [Nat.mul_assoc, Nat.mul_assoc, Nat.mul_comm (valB B)]
            case measure => simp [RowKit.intOf]; omega
          · have hc1 : (0 : Int) < c := by omega
            have hjlb : Hid (j = lb) := by
              by_cases h : lb < j
              · exact absurd ((unhide hJ).2.2.2.2 h) hc0
              · exact (by omega : j = lb)
            have hto : i + j < L := by have := unhide hjlb; omega
            have hti : (i : Int) + j < L := by have := unhide hjlb; omega
            have hd0 : o'.getD (i + j) 0 < 16777216 := by
              rw [List.getD_eq_getElem?_getD, List.getElem?_eq_getElem (by rw [(unhide hJ).1]; exact hto)]
              exact (unhide hJ).2.2.1 _ (List.getElem_mem _)
            have hcO : wr.cell? ⟨G, i + j, none⟩ = some (encN (o'.getD (i + j) 0)) := by
              rw [(unhide hown).cellAt (i + j) (by omega), List.getElem?_map, List.getD_eq_getElem?_getD, List.getElem?_eq_getElem (by rw [(unhide hJ).1]; exact hto)]
              rfl
            have hfO : wr.frozen? ⟨G, i + j, none⟩ = false := (unhide hown).frozenAt _
            generalize hde : o'.getD (i + j) 0 = d0 at hd0 hcO
            have hd00 : Hid (d0 = 0) := by
              obtain ⟨k1, k2, k3, k4, k5⟩ := unhide hJ
              obtain ⟨q1, q2, q3⟩ := unhide hI
              rw [k4 (i + j) (Nat.le_refl _)] at hde
              rw [← hde]
              refine valB_zero o (i + j) (i + j) ?_ (Nat.le_refl _)
              have e1 := valB_lt (A.take i) (fun d hd => unhide hda d (List.mem_of_mem_take hd))
              have e2 := valB_lt B (unhide hdb)
              rw [List.length_take, unhide hLA2, Nat.min_eq_left (by omega)] at e1
              rw [unhide hLB2] at e2
              rw [q2, unhide hjlb, Nat.pow_add]
              exact Nat.mul_lt_mul'' e1 e2
            go_wp2_with fail
            go_roundw
            case rel =>
              obtain ⟨k1, k2, k3, k4, k5⟩ := unhide hJ
              have hd01 := unhide hd00
              have hjl := unhide hjlb
              have hst := World.ownsRow.stored (w := wr) (g := G) (cap := L) (n := L) (unhide hown) (i + j) (encN ((d0 + c) % 16777216))
              rw [show (((d0 : Int) + c) % 16777216) = (((d0 + c) % 16777216 : Nat) : Int) by simp]
              refine ⟨j + 1, (d0 + c) / 16777216, o'.set (i + j) ((d0 + c) % 16777216), by omega, by omega, by go_num, by simp, ⟨by simpa using k1, ?_, ?_, ?_, by omega⟩, ?_, ?_⟩
              · have h1 := prod_step (o := o') (t := i + j) (c := c) (y := 0) (by rw [k1]; exact hto) k2
                rw [hde, Nat.add_zero, Nat.zero_mul, Nat.add_zero] at h1
                rw [show i + (j + 1) = i + j + 1 by omega, h1, List.take_of_length_le (by rw [unhide hLB2]; omega), List.take_of_length_le (by rw [unhide hLB2]; omega), Nat.add_zero]
              · intro d hd
                rcases List.mem_or_eq_of_mem_set hd with h | h
                · exact k3 d h
                · rw [h]; omega
              · intro t ht
                rw [← k4 t (by omega), List.getD_eq_getElem?_getD, List.getD_eq_getElem?_getD, List.getElem?_set_ne (by omega)]
              · apply hide; rw [List.map_set]; exact hst.1
              · exact hbl.grown hst.2 (by have := hbl.size; simp only [hG] at this; exact this) (fun t ht => by cases ht; exact Nat.le_refl _)
            case measure => have := unhide hjlb; simp [RowKit.intOf]; omega
    · have hI2 : Hid (valB o = m * n ∧ o.length ≤ L ∧ ∀ d ∈ o, d < 16777216) := by
        obtain ⟨q1, q2, q3⟩ := unhide hI
        rw [List.take_of_length_le (by rw [unhide hLA2]; omega), unhide hva, unhide hvb] at q2
        exact ⟨q2, by omega, q3⟩
      have hown2 : wr.ownsRow G 3 1 (.slice (some ⟨G, 0, none⟩) L L) o.length (o.map encN) := by
        have := unhide hown
        rw [(unhide hI).1]; exact this
      have hiL : ¬ (i : Int) < la := by omega
      clear hI hown HA HB
      go_wp2_with fail
      go_loopw [5] (fun x wz => ∃ (o : List Nat), Hid (valB o = m * n ∧ o.length ≤ L ∧ ∀ d ∈ o, d < 16777216) ∧ wz.ownsRow G 3 1 x o.length (o.map encN) ∧ Below G w wz) (fun x _ => match x with | .slice _ n _ => n | _ => 0)
      case atStart => exact ⟨o, hI2, hown2, hbl⟩
      case round =>
        clear hown2 hbl hI2
        obtain ⟨o, hI, hown, hbl⟩ := hrel
        rcases List.eq_nil_or_concat o with rfl | ⟨o', d, ho⟩
        · have hfin : Hid (digs (m * n) = []) := by
            rw [← (unhide hI).1]; exact digs_zero
          have hrd : Rd wr u5 (digs (m * n)) := by
            rw [unhide hfin]; exact rd_own hown
          have hrd2 := hide hrd
          clear hrd
          rcases Joins.ownsRow_forms hown with ⟨rfl, _⟩ | ⟨g, cp, rfl⟩
          · go_wp2_with fail
            go_ret
            exact ⟨_, rfl, unhide hrd2, by rw [hG]; exact hbl⟩
          · go_wp2_with fail
            go_ret
            exact ⟨_, rfl, unhide hrd2, by rw [hG]; exact hbl⟩
        · rw [List.concat_eq_append] at ho
          subst ho
          obtain ⟨g, cp, rfl⟩ : ∃ g cp, u5 = .slice (some ⟨g, 0, none⟩) (o' ++ [d]).length cp := by
            rcases Joins.ownsRow_forms hown with ⟨_, h0⟩ | h0
            · simp at h0
            · exact h0
          have hlen : (o' ++ [d]).length = o'.length + 1 := by simp
          rw [hlen] at hown
          rw [hlen]
          have hcell : wr.cell? ⟨g, o'.length, none⟩ = some (encN d) := by
            rw [hown.cellAt o'.length (by omega)]; simp
          have hol : o'.length ≤ 200000 := by
            have := (unhide hI).2.1
            rw [hlen] at this; omega
          have hpop : Hid (wr.ownsRow G 3 1 (.slice (some ⟨g, 0, none⟩) o'.length cp) o'.length (o'.map encN)) := ownsRow_pop (last := [encN d]) (by simp) (by simpa using hown)
          have hcp : o'.length + 1 ≤ cp := by
            obtain ⟨_, h2⟩ := hown
            rcases h2 with ⟨h0, _⟩ | ⟨g', cap', cur, hv, hg, hh, hn, hcap, hsz, htake⟩
            · cases h0
            · cases hv; exact hn
          have hown0 := hide hown
          clear hown
          by_cases hd0 : d = 0
          · subst hd0
            go_wp2_with fail
            go_roundw
            case rel =>
              refine ⟨o', ?_, unhide hpop, hbl⟩
              obtain ⟨k1, k2, k3⟩ := unhide hI
              rw [valB_snoc] at k1
              exact ⟨by omega, by omega, fun x hx => k3 x (List.mem_append_left _ hx)⟩
            case measure => simp
          · have hd1 : (d : Int) ≠ 0 := by omega
            have hrd2 : Hid (Rd wr (.slice (some ⟨g, 0, none⟩) (o'.length + 1) cp) (digs (m * n))) := by
              obtain ⟨k1, k2, k3⟩ := unhide hI
              have hfin := digs_val _ k3 (by simp; exact hd0)
              rw [k1] at hfin
              rw [hfin, ← hlen]
              exact rd_own (by rw [hlen]; exact unhide hown0)
            go_wp2_with fail
            go_ret
            exact ⟨_, rfl, unhide hrd2, by rw [hG]; exact hbl⟩
end Go.Proofs.YtgekdmjneogdoaaGreatDoor

namespace Go.Proofs.YtgekdmjneogdoaaGreatDoor
open Go.RowKit

set_option maxRecDepth 20000 in
set_option maxHeartbeats 800000 in
theorem ref_below (xn xm yn ym : Value) (a b c d : Nat) (w : World) (h1 : Rd w xn (digs a)) (h2 : Rd w xm (digs b)) (h3 : Rd w yn (digs c)) (h4 : Rd w ym (digs d)) (hl : Lim (a * d)) (hla : Lim a) (hlb : Lim b) (hlc : Lim c) (hld : Lim d) :
    Calls Tryz.prog 156 #[.agg #[xn, xm], .agg #[yn, ym]] w fun e w' => e = .returned (.bool (decide (a * d < c * b))) ∧ Below w.heap.size w w' := by
  have H1 := hide h1
  have H2 := hide h2
  have H3 := hide h3
  have H4 := hide h4
  have hL := hide hl
  have hLa := hide hla
  have hLb := hide hlb
  have hLc := hide hlc
  have hLd := hide hld
  obtain ⟨o1, c1, rfl, _⟩ := h1
  obtain ⟨o2, c2, rfl, _⟩ := h2
  obtain ⟨o3, c3, rfl, _⟩ := h3
  obtain ⟨o4, c4, rfl, _⟩ := h4
  clear hl hla hlb hlc hld
  have P := hide ref_product
  have Q := hide ref_less
  rename_i r1 r2 r3 r4
  clear r1 r2 r3 r4
  go_enter Tryz.func156, Tryz.ntmps156
  go_wp2_with fail
  have hb0 : Below w.heap.size w ((w.alloc (Obj.cells #[.slice o1 (digs a).length c1, .slice o2 (digs b).length c2] 218)).alloc (Obj.cells #[.slice o3 (digs c).length c3, .slice o4 (digs d).length c4] 218)) :=
    ((Below.refl _ _).alloc (Nat.le_refl _) _).alloc (by simp) _
  generalize hv1 : Value.slice o1 (digs a).length c1 = v1 at *
  generalize hv2 : Value.slice o2 (digs b).length c2 = v2 at *
  generalize hv3 : Value.slice o3 (digs c).length c3 = v3 at *
  generalize hv4 : Value.slice o4 (digs d).length c4 = v4 at *
  have hc2 : ((w.alloc (Obj.cells #[v1, v2] 218)).alloc (Obj.cells #[v3, v4] 218)).cell? ⟨w.heap.size, 1, none⟩ = some v2 := by
    first | (simp; done) | (simp [World.cell?]; done) | trace_state
  have hc3 : ((w.alloc (Obj.cells #[v1, v2] 218)).alloc (Obj.cells #[v3, v4] 218)).cell? ⟨w.heap.size + 1, 0, none⟩ = some v3 := by
    first | (simp; done) | (simp [World.cell?]; done) | trace_state
  have hsz : ((w.alloc (Obj.cells #[v1, v2] 218)).alloc (Obj.cells #[v3, v4] 218)).heap.size = w.heap.size + 2 := by simp
  generalize hw0 : (w.alloc (Obj.cells #[v1, v2] 218)).alloc (Obj.cells #[v3, v4] 218) = w0 at *
  clear hw0
  refine (unhide P v1 v4 a d w0 ((unhide H1).below (Nat.le_refl _) hb0) ((unhide H4).below (Nat.le_refl _) hb0) (unhide hLa) (unhide hLd)).mono ?_
  rintro e w1 ⟨p1, rfl, hr1, hb1⟩
  have R1 := hide hr1
  clear hr1
  have hs1 := hb1.size
  have hb01 : Below w.heap.size w w1 := hb0.trans (hb1.mono (by omega))
  have hc2' : w1.cell? ⟨w.heap.size, 1, none⟩ = some v2 := (hb1.cell (by show w.heap.size < _; omega)).trans hc2
  have hc3' : w1.cell? ⟨w.heap.size + 1, 0, none⟩ = some v3 := (hb1.cell (by show w.heap.size + 1 < _; omega)).trans hc3
  clear hc2 hc3
  have H2' := hide ((unhide H2).below (Nat.le_refl _) hb01)
  have H3' := hide ((unhide H3).below (Nat.le_refl _) hb01)
  clear H1 H2 H3 H4
  subst hv2 hv3
  go_wp2_with fail
  refine (unhide P _ _ c b w1 (unhide H3') (unhide H2') (unhide hLc) (unhide hLb)).mono ?_
  rintro e w2 ⟨p2, rfl, hr2, hb2⟩
  have R2 := hide hr2
  clear hr2
  have hs2 := hb2.size
  have R1' := hide ((unhide R1).below (Nat.le_refl _) hb2)
  clear R1
  go_wp2_with fail
  refine (unhide Q p1 p2 (a * d) (c * b) w2 (unhide R1') (unhide R2) (unhide hL)).mono ?_
  rintro e w3 ⟨rfl, hb3⟩
  go_wp2_with fail
  go_ret
  exact ⟨rfl, (hb01.trans (hb2.mono (by omega))).trans (hb3.mono (by omega))⟩
end Go.Proofs.YtgekdmjneogdoaaGreatDoor

namespace Go.Proofs.YtgekdmjneogdoaaGreatDoor
open Go.RowKit

theorem of_rd (n : Nat) (w : World) (hn : n < 18446744073709551616) :
    Calls Tryz.prog 157 #[.int .u64 n] w fun e w' => ∃ v, e = .returned v ∧ Rd w' v (digs n) ∧ Below w.heap.size w w' := by
  refine (ref_of n w hn).mono ?_
  rintro e w' ⟨v, rfl, h1, h2⟩
  exact ⟨v, rfl, rd_own h1, h2⟩

theorem rd_set {w : World} {v : Value} {l : List Nat} {G n c : Nat} {a : Option Addr} (h : Rd w v l) (hc : w.cell? ⟨G, 0, none⟩ = some (.slice a n c)) (j : Nat) (u : Value) : Rd (w.setCell ⟨G, j, none⟩ u) v l := by
  obtain ⟨ao, cap, rfl, h2⟩ := h
  refine ⟨ao, cap, rfl, fun h0 => ?_⟩
  obtain ⟨g, h3, h4, h5⟩ := h2 h0
  have hne : g ≠ G := by
    intro he
    subst he
    have := h5 0 h0
    rw [hc] at this
    simp at this
  refine ⟨g, by simpa using h3, h4, fun t ht => ?_⟩
  rw [World.cell?_of_block (heap_setCell_other w ⟨G, j, none⟩ g u hne)]
  exact h5 t ht

set_option maxRecDepth 20000 in
set_option maxHeartbeats 800000 in
theorem ref_binary_up (m k : Nat) (w : World) (hm : m < 18446744073709551616) (hk : k ≤ 100000) (hl : Lim (m * 2 ^ k)) :
    Calls Tryz.prog 155 #[.int .u64 m, .int .i64 k] w fun e w' => ∃ vn vm, e = .returned (.agg #[vn, vm]) ∧ Rd w' vn (digs (m * 2 ^ k)) ∧ Rd w' vm (digs 1) ∧ Below w.heap.size w w' := by
  have S := hide ref_shift
  have O := hide of_rd
  have hL := hide hl
  clear hl
  go_enter Tryz.func155, Tryz.ntmps155
  go_wp2_with fail
  have hb0 : Below w.heap.size w (w.alloc (Obj.cells #[.slice none 0 0, .slice none 0 0] 218)) := (Below.refl _ _).alloc (Nat.le_refl _) _
  have hh0 : (w.alloc (Obj.cells #[.slice none 0 0, .slice none 0 0] 218)).heap[w.heap.size]? = some (Obj.cells #[.slice none 0 0, .slice none 0 0] 218) := heap_alloc_new w _
  have hs0 : (w.alloc (Obj.cells #[.slice none 0 0, .slice none 0 0] 218)).heap.size = w.heap.size + 1 := by simp
  generalize hw0 : w.alloc (Obj.cells #[.slice none 0 0, .slice none 0 0] 218) = w0 at *
  clear hw0
  refine (unhide O m w0 hm).mono ?_
  rintro e w1 ⟨v1, rfl, hr1, hb1⟩
  have R1 := hide hr1
  have hs1 := hb1.size
  clear hr1
  go_wp2_with fail
  refine (unhide S v1 m k w1 (unhide R1) (unhide hL) (by omega)).mono ?_
  rintro e w2 ⟨v2, rfl, hr2, hb2⟩
  have R2 := hide hr2
  have hs2 := hb2.size
  clear hr2 R1
  go_wp2_with fail
  refine (unhide O 1 w2 (by omega)).mono ?_
  rintro e w3 ⟨v3, rfl, hr3, hb3⟩
  have R3 := hide hr3
  have R2' := hide ((unhide R2).below (Nat.le_refl _) hb3)
  have hs3 := hb3.size
  clear hr3 R2
  have hh3 : w3.heap[w.heap.size]? = some (Obj.cells #[.slice none 0 0, .slice none 0 0] 218) := by
    rw [hb3.block _ (by omega), hb2.block _ (by omega), hb1.block _ (by omega)]; exact hh0
  have hb03 : Below w.heap.size w w3 := ((hb0.trans (hb1.mono (by omega))).trans (hb2.mono (by omega))).trans (hb3.mono (by omega))
  clear hh0
  have hx0 : w3.cell? ⟨w.heap.size, 0, none⟩ = some (.slice none 0 0) := by
    rw [Go.cell_of_row w3 w.heap.size 0 _ _ _ hh3]; rfl
  have hx1 : w3.cell? ⟨w.heap.size, 1, none⟩ = some (.slice none 0 0) := by
    rw [Go.cell_of_row w3 w.heap.size 1 _ _ _ hh3]; rfl
  have hx2 : w3.frozen? ⟨w.heap.size, 0, none⟩ = false := frozen_of_row w3 w.heap.size 0 _ _ hh3
  have hx3 : w3.frozen? ⟨w.heap.size, 1, none⟩ = false := frozen_of_row w3 w.heap.size 1 _ _ hh3
  obtain ⟨o2, c2, rfl, _⟩ := unhide R2'
  obtain ⟨o3, c3, rfl, _⟩ := unhide R3
  rename_i r1 r2
  clear r1 r2
  go_wp2_with fail
  have hz : (((w3.setCell ⟨w.heap.size, 0, none⟩ (.slice o2 (digs (m * 2 ^ k)).length c2)).setCell ⟨w.heap.size, 1, none⟩ (.slice o3 (digs 1).length c3))).heap[w.heap.size]? = some (Obj.cells #[.slice o2 (digs (m * 2 ^ k)).length c2, .slice o3 (digs 1).length c3] 218) := by
    rw [heap_setCell_same _ _ _ _ _ _ (heap_setCell_same _ _ _ _ _ _ hh3)]; rfl
  have hRd2 := rd_set (rd_set (unhide R2') hx0 0 (.slice o2 (digs (m * 2 ^ k)).length c2)) (by rw [Go.cell_of_row _ w.heap.size 0 _ _ _ (heap_setCell_same _ _ _ _ _ _ hh3)]; rfl) 1 (.slice o3 (digs 1).length c3)
  have hRd3 := rd_set (rd_set (unhide R3) hx0 0 (.slice o2 (digs (m * 2 ^ k)).length c2)) (by rw [Go.cell_of_row _ w.heap.size 0 _ _ _ (heap_setCell_same _ _ _ _ _ _ hh3)]; rfl) 1 (.slice o3 (digs 1).length c3)
  have hbz := (hb03.setCell (p := ⟨w.heap.size, 0, none⟩) (Nat.le_refl _) (.slice o2 (digs (m * 2 ^ k)).length c2)).setCell (p := ⟨w.heap.size, 1, none⟩) (Nat.le_refl _) (.slice o3 (digs 1).length c3)
  generalize ((w3.setCell ⟨w.heap.size, 0, none⟩ (.slice o2 (digs (m * 2 ^ k)).length c2)).setCell ⟨w.heap.size, 1, none⟩ (.slice o3 (digs 1).length c3)) = wz at *
  refine bodyPost_ret (v := .agg #[.slice o2 (digs (m * 2 ^ k)).length c2, .slice o3 (digs 1).length c3]) ?_ rfl ⟨_, _, rfl, hRd2, hRd3, hbz⟩
  have hy0 : wz.cell? ⟨w.heap.size, 0, none⟩ = some (.slice o2 (digs (m * 2 ^ k)).length c2) := by
    rw [Go.cell_of_row wz w.heap.size 0 _ _ _ hz]; rfl
  have hy1 : wz.cell? ⟨w.heap.size, 1, none⟩ = some (.slice o3 (digs 1).length c3) := by
    rw [Go.cell_of_row wz w.heap.size 1 _ _ _ hz]; rfl
  clear hz hx0 hx1 hx2 hx3
  have hres : Tryz.f155.results = #[.cell 4 218] := rfl
  unfold results
  rw [hres]
  simp
  go_simp
set_option maxRecDepth 20000 in
set_option maxHeartbeats 800000 in
theorem ref_binary_down (m k : Nat) (w : World) (hm : m < 18446744073709551616) (hk0 : 1 ≤ k) (hk : k ≤ 100000) (hl : Lim (2 ^ k)) :
    Calls Tryz.prog 155 #[.int .u64 m, .int .i64 (-(k : Int))] w fun e w' => ∃ vn vm, e = .returned (.agg #[vn, vm]) ∧ Rd w' vn (digs m) ∧ Rd w' vm (digs (2 ^ k)) ∧ Below w.heap.size w w' := by
  have S := hide ref_shift
  have O := hide of_rd
  have hL := hide hl
  clear hl
  have hkn : ¬ (0 : Int) ≤ -(k : Int) := by omega
  go_enter Tryz.func155, Tryz.ntmps155
  go_wp2_with fail
  have hb0 : Below w.heap.size w (w.alloc (Obj.cells #[.slice none 0 0, .slice none 0 0] 218)) := (Below.refl _ _).alloc (Nat.le_refl _) _
  have hh0 : (w.alloc (Obj.cells #[.slice none 0 0, .slice none 0 0] 218)).heap[w.heap.size]? = some (Obj.cells #[.slice none 0 0, .slice none 0 0] 218) := heap_alloc_new w _
  have hs0 : (w.alloc (Obj.cells #[.slice none 0 0, .slice none 0 0] 218)).heap.size = w.heap.size + 1 := by simp
  generalize hw0 : w.alloc (Obj.cells #[.slice none 0 0, .slice none 0 0] 218) = w0 at *
  clear hw0
  refine (unhide O m w0 hm).mono ?_
  rintro e w1 ⟨v1, rfl, hr, hb1⟩
  have R1 := hide hr
  have hs1 := hb1.size
  clear hr
  go_wp2_with fail
  refine (unhide O 1 w1 (by omega)).mono ?_
  rintro e w2 ⟨v2, rfl, hr, hb2⟩
  have R2 := hide hr
  have hs2 := hb2.size
  clear hr
  go_wp2_with fail
  refine (unhide S v2 1 k w2 (unhide R2) (by rw [Nat.one_mul]; exact unhide hL) (by omega)).mono ?_
  rintro e w3 ⟨v3, rfl, hr, hb3⟩
  rw [Nat.one_mul] at hr
  have R3 := hide hr
  have hs3 := hb3.size
  clear hr
  have R1' := hide (((unhide R1).below (Nat.le_refl _) hb2).below (Nat.le_refl _) hb3)
  have hh3 : w3.heap[w.heap.size]? = some (Obj.cells #[.slice none 0 0, .slice none 0 0] 218) := by
    rw [hb3.block _ (by omega), hb2.block _ (by omega), hb1.block _ (by omega)]; exact hh0
  have hb03 : Below w.heap.size w w3 := ((hb0.trans (hb1.mono (by omega))).trans (hb2.mono (by omega))).trans (hb3.mono (by omega))
  clear hh0 R1 R2
  have hx0 : w3.cell? ⟨w.heap.size, 0, none⟩ = some (.slice none 0 0) := by
    rw [Go.cell_of_row w3 w.heap.size 0 _ _ _ hh3]; rfl
  have hx1 : w3.cell? ⟨w.heap.size, 1, none⟩ = some (.slice none 0 0) := by
    rw [Go.cell_of_row w3 w.heap.size 1 _ _ _ hh3]; rfl
  have hx2 : w3.frozen? ⟨w.heap.size, 0, none⟩ = false := frozen_of_row w3 w.heap.size 0 _ _ hh3
  have hx3 : w3.frozen? ⟨w.heap.size, 1, none⟩ = false := frozen_of_row w3 w.heap.size 1 _ _ hh3
  obtain ⟨o2, c2, rfl, _⟩ := unhide R1'
  obtain ⟨o3, c3, rfl, _⟩ := unhide R3
  rename_i r1 r2
  clear r1 r2
  go_wp2_with fail
  have hz : (((w3.setCell ⟨w.heap.size, 0, none⟩ (.slice o2 (digs m).length c2)).setCell ⟨w.heap.size, 1, none⟩ (.slice o3 (digs (2 ^ k)).length c3))).heap[w.heap.size]? = some (Obj.cells #[.slice o2 (digs m).length c2, .slice o3 (digs (2 ^ k)).length c3] 218) := by
    rw [heap_setCell_same _ _ _ _ _ _ (heap_setCell_same _ _ _ _ _ _ hh3)]; rfl
  have hRd2 := rd_set (rd_set (unhide R1') hx0 0 (.slice o2 (digs m).length c2)) (by rw [Go.cell_of_row _ w.heap.size 0 _ _ _ (heap_setCell_same _ _ _ _ _ _ hh3)]; rfl) 1 (.slice o3 (digs (2 ^ k)).length c3)
  have hRd3 := rd_set (rd_set (unhide R3) hx0 0 (.slice o2 (digs m).length c2)) (by rw [Go.cell_of_row _ w.heap.size 0 _ _ _ (heap_setCell_same _ _ _ _ _ _ hh3)]; rfl) 1 (.slice o3 (digs (2 ^ k)).length c3)
  have hbz := (hb03.setCell (p := ⟨w.heap.size, 0, none⟩) (Nat.le_refl _) (.slice o2 (digs m).length c2)).setCell (p := ⟨w.heap.size, 1, none⟩) (Nat.le_refl _) (.slice o3 (digs (2 ^ k)).length c3)
  generalize ((w3.setCell ⟨w.heap.size, 0, none⟩ (.slice o2 (digs m).length c2)).setCell ⟨w.heap.size, 1, none⟩ (.slice o3 (digs (2 ^ k)).length c3)) = wz at *
  refine bodyPost_ret (v := .agg #[.slice o2 (digs m).length c2, .slice o3 (digs (2 ^ k)).length c3]) ?_ rfl ⟨_, _, rfl, hRd2, hRd3, hbz⟩
  have hy0 : wz.cell? ⟨w.heap.size, 0, none⟩ = some (.slice o2 (digs m).length c2) := by
    rw [Go.cell_of_row wz w.heap.size 0 _ _ _ hz]; rfl
  have hy1 : wz.cell? ⟨w.heap.size, 1, none⟩ = some (.slice o3 (digs (2 ^ k)).length c3) := by
    rw [Go.cell_of_row wz w.heap.size 1 _ _ _ hz]; rfl
  clear hz hx0 hx1 hx2 hx3
  have hres : Tryz.f155.results = #[.cell 4 218] := rfl
  unfold results
  rw [hres]
  simp
  go_simp

set_option maxRecDepth 20000 in
set_option maxHeartbeats 800000 in
theorem ref_decimal_up (v : Value) (m k : Nat) (w : World) (hr0 : Rd w v (digs m)) (hk : k ≤ 100000) (hl : Lim (m * 10 ^ k)) :
    Calls Tryz.prog 153 #[v, .int .i64 k] w fun e w' => ∃ vn vm, e = .returned (.agg #[vn, vm]) ∧ Rd w' vn (digs (m * 10 ^ k)) ∧ Rd w' vm (digs 1) ∧ Below w.heap.size w w' := by
  have S := hide ref_ten
  have O := hide of_rd
  have hL := hide hl
  have R0 := hide hr0
  clear hl hr0
  go_enter Tryz.func153, Tryz.ntmps153
  go_wp2_with fail
  have hb0 : Below w.heap.size w (w.alloc (Obj.cells #[.slice none 0 0, .slice none 0 0] 218)) := (Below.refl _ _).alloc (Nat.le_refl _) _
  have hh0 : (w.alloc (Obj.cells #[.slice none 0 0, .slice none 0 0] 218)).heap[w.heap.size]? = some (Obj.cells #[.slice none 0 0, .slice none 0 0] 218) := heap_alloc_new w _
  have hs0 : (w.alloc (Obj.cells #[.slice none 0 0, .slice none 0 0] 218)).heap.size = w.heap.size + 1 := by simp
  generalize hw0 : w.alloc (Obj.cells #[.slice none 0 0, .slice none 0 0] 218) = w0 at *
  clear hw0
  refine (unhide S v m k w0 ((unhide R0).below (Nat.le_refl _) hb0) (unhide hL) (by omega)).mono ?_
  rintro e w2 ⟨v2, rfl, hr, hb2⟩
  have R2 := hide hr
  have hs2 := hb2.size
  clear hr
  go_wp2_with fail
  refine (unhide O 1 w2 (by omega)).mono ?_
  rintro e w3 ⟨v3, rfl, hr, hb3⟩
  have R3 := hide hr
  have hs3 := hb3.size
  clear hr
  have R2' := hide ((unhide R2).below (Nat.le_refl _) hb3)
  have hh3 : w3.heap[w.heap.size]? = some (Obj.cells #[.slice none 0 0, .slice none 0 0] 218) := by
    rw [hb3.block _ (by omega), hb2.block _ (by omega)]; exact hh0
  have hb03 : Below w.heap.size w w3 := (hb0.trans (hb2.mono (by omega))).trans (hb3.mono (by omega))
  clear hh0 R2 R0
  have hx0 : w3.cell? ⟨w.heap.size, 0, none⟩ = some (.slice none 0 0) := by
    rw [Go.cell_of_row w3 w.heap.size 0 _ _ _ hh3]; rfl
  have hx1 : w3.cell? ⟨w.heap.size, 1, none⟩ = some (.slice none 0 0) := by
    rw [Go.cell_of_row w3 w.heap.size 1 _ _ _ hh3]; rfl
  have hx2 : w3.frozen? ⟨w.heap.size, 0, none⟩ = false := frozen_of_row w3 w.heap.size 0 _ _ hh3
  have hx3 : w3.frozen? ⟨w.heap.size, 1, none⟩ = false := frozen_of_row w3 w.heap.size 1 _ _ hh3
  obtain ⟨o2, c2, rfl, _⟩ := unhide R2'
  obtain ⟨o3, c3, rfl, _⟩ := unhide R3
  rename_i r1 r2
  clear r1 r2
  go_wp2_with fail
  have hz : (((w3.setCell ⟨w.heap.size, 0, none⟩ (.slice o2 (digs (m * 10 ^ k)).length c2)).setCell ⟨w.heap.size, 1, none⟩ (.slice o3 (digs 1).length c3))).heap[w.heap.size]? = some (Obj.cells #[.slice o2 (digs (m * 10 ^ k)).length c2, .slice o3 (digs 1).length c3] 218) := by
    rw [heap_setCell_same _ _ _ _ _ _ (heap_setCell_same _ _ _ _ _ _ hh3)]; rfl
  have hRd2 := rd_set (rd_set (unhide R2') hx0 0 (.slice o2 (digs (m * 10 ^ k)).length c2)) (by rw [Go.cell_of_row _ w.heap.size 0 _ _ _ (heap_setCell_same _ _ _ _ _ _ hh3)]; rfl) 1 (.slice o3 (digs 1).length c3)
  have hRd3 := rd_set (rd_set (unhide R3) hx0 0 (.slice o2 (digs (m * 10 ^ k)).length c2)) (by rw [Go.cell_of_row _ w.heap.size 0 _ _ _ (heap_setCell_same _ _ _ _ _ _ hh3)]; rfl) 1 (.slice o3 (digs 1).length c3)
  have hbz := (hb03.setCell (p := ⟨w.heap.size, 0, none⟩) (Nat.le_refl _) (.slice o2 (digs (m * 10 ^ k)).length c2)).setCell (p := ⟨w.heap.size, 1, none⟩) (Nat.le_refl _) (.slice o3 (digs 1).length c3)
  generalize ((w3.setCell ⟨w.heap.size, 0, none⟩ (.slice o2 (digs (m * 10 ^ k)).length c2)).setCell ⟨w.heap.size, 1, none⟩ (.slice o3 (digs 1).length c3)) = wz at *
  refine bodyPost_ret (v := .agg #[.slice o2 (digs (m * 10 ^ k)).length c2, .slice o3 (digs 1).length c3]) ?_ rfl ⟨_, _, rfl, hRd2, hRd3, hbz⟩
  have hy0 : wz.cell? ⟨w.heap.size, 0, none⟩ = some (.slice o2 (digs (m * 10 ^ k)).length c2) := by
    rw [Go.cell_of_row wz w.heap.size 0 _ _ _ hz]; rfl
  have hy1 : wz.cell? ⟨w.heap.size, 1, none⟩ = some (.slice o3 (digs 1).length c3) := by
    rw [Go.cell_of_row wz w.heap.size 1 _ _ _ hz]; rfl
  clear hz hx0 hx1 hx2 hx3
  have hres : Tryz.f153.results = #[.cell 4 218] := rfl
  unfold results
  rw [hres]
  simp
  go_simp

set_option maxRecDepth 20000 in
set_option maxHeartbeats 800000 in
theorem ref_decimal_down (v : Value) (m k : Nat) (w : World) (hr0 : Rd w v (digs m)) (hk0 : 1 ≤ k) (hk : k ≤ 100000) (hl : Lim (10 ^ k)) :
    Calls Tryz.prog 153 #[v, .int .i64 (-(k : Int))] w fun e w' => ∃ vn vm, e = .returned (.agg #[vn, vm]) ∧ Rd w' vn (digs m) ∧ Rd w' vm (digs (10 ^ k)) ∧ Below w.heap.size w w' := by
  have S := hide ref_ten
  have O := hide of_rd
  have hL := hide hl
  have R0 := hide hr0
  clear hl hr0
  have hkn : ¬ (0 : Int) ≤ -(k : Int) := by omega
  go_enter Tryz.func153, Tryz.ntmps153
  go_wp2_with fail
  have hb0 : Below w.heap.size w (w.alloc (Obj.cells #[.slice none 0 0, .slice none 0 0] 218)) := (Below.refl _ _).alloc (Nat.le_refl _) _
  have hh0 : (w.alloc (Obj.cells #[.slice none 0 0, .slice none 0 0] 218)).heap[w.heap.size]? = some (Obj.cells #[.slice none 0 0, .slice none 0 0] 218) := heap_alloc_new w _
  have hs0 : (w.alloc (Obj.cells #[.slice none 0 0, .slice none 0 0] 218)).heap.size = w.heap.size + 1 := by simp
  generalize hw0 : w.alloc (Obj.cells #[.slice none 0 0, .slice none 0 0] 218) = w0 at *
  clear hw0
  refine (unhide O 1 w0 (by omega)).mono ?_
  rintro e w2 ⟨v2, rfl, hr, hb2⟩
  have R2 := hide hr
  have hs2 := hb2.size
  clear hr
  go_wp2_with fail
  refine (unhide S v2 1 k w2 (unhide R2) (by rw [Nat.one_mul]; exact unhide hL) (by omega)).mono ?_
  rintro e w3 ⟨v3, rfl, hr, hb3⟩
  rw [Nat.one_mul] at hr
  have R3 := hide hr
  have hs3 := hb3.size
  clear hr
  have R1' := hide (((unhide R0).below (Nat.le_refl _) hb0).below (Nat.le_refl _) hb2 |>.below (Nat.le_refl _) hb3)
  have hh3 : w3.heap[w.heap.size]? = some (Obj.cells #[.slice none 0 0, .slice none 0 0] 218) := by
    rw [hb3.block _ (by omega), hb2.block _ (by omega)]; exact hh0
  have hb03 : Below w.heap.size w w3 := (hb0.trans (hb2.mono (by omega))).trans (hb3.mono (by omega))
  clear hh0 R2 R0
  have hx0 : w3.cell? ⟨w.heap.size, 0, none⟩ = some (.slice none 0 0) := by
    rw [Go.cell_of_row w3 w.heap.size 0 _ _ _ hh3]; rfl
  have hx1 : w3.cell? ⟨w.heap.size, 1, none⟩ = some (.slice none 0 0) := by
    rw [Go.cell_of_row w3 w.heap.size 1 _ _ _ hh3]; rfl
  have hx2 : w3.frozen? ⟨w.heap.size, 0, none⟩ = false := frozen_of_row w3 w.heap.size 0 _ _ hh3
  have hx3 : w3.frozen? ⟨w.heap.size, 1, none⟩ = false := frozen_of_row w3 w.heap.size 1 _ _ hh3
  obtain ⟨o2, c2, rfl, _⟩ := unhide R1'
  obtain ⟨o3, c3, rfl, _⟩ := unhide R3
  rename_i r1 r2
  clear r1 r2
  go_wp2_with fail
  have hz : (((w3.setCell ⟨w.heap.size, 0, none⟩ (.slice o2 (digs m).length c2)).setCell ⟨w.heap.size, 1, none⟩ (.slice o3 (digs (10 ^ k)).length c3))).heap[w.heap.size]? = some (Obj.cells #[.slice o2 (digs m).length c2, .slice o3 (digs (10 ^ k)).length c3] 218) := by
    rw [heap_setCell_same _ _ _ _ _ _ (heap_setCell_same _ _ _ _ _ _ hh3)]; rfl
  have hRd2 := rd_set (rd_set (unhide R1') hx0 0 (.slice o2 (digs m).length c2)) (by rw [Go.cell_of_row _ w.heap.size 0 _ _ _ (heap_setCell_same _ _ _ _ _ _ hh3)]; rfl) 1 (.slice o3 (digs (10 ^ k)).length c3)
  have hRd3 := rd_set (rd_set (unhide R3) hx0 0 (.slice o2 (digs m).length c2)) (by rw [Go.cell_of_row _ w.heap.size 0 _ _ _ (heap_setCell_same _ _ _ _ _ _ hh3)]; rfl) 1 (.slice o3 (digs (10 ^ k)).length c3)
  have hbz := (hb03.setCell (p := ⟨w.heap.size, 0, none⟩) (Nat.le_refl _) (.slice o2 (digs m).length c2)).setCell (p := ⟨w.heap.size, 1, none⟩) (Nat.le_refl _) (.slice o3 (digs (10 ^ k)).length c3)
  generalize ((w3.setCell ⟨w.heap.size, 0, none⟩ (.slice o2 (digs m).length c2)).setCell ⟨w.heap.size, 1, none⟩ (.slice o3 (digs (10 ^ k)).length c3)) = wz at *
  refine bodyPost_ret (v := .agg #[.slice o2 (digs m).length c2, .slice o3 (digs (10 ^ k)).length c3]) ?_ rfl ⟨_, _, rfl, hRd2, hRd3, hbz⟩
  have hy0 : wz.cell? ⟨w.heap.size, 0, none⟩ = some (.slice o2 (digs m).length c2) := by
    rw [Go.cell_of_row wz w.heap.size 0 _ _ _ hz]; rfl
  have hy1 : wz.cell? ⟨w.heap.size, 1, none⟩ = some (.slice o3 (digs (10 ^ k)).length c3) := by
    rw [Go.cell_of_row wz w.heap.size 1 _ _ _ hz]; rfl
  clear hz hx0 hx1 hx2 hx3
  have hres : Tryz.f153.results = #[.cell 4 218] := rfl
  unfold results
  rw [hres]
  simp
  go_simp

end Go.Proofs.YtgekdmjneogdoaaGreatDoor

namespace Go.Proofs.YtgekdmjneogdoaaGreatDoor
open Go.RowKit

/-- m times 2^k as a fraction: above the line, below it -/
def bnum (m : Nat) (k : Int) : Nat := m * 2 ^ k.toNat
def bden (k : Int) : Nat := 2 ^ (-k).toNat

theorem pow_lim (m k c : Nat) (hm : m < 18446744073709551616) (hc : 64 + k ≤ 24 * c) : m * 2 ^ k < 16777216 ^ c := by
  have h1 : m * 2 ^ k < 18446744073709551616 * 2 ^ k := Nat.mul_lt_mul_of_pos_right hm (Nat.pow_pos (by omega))
  refine Nat.lt_of_lt_of_le h1 ?_
  rw [show (18446744073709551616 : Nat) = 2 ^ 64 by rfl, show (16777216 : Nat) = 2 ^ 24 by rfl, ← Nat.pow_add, ← Nat.pow_mul]
  exact Nat.pow_le_pow_right (by omega) hc

theorem lim_pow (m k : Nat) (hm : m < 18446744073709551616) (hk : k ≤ 2200) : Lim (m * 2 ^ k) :=
  Nat.le_trans (digs_len_lt ((64 + k) / 24 + 1) _ (pow_lim m k _ hm (by omega))) (by omega)

theorem ref_binary (m : Nat) (k : Int) (w : World) (hm : m < 18446744073709551616) (hk1 : -2200 ≤ k) (hk2 : k ≤ 2200) :
    Calls Tryz.prog 155 #[.int .u64 m, .int .i64 k] w fun e w' => ∃ vn vm, e = .returned (.agg #[vn, vm]) ∧ Rd w' vn (digs (bnum m k)) ∧ Rd w' vm (digs (bden k)) ∧ Below w.heap.size w w' := by
  by_cases h : 0 ≤ k
  · obtain ⟨n, rfl⟩ := Int.eq_ofNat_of_zero_le h
    have := ref_binary_up m n w hm (by omega) (lim_pow m n hm (by omega))
    unfold bnum bden
    rw [show ((n : Int).toNat) = n by omega, show (-(n : Int)).toNat = 0 by omega, Nat.pow_zero]
    exact this
  · obtain ⟨n, hn⟩ := Int.eq_ofNat_of_zero_le (show 0 ≤ -k by omega)
    have hk : k = -(n : Int) := by omega
    subst hk
    have := ref_binary_down m n w hm (by omega) (by omega) (by have := lim_pow 1 n (by omega) (by omega); rwa [Nat.one_mul] at this)
    unfold bnum bden
    rw [show (-(n : Int)).toNat = 0 by omega, show (-(-(n : Int))).toNat = n by omega, Nat.pow_zero, Nat.mul_one]
    exact this

/-- the two parts of a value without a sign -/
def pm (v : Nat) : Nat := if v / 4503599627370496 = 0 then v % 4503599627370496 else v % 4503599627370496 + 4503599627370496
def pk (v : Nat) : Int := if v / 4503599627370496 = 0 then (-1074 : Int) else ((v / 4503599627370496 : Nat) : Int) - 1075

theorem parts_rd (v : Nat) (w : World) (hv : v < 9218868437227405312) :
    Calls Tryz.prog 154 #[.int .u64 v] w fun e w' => e = .returned (.tuple #[.int .u64 (pm v), .int .i64 (pk v)]) ∧ w' = w := ref_parts v w hv

theorem pm_lt (v : Nat) : pm v < 9007199254740992 := by unfold pm; split <;> omega
theorem pk_le (v : Nat) (hv : v < 9218868437227405312) : -1074 ≤ pk v ∧ pk v ≤ 971 := by unfold pk; split <;> omega
end Go.Proofs.YtgekdmjneogdoaaGreatDoor

namespace Go.Proofs.YtgekdmjneogdoaaGreatDoor
open Go.RowKit

/-- is N / M below the value v? -/
def aboveB (N M v : Nat) : Bool := decide (N * bden (pk v) < bnum (pm v) (pk v) * M)

theorem lims_of {N M : Nat} (hN : ∀ k, k ≤ 1100 → Lim (N * 2 ^ k)) (hM : ∀ m k, m < 18446744073709551616 → k ≤ 1100 → Lim (m * 2 ^ k * M)) (m : Nat) (k : Int) (hm : m < 18446744073709551616) (h1 : -1100 ≤ k) (h2 : k ≤ 1100) :
    Lim (N * bden k) ∧ Lim (bnum m k * M) ∧ Lim N ∧ Lim M ∧ Lim (bnum m k) ∧ Lim (bden k) := by
  refine ⟨hN _ (by omega), hM _ _ hm (by omega), ?_, ?_, lim_pow m _ hm (by omega), ?_⟩
  · simpa using hN 0 (by omega)
  · simpa using hM 1 0 (by omega) (by omega)
  · have := lim_pow 1 (-k).toNat (by omega) (by omega)
    rwa [Nat.one_mul] at this

set_option maxRecDepth 20000 in
set_option maxHeartbeats 3200000 in
theorem ref_nearest (xn xm : Value) (N M : Nat) (w : World) (h1 : Rd w xn (digs N)) (h2 : Rd w xm (digs M)) (hN : ∀ k, k ≤ 1100 → Lim (N * 2 ^ k)) (hM : ∀ m k, m < 18446744073709551616 → k ≤ 1100 → Lim (m * 2 ^ k * M)) :
    Calls Tryz.prog 152 #[.agg #[xn, xm]] w fun e w' => ∃ lo : Nat, lo < 9218868437227405312 ∧ aboveB N M lo = false ∧ (lo + 1 = 9218868437227405312 ∨ aboveB N M (lo + 1) = true) ∧
      e = .returned (.int .u64 (if N * bden (pk lo - 1) < bnum (2 * pm lo + 1) (pk lo - 1) * M ∨ (¬ bnum (2 * pm lo + 1) (pk lo - 1) * M < N * bden (pk lo - 1) ∧ lo % 2 = 0) then lo else lo + 1 : Nat)) ∧ Below w.heap.size w w' := by
  have H1 := hide h1
  have H2 := hide h2
  have HN := hide hN
  have HM := hide hM
  have BI := hide ref_binary
  have BE := hide ref_below
  have PA := hide parts_rd
  obtain ⟨o1, c1, rfl, _⟩ := h1
  obtain ⟨o2, c2, rfl, _⟩ := h2
  rename_i r1 r2
  clear r1 r2 hN hM
  go_enter Tryz.func152, Tryz.ntmps152
  go_wp2_with fail
  have hb0 : Below w.heap.size w (w.alloc (Obj.cells #[.slice o1 (digs N).length c1, .slice o2 (digs M).length c2] 218)) := (Below.refl _ _).alloc (Nat.le_refl _) _
  have hh0 : (w.alloc (Obj.cells #[.slice o1 (digs N).length c1, .slice o2 (digs M).length c2] 218)).heap[w.heap.size]? = some (Obj.cells #[.slice o1 (digs N).length c1, .slice o2 (digs M).length c2] 218) := heap_alloc_new w _
  have hs0 : (w.alloc (Obj.cells #[.slice o1 (digs N).length c1, .slice o2 (digs M).length c2] 218)).heap.size = w.heap.size + 1 := by simp
  generalize hw0 : w.alloc (Obj.cells #[.slice o1 (digs N).length c1, .slice o2 (digs M).length c2] 218) = w0 at *
  clear hw0
  generalize hl1 : (digs N).length = L1 at *
  generalize hl2 : (digs M).length = L2 at *
  clear hl1 hl2
  go_loopw [3, 4] (fun x y wr => ∃ lo hi : Nat, lo < hi ∧ hi ≤ 9218868437227405312 ∧ x = .int .u64 lo ∧ y = .int .u64 hi ∧ Hid (aboveB N M lo = false ∧ (hi = 9218868437227405312 ∨ aboveB N M hi = true)) ∧ Hid (wr.heap[w.heap.size]? = some (Obj.cells #[.slice o1 L1 c1, .slice o2 L2 c2] 218)) ∧ Below w.heap.size w wr ∧ w.heap.size < wr.heap.size) (fun x y _ => (RowKit.intOf y - RowKit.intOf x).toNat)
  case atStart =>
    refine ⟨0, 9218868437227405312, by omega, by omega, rfl, rfl, ⟨?_, .inl rfl⟩, hh0, hb0, by omega⟩
    unfold aboveB bnum
    rw [show pm 0 = 0 by rfl, Nat.zero_mul, Nat.zero_mul]
    simp
  case round =>
    clear hb0 hh0 hs0
    obtain ⟨lo, hi, hlh, hhi, rfl, rfl, hI, hh, hbl, hgs⟩ := hrel
    have hc0 : wr.cell? ⟨w.heap.size, 0, none⟩ = some (.slice o1 L1 c1) := by
      rw [Go.cell_of_row wr w.heap.size 0 _ _ _ (unhide hh)]; rfl
    have hc1 : wr.cell? ⟨w.heap.size, 1, none⟩ = some (.slice o2 L2 c2) := by
      rw [Go.cell_of_row wr w.heap.size 1 _ _ _ (unhide hh)]; rfl
    by_cases hgo : 1 < hi - lo
    · have hgo1 : (1 : Int) < (hi : Int) - lo := by omega
      have hmid : lo + (hi - lo) / 2 < 9218868437227405312 := by omega
      have hmid2 : (lo : Int) + ((hi : Int) - lo) / 2 = ((lo + (hi - lo) / 2 : Nat) : Int) := by omega
      have hm1 : lo < lo + (hi - lo) / 2 := by omega
      have hm2 : lo + (hi - lo) / 2 < hi := by omega
      generalize hmm : lo + (hi - lo) / 2 = mid at *
      clear hmm
      have hpm := pm_lt mid
      have hpk := pk_le mid hmid
      go_wp2_with fail
      refine (unhide PA mid _ hmid).mono ?_
      rintro x wx ⟨rfl, rfl⟩
      have hK := hide (lims_of (unhide HN) (unhide HM) (pm mid) (pk mid) (by omega) (by omega) (by omega))
      have hR1 := hide ((unhide H1).below (Nat.le_refl _) hbl)
      have hR2 := hide ((unhide H2).below (Nat.le_refl _) hbl)
      generalize hmv : pm mid = mm at *
      generalize hkv : pk mid = kk at *
      have hmv2 := hide hmv
      have hkv2 := hide hkv
      clear hmv hkv
      go_upto_region 6 with fail
      go_region_with (first
        | (go_at_call 155
           refine (unhide BI mm kk _ ?_ ?_ ?_).mono ?_
           omega
           omega
           omega
           rintro x w3 ⟨vn, vm, rfl, q1, q2, q3⟩
           have Q1 := hide q1
           have Q2 := hide q2
           have q4 : Below w.heap.size w w3 := Below.trans (by exact ⟨hbl.os, hbl.tape, hbl.output, hbl.size, hbl.block⟩) (q3.mono (Nat.le_of_lt hgs))
           have hh3 : w3.heap[w.heap.size]? = some (Obj.cells #[.slice o1 L1 c1, .slice o2 L2 c2] 218) := (q3.block _ (by exact hgs)).trans (unhide hh)
           have hc03 : w3.cell? ⟨w.heap.size, 0, none⟩ = some (.slice o1 L1 c1) := by
             rw [Go.cell_of_row w3 w.heap.size 0 _ _ _ hh3]; rfl
           have hc13 : w3.cell? ⟨w.heap.size, 1, none⟩ = some (.slice o2 L2 c2) := by
             rw [Go.cell_of_row w3 w.heap.size 1 _ _ _ hh3]; rfl
           have hh4 := hide hh3
           have q5 := hide q3
           clear q1 q2 q3 hh3)
        | (go_at_call 156
           refine (unhide BE _ _ _ _ N M (bnum mm kk) (bden kk) _ ?_ ?_ ?_ ?_ ?_ ?_ ?_ ?_ ?_).mono ?_
           exact (unhide H1).below (Nat.le_refl _) q4
           exact (unhide H2).below (Nat.le_refl _) q4
           exact unhide Q1
           exact unhide Q2
           exact (unhide hK).1
           exact (unhide hK).2.2.1
           exact (unhide hK).2.2.2.1
           exact (unhide hK).2.2.2.2.1
           exact (unhide hK).2.2.2.2.2
           rintro x w4 ⟨rfl, q7⟩
           have q8 : Below w.heap.size w w4 := Below.trans (by exact ⟨q4.os, q4.tape, q4.output, q4.size, q4.block⟩) (q7.mono (by exact q4.size))
           have hgs4 : w.heap.size < w4.heap.size := Nat.lt_of_lt_of_le hgs (Nat.le_trans (unhide q5).size q7.size)
           have hh5 : Hid (w4.heap[w.heap.size]? = some (Obj.cells #[.slice o1 L1 c1, .slice o2 L2 c2] 218)) := (q7.block _ (by exact Nat.lt_of_lt_of_le hgs (unhide q5).size)).trans (unhide hh4)
           clear q7))
      all_goals
        have hab : Hid (aboveB N M mid = decide (N * bden kk < bnum mm kk * M)) := by
          unfold aboveB
          rw [unhide hmv2, unhide hkv2]
          exact rfl
        generalize hdec : decide (N * bden kk < bnum mm kk * M) = bb at *
        cases bb
        · go_wp2_with fail
          go_roundw
          case rel => exact ⟨mid, hi, hm2, hhi, rfl, rfl, ⟨unhide hab, (unhide hI).2⟩, hh5, q8, hgs4⟩
          case measure => simp [RowKit.intOf]; omega
        · go_wp2_with fail
          go_roundw
          case rel => exact ⟨lo, mid, hm1, by omega, rfl, rfl, ⟨(unhide hI).1, .inr (unhide hab)⟩, hh5, q8, hgs4⟩
          case measure => simp [RowKit.intOf]; omega
    · have hgo1 : ¬ (1 : Int) < (hi : Int) - lo := by omega
      have hhl : Hid (hi = lo + 1) := (by omega : hi = lo + 1)
      have hlo : lo < 9218868437227405312 := by omega
      have hpm := pm_lt lo
      have hpk := pk_le lo hlo
      have hlo2 : (lo : Int) ≤ hi := by omega
      go_wp2_with fail
      refine (unhide PA lo _ hlo).mono ?_
      rintro x wx ⟨rfl, rfl⟩
      generalize hmv : pm lo = mm at *
      generalize hkv : pk lo = kk at *
      have hmv2 := hide hmv
      have hkv2 := hide hkv
      clear hmv hkv
      have hK := hide (lims_of (unhide HN) (unhide HM) (2 * mm + 1) (kk - 1) (by omega) (by omega) (by omega))
      go_wp2_with fail
      have hcast : (2 * (mm : Int) + 1) = ((2 * mm + 1 : Nat) : Int) := by omega
      rw [hcast]
      clear hcast
      refine (unhide BI (2 * mm + 1) (kk - 1) _ (by omega) (by omega) (by omega)).mono ?_
      rintro x w1 ⟨vn, vm, rfl, q1, q2, q3⟩
      have Q1 := hide q1
      have Q2 := hide q2
      obtain ⟨on, cn, rfl, _⟩ := q1
      obtain ⟨om, cm, rfl, _⟩ := q2
      rename_i r1 r2
      clear r1 r2 hc0 hc1
      have q4 : Below w.heap.size w w1 := hbl.trans (q3.mono (by omega))
      have hs1 := q3.size
      have hc0 : w1.cell? ⟨w.heap.size, 0, none⟩ = some (.slice o1 L1 c1) := by
        rw [Go.cell_of_row w1 w.heap.size 0 _ _ _ ((q3.block _ (by omega)).trans (unhide hh))]; rfl
      have hc1 : w1.cell? ⟨w.heap.size, 1, none⟩ = some (.slice o2 L2 c2) := by
        rw [Go.cell_of_row w1 w.heap.size 1 _ _ _ ((q3.block _ (by omega)).trans (unhide hh))]; rfl
      have q5 := hide q3
      clear q3
      generalize hA : bnum (2 * mm + 1) (kk - 1) = A at *
      generalize hB : bden (kk - 1) = B at *
      have hA2 := hide hA
      have hB2 := hide hB
      clear hA hB
      have hlt1 : w.heap.size < w1.heap.size := by omega
      have hne1 : w.heap.size ≠ w1.heap.size := by omega
      have hne2 : w1.heap.size ≠ w.heap.size := by omega
      go_upto_region 12 with fail
      generalize hG1 : w1.heap.size = G1 at *
      generalize hLA : (digs A).length = LA at *
      generalize hLB : (digs B).length = LB at *
      have hx2 : (w1.alloc (Obj.cells #[.slice on LA cn, .slice om LB cm] 218)).heap[w.heap.size]? = some (Obj.cells #[.slice o1 L1 c1, .slice o2 L2 c2] 218) := by
        rw [((Below.refl w1.heap.size w1).alloc (Nat.le_refl _) _).block _ (by omega)]
        exact ((unhide q5).block _ (by omega)).trans (unhide hh)
      have hy2 : (w1.alloc (Obj.cells #[.slice on LA cn, .slice om LB cm] 218)).heap[G1]? = some (Obj.cells #[.slice on LA cn, .slice om LB cm] 218) := by
        rw [← hG1]; exact heap_alloc_new w1 _
      have hb2 : Below w.heap.size w (w1.alloc (Obj.cells #[.slice on LA cn, .slice om LB cm] 218)) := q4.alloc (by omega) _
      have Q1' := hide ((unhide Q1).below (Nat.le_refl _) ((Below.refl w1.heap.size w1).alloc (Nat.le_refl _) (Obj.cells #[.slice on LA cn, .slice om LB cm] 218)))
      have Q2' := hide ((unhide Q2).below (Nat.le_refl _) ((Below.refl w1.heap.size w1).alloc (Nat.le_refl _) (Obj.cells #[.slice on LA cn, .slice om LB cm] 218)))
      have hs2 : (w1.alloc (Obj.cells #[.slice on LA cn, .slice om LB cm] 218)).heap.size = G1 + 1 := by simp [hG1]
      generalize hw2 : w1.alloc (Obj.cells #[.slice on LA cn, .slice om LB cm] 218) = w2 at *
      clear hw2 Q1 Q2 hc0 hc1 hLA hLB
      have hc0 : w2.cell? ⟨w.heap.size, 0, none⟩ = some (.slice o1 L1 c1) := by
        rw [Go.cell_of_row w2 w.heap.size 0 _ _ _ hx2]; rfl
      have hc1 : w2.cell? ⟨w.heap.size, 1, none⟩ = some (.slice o2 L2 c2) := by
        rw [Go.cell_of_row w2 w.heap.size 1 _ _ _ hx2]; rfl
      have hc2 : w2.cell? ⟨G1, 0, none⟩ = some (.slice on LA cn) := by
        rw [Go.cell_of_row w2 G1 0 _ _ _ hy2]; rfl
      have hc3 : w2.cell? ⟨G1, 1, none⟩ = some (.slice om LB cm) := by
        rw [Go.cell_of_row w2 G1 1 _ _ _ hy2]; rfl
      have hX2 := hide hx2
      have hY2 := hide hy2
      clear hx2 hy2
      go_wp2_with fail
      refine (unhide BE _ _ _ _ N M A B w2 ((unhide H1).below (Nat.le_refl _) hb2) ((unhide H2).below (Nat.le_refl _) hb2) (unhide Q1') (unhide Q2') (unhide hK).1 (unhide hK).2.2.1 (unhide hK).2.2.2.1 (unhide hK).2.2.2.2.1 (unhide hK).2.2.2.2.2).mono ?_
      rintro x w3 ⟨rfl, hb3⟩
      clear hc0 hc1 hc2 hc3
      have hc0 : w3.cell? ⟨w.heap.size, 0, none⟩ = some (.slice o1 L1 c1) := by
        rw [Go.cell_of_row w3 w.heap.size 0 _ _ _ ((hb3.block _ (by omega)).trans (unhide hX2))]; rfl
      have hc1 : w3.cell? ⟨w.heap.size, 1, none⟩ = some (.slice o2 L2 c2) := by
        rw [Go.cell_of_row w3 w.heap.size 1 _ _ _ ((hb3.block _ (by omega)).trans (unhide hX2))]; rfl
      have hc2 : w3.cell? ⟨G1, 0, none⟩ = some (.slice on LA cn) := by
        rw [Go.cell_of_row w3 G1 0 _ _ _ ((hb3.block _ (by omega)).trans (unhide hY2))]; rfl
      have hc3 : w3.cell? ⟨G1, 1, none⟩ = some (.slice om LB cm) := by
        rw [Go.cell_of_row w3 G1 1 _ _ _ ((hb3.block _ (by omega)).trans (unhide hY2))]; rfl
      have hb03 : Below w.heap.size w w3 := hb2.trans (hb3.mono (by omega))
      have hs3 := hb3.size
      go_wp2_with fail
      refine (unhide BE _ _ _ _ A B N M w3 ((unhide Q1').below (Nat.le_refl _) hb3) ((unhide Q2').below (Nat.le_refl _) hb3) ((unhide H1).below (Nat.le_refl _) hb03) ((unhide H2).below (Nat.le_refl _) hb03) (unhide hK).2.1 (unhide hK).2.2.2.2.1 (unhide hK).2.2.2.2.2 (unhide hK).2.2.1 (unhide hK).2.2.2.1).mono ?_
      rintro x w4 ⟨rfl, hb4⟩
      have hb04 : Below w.heap.size w w4 := hb03.trans (hb4.mono (by omega))
      have hfin : Hid (lo + 1 = 9218868437227405312 ∨ aboveB N M (lo + 1) = true) := by
        have h3 := (unhide hI).2
        rw [unhide hhl] at h3
        exact h3
      have hpost : ∀ r : Nat, r = (if N * B < A * M ∨ (¬ A * M < N * B ∧ lo % 2 = 0) then lo else lo + 1) → ∃ lo' : Nat, lo' < 9218868437227405312 ∧ aboveB N M lo' = false ∧ (lo' + 1 = 9218868437227405312 ∨ aboveB N M (lo' + 1) = true) ∧
          Ending.returned (.int .u64 (r : Int)) = .returned (.int .u64 (if N * bden (pk lo' - 1) < bnum (2 * pm lo' + 1) (pk lo' - 1) * M ∨ (¬ bnum (2 * pm lo' + 1) (pk lo' - 1) * M < N * bden (pk lo' - 1) ∧ lo' % 2 = 0) then lo' else lo' + 1 : Nat)) ∧ Below w.heap.size w w4 := by
        intro r hr
        refine ⟨lo, hlo, (unhide hI).1, unhide hfin, ?_, hb04⟩
        rw [unhide hmv2, unhide hkv2, unhide hA2, unhide hB2, hr]
      have HP := hide hpost
      clear hpost hfin
      by_cases hd : N * B < A * M
      · rw [decide_eq_true hd, decide_eq_false (show ¬ A * M < N * B by omega)]
        have HP1 := hide (unhide HP lo (by rw [if_pos (.inl hd)]))
        clear hd
        go_wp2_with fail
        go_ret
        exact unhide HP1
      · by_cases hu : A * M < N * B
        · rw [decide_eq_false hd, decide_eq_true hu]
          have HP1 := hide (unhide HP (lo + 1) (by rw [if_neg (by omega)]))
          clear hd hu
          go_wp2_with fail
          go_ret
          exact unhide HP1
        · rw [decide_eq_false hd, decide_eq_false hu]
          by_cases hev : lo % 2 = 0
          · have HP1 := hide (unhide HP lo (by rw [if_pos (.inr ⟨hu, hev⟩)]))
            have hev2 : (lo : Int) % 2 = 0 := by omega
            clear hd hu
            go_wp2_with fail
            go_ret
            exact unhide HP1
          · have HP1 := hide (unhide HP (lo + 1) (by rw [if_neg (by omega)]))
            have hev2 : (lo : Int) % 2 ≠ 0 := by omega
            clear hd hu
            go_wp2_with fail
            go_ret
            exact unhide HP1
end Go.Proofs.YtgekdmjneogdoaaGreatDoor
