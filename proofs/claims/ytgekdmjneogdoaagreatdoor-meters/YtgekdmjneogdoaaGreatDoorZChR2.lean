import Derived.Test.YtgekdmjneogdoaaGreatDoorZChR1
import Derived.RegionDies
import Derived.Deep.RegionHeld3
namespace Go.Proofs.YtgekdmjneogdoaaGreatDoor
open Go.RowKit

theorem RdrAt.kept {K : Nat → Prop} {w w' : World} {z pos : Nat} {s : ByteArray} (h : RdrAt w z s pos) (hz : K z) (hk : Kept K w w') : RdrAt w' z s pos := by
  obtain ⟨ty, h⟩ := h
  exact ⟨ty, (hk.block z hz).trans h⟩

theorem RdrAt.size {w : World} {z pos : Nat} {s : ByteArray} (h : RdrAt w z s pos) : z < w.heap.size := by
  obtain ⟨ty, h⟩ := h
  exact (Array.getElem?_eq_some_iff.1 h).1

/-- what stays as it is while samples are read -/
structure FixR (K : Nat → Prop) (w : World) (z q : Nat) : Prop where
  zq : z ≠ q
  nz : ¬ K z
  nq : ¬ K q
  inK : ∀ k, K k → k < w.heap.size
  G : GK K

/-- how the reading stands: the reader, the trail -/
structure RS (K : Nat → Prop) (w w1 : World) (z q : Nat) (s : ByteArray) (pos : Nat) (t : Tr) : Prop where
  rdr : RdrAt w1 z s pos
  tr : TrAt w1 q t
  kept : Kept K w w1
  tabs : CTabs w1
  pos : pos ≤ 8 * s.size

abbrev bitsOf (s : ByteArray) (pos : Nat) : List Nat := (cbits (natsOf s)).drop pos

theorem bitsOf_length (s : ByteArray) (pos : Nat) : (bitsOf s pos).length = 8 * s.size - pos := by
  rw [bitsOf, List.length_drop, cbits_length, natsOf_length]

theorem rdL_some (s : ByteArray) (pos n : Nat) (h : pos + n ≤ 8 * s.size) : rdL n (bitsOf s pos) = some (bval ((bitsOf s pos).take n), bitsOf s (pos + n)) := by
  rw [rdL, if_pos (by rw [bitsOf_length]; omega), List.drop_drop]

theorem rdL_none (s : ByteArray) (pos n : Nat) (h : 8 * s.size < pos + n) (hp : pos ≤ 8 * s.size) : rdL n (bitsOf s pos) = none := by
  rw [rdL, if_neg (by rw [bitsOf_length]; omega)]

theorem RS.readOk {K : Nat → Prop} {w w1 : World} {z q pos : Nat} {s : ByteArray} {t : Tr} (h : RS K w w1 z q s pos t) (F : FixR K w z q) (n : Nat) (hn : n ≤ 64) (hb : pos ≤ 900000) (hl : pos + n ≤ 8 * s.size) :
    Calls Tryz.prog 83 #[.pointer (some ⟨z, 0, none⟩), .int .i64 n] w1 fun e w' => e = .returned (.int .u64 (bval ((bitsOf s pos).take n))) ∧ RS K w w' z q s (pos + n) t := by
  refine (read_ok (And1 K q) z pos n s w1 ?_ h.rdr hl (by omega) hn).mono ?_
  · rintro (hh | hh)
    · exact F.nz hh
    · exact F.zq hh
  · rintro e w' ⟨rfl, h1, h2⟩
    have h3 : Kept K w1 w' := h2.sub (fun k hk => Or.inl hk)
    exact ⟨rfl, h1, h.tr.kept h2, h.kept.trans h3, h.tabs.kept F.G h3, hl⟩

theorem RS.readBad {K : Nat → Prop} {w w1 : World} {z q pos : Nat} {s : ByteArray} {t : Tr} (h : RS K w w1 z q s pos t) (F : FixR K w z q) (n : Nat) (hn : n ≤ 64) (hb : pos ≤ 900000) (hl : 8 * s.size < pos + n) :
    Calls Tryz.prog 83 #[.pointer (some ⟨z, 0, none⟩), .int .i64 n] w1 fun e w' => e = .panicked [few] ∧ Kept K w w' := by
  refine (read_bad K z pos n s w1 F.nz h.rdr hl h.pos (by omega) hn).mono ?_
  rintro e w' ⟨rfl, h1⟩
  exact ⟨rfl, h.kept.trans h1⟩

theorem bval_one (s : ByteArray) (pos : Nat) : bval ((bitsOf s pos).take 1) < 2 := by
  have := take_lt (natsOf s) pos 1
  simpa using this

theorem RS.drew {K : Nat → Prop} {w w1 : World} {z q pos : Nat} {s : ByteArray} {t : Tr} (h : RS K w w1 z q s pos t) : RS K w w1.drew z q s pos t := by
  obtain ⟨⟨ty, h1⟩, ⟨ty2, h2⟩, h3, ⟨h4, h5⟩, h6⟩ := h
  exact ⟨⟨ty, h1⟩, ⟨ty2, h2⟩, h3.drew, ⟨h4, h5⟩, h6⟩

theorem RS.drewN {K : Nat → Prop} {w w1 : World} {z q pos : Nat} {s : ByteArray} {t : Tr} (h : RS K w w1 z q s pos t) (n : Nat) (F : FixR K w z q) : RS K w (w1.drewN n) z q s pos t := by
  obtain ⟨⟨ty, h1⟩, ⟨ty2, h2⟩, h3, h4, h6⟩ := h
  have h7 : Kept K w1 (w1.drewN n) := (Kept.refl K w1).drewN n
  exact ⟨⟨ty, by simpa using h1⟩, ⟨ty2, by simpa using h2⟩, h3.trans h7, h4.kept F.G h7, h6⟩

theorem take64 (s : ByteArray) (pos n : Nat) (hn : n ≤ 64) : bval ((bitsOf s pos).take n) < 18446744073709551616 := by
  have h1 := take_lt (natsOf s) pos n
  have h2 : 2 ^ n ≤ 2 ^ 64 := Nat.pow_le_pow_right (by decide) hn
  exact Nat.lt_of_lt_of_le h1 h2

end Go.Proofs.YtgekdmjneogdoaaGreatDoor
