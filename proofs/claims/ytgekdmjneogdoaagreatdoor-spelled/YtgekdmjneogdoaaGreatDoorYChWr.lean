import Derived.Test.YtgekdmjneogdoaaGreatDoorYLaws
import Derived.Below
import Derived.Maps.AppendAt
import Derived.Deep.RegionLaw
namespace Go.Proofs.YtgekdmjneogdoaaGreatDoor
open Go.RowKit

/-- worlds that agree on the blocks of K -/
structure Kept (K : Nat → Prop) (w w' : World) : Prop where
  os : w'.os = w.os
  tape : w'.tape = w.tape
  output : w'.output = w.output
  size : w.heap.size ≤ w'.heap.size
  block : ∀ k, K k → w'.heap[k]? = w.heap[k]?

theorem Kept.refl (K : Nat → Prop) (w : World) : Kept K w w := ⟨rfl, rfl, rfl, Nat.le_refl _, fun _ _ => rfl⟩
theorem Kept.trans {K : Nat → Prop} {a b c : World} (h : Kept K a b) (k : Kept K b c) : Kept K a c :=
  ⟨k.os.trans h.os, k.tape.trans h.tape, k.output.trans h.output, Nat.le_trans h.size k.size, fun i hi => (k.block i hi).trans (h.block i hi)⟩
theorem Kept.sub {K J : Nat → Prop} {w w' : World} (h : Kept K w w') (hj : ∀ k, J k → K k) : Kept J w w' := ⟨h.os, h.tape, h.output, h.size, fun k hk => h.block k (hj k hk)⟩
theorem Kept.alloc {K : Nat → Prop} {w w' : World} (h : Kept K w w') (hK : ∀ k, K k → k < w.heap.size) (o : Obj) : Kept K w (w'.alloc o) :=
  ⟨h.os, h.tape, h.output, Nat.le_trans h.size (by simp), fun k hk => (Below.heap_alloc w' o k (Nat.lt_of_lt_of_le (hK k hk) h.size)).trans (h.block k hk)⟩
theorem Kept.drew {K : Nat → Prop} {w w' : World} (h : Kept K w w') : Kept K w w'.drew := ⟨h.os, h.tape, h.output, h.size, h.block⟩
theorem Kept.setCell {K : Nat → Prop} {w w' : World} (h : Kept K w w') {a : Addr} (ha : ¬ K a.block) (v : Value) : Kept K w (w'.setCell a v) :=
  ⟨h.os, h.tape, h.output, by simpa using h.size, fun k hk => (Below.heap_setCell w' a v k (fun e => ha (e ▸ hk))).trans (h.block k hk)⟩
theorem Kept.grown {K : Nat → Prop} {w w' w'' : World} {row : Option Nat} (h : Kept K w w') (hK : ∀ k, K k → k < w.heap.size) (hg : w'.grownBy w'' row) (hr : ∀ k, row = some k → ¬ K k) : Kept K w w'' :=
  ⟨hg.os.trans h.os, hg.tape.trans h.tape, hg.output.trans h.output, Nat.le_trans h.size hg.size,
    fun k hk => (hg.block k (Nat.lt_of_lt_of_le (hK k hk) h.size) (fun e => hr k e.symm hk)).trans (h.block k hk)⟩
theorem Kept.below {B : Nat} {w w' : World} (h : Kept (fun k => k < B) w w') : Below B w w' := ⟨h.os, h.tape, h.output, h.size, h.block⟩
theorem Kept.of_below {B : Nat} {w w' : World} (h : Below B w w') : Kept (fun k => k < B) w w' := ⟨h.os, h.tape, h.output, h.size, h.block⟩
theorem Kept.cell {K : Nat → Prop} {w w' : World} (h : Kept K w w') {p : Addr} (hp : K p.block) : w'.cell? p = w.cell? p := World.cell?_of_block (w := w) (h.block p.block hp)

abbrev encO : Nat → Value := fun n => Value.int .u8 (n : Int)

theorem infoO : (Tryz.prog.info? 5).map (fun i => (i.zero, i.size, i.bytes)) = some (some (.int .u8 0), 1, 1) := by kernel_rfl

/-- the bit writer at p holds the bits bs; what it has lies in no block of K -/
def Wr (K : Nat → Prop) (w : World) (p : Nat) (bs : List Nat) : Prop :=
  ∃ v t, w.heap[p]? = some (.cells #[v, .int .u8 ((bval bs % 256 : Nat) : Int), .int .i64 ((bs.length % 8 : Nat) : Int)] t (0, 0)) ∧ w.ownsRow (p + 1) 5 1 v (octs bs).length ((octs bs).map encO) ∧ ∀ g, v.ownBlock = some g → ¬ K g

theorem or_bit (m b : Nat) (hb : b < 2) : bits BinOp.or IntKind.u8 ((2 * m % 256 : Nat) : Int) (b : Int) = (((2 * m + b) % 256 : Nat) : Int) := by
  have h : ∀ i : Fin 128, ∀ b : Fin 2, bits BinOp.or IntKind.u8 ((2 * i.val : Nat) : Int) ((b.val : Nat) : Int) = ((2 * i.val + b.val : Nat) : Int) := by decide
  have h1 := h ⟨m % 128, by omega⟩ ⟨b, hb⟩
  simp only at h1
  rw [show 2 * m % 256 = 2 * (m % 128) by omega, h1]
  congr 1; omega

theorem step_append_own {P : Program} {ops : Array Oper} {o : Oper} {a : Act} {w : World} {K : Act → World → Prop} {Q : Exit → Act → World → Prop} {E : Prop}
    (hgd : o.guard = none) (s x : Operand) (t : TypeId) (hop : o.op = Op.call { callee := Callee.builtin Builtin.append, args := #[s, x], argTypes := #[t, t] })
    (base : Nat) (e : TypeId) (i : TypeInfo) (z : Value) (size bytes : Nat) (h1 : P.underlying t = some (.slice e)) (h2 : P.info? e = some i) (h3 : i.zero = some z) (h4 : i.size = size) (h5 : i.bytes = bytes) (h6 : z.cells.size = size) (h7 : 0 < size)
    (v : Value) (n : Nat) (xs : List Value) (hs : a.eval s = v) (hown : w.ownsRow base e size v n xs)
    (ad : Addr) (m c : Nat) (news : List Value) (hx : a.eval x = .slice (some ad) m c) (hn : news.length = m * size) (hc : ∀ j u, news[j]? = some u → w.cell? (ad.add j) = some u) (h1c : ∀ u ∈ news, u.oneCell' = true)
    (b1 : n + m ≤ maxLen) (b2 : (n + m) * bytes ≤ 140737488355328) (b3 : base ≤ w.heap.size)
    (hK : ∀ v' w', w'.ownsRow base e size v' (n + m) (xs ++ news) → w.grownBy w' v.ownBlock → (v'.ownBlock = v.ownBlock ∨ v'.ownBlock = some w.heap.size) → K (a.put o.dst v') w') :
    if Region.wanted o (yielded ops a.tmps) = true then Oper.wp P o a w K Q else E := by
  have hw : Region.wanted o (yielded ops a.tmps) = true := by simp [Region.wanted, hgd]
  rw [if_pos hw]
  obtain ⟨v', w', hrun, r1, r2, _, r3⟩ := run_append_own_at (P := P) w base t o.type e i z size bytes h1 h2 h3 h4 h5 h6 h7 v n xs hown ad m c news hn hc h1c b1 b2 b3
  unfold Oper.wp
  simp [execOp, hop, resolve, invoke, builtin, hs, hx, hrun, Result.andThen]
  exact hK v' w' r1 r2 r3

theorem own_form {w : World} {base : Nat} {e : TypeId} {size : Nat} {v : Value} {n : Nat} {xs : List Value} (h : w.ownsRow base e size v (n + 1) xs) : ∃ g cp, v = .slice (some ⟨g, 0, none⟩) (n + 1) cp := by
  rcases h.2 with ⟨_, h0⟩ | ⟨g, cap, _, rfl, _⟩
  · omega
  · exact ⟨g, cap, rfl⟩

set_option maxRecDepth 20000 in
set_option maxHeartbeats 1600000 in
theorem write_any (K : Nat → Prop) (p x n : Nat) (bs : List Nat) (w : World) (hp : ¬ K p) (hK : ∀ k, K k → k < w.heap.size) (hw : Wr K w p bs) (hlen : bs.length ≤ 100000) (hx : x < 18446744073709551616) (hn : n ≤ 64) :
    Calls Tryz.prog 137 #[.pointer (some ⟨p, 0, none⟩), .int .u64 x, .int .i64 n] w fun e w' => e = .returned (.tuple #[]) ∧ Wr K w' p (bs ++ bitsN x n) ∧ Kept K w w' := by
  obtain ⟨i0, hi, hz0, hz1, hz2⟩ := info_parts infoO
  have HK := hide hK
  clear hK
  go_enter Tryz.func137, Tryz.ntmps137
  go_wp2_with fail
  go_loopw [6] (fun z wr => ∃ (k : Nat) (cs : List Nat), k ≤ n ∧ z = .int .i64 ((k : Int) - 1) ∧ Hid (cs ++ bitsN x k = bs ++ bitsN x n) ∧ Wr K wr p cs ∧ Kept K w wr) (fun z _ => (RowKit.intOf z + 1).toNat)
  case atStart => exact ⟨n, bs, Nat.le_refl _, by go_num, rfl, hw, Kept.refl _ _⟩
  case round =>
    clear hw
    obtain ⟨k, cs, hk, rfl, hI, hw, hkp⟩ := hrel
    cases k with
    | zero =>
      go_wp2_with fail
      go_end0
      have h := unhide hI
      rw [bitsN, List.append_nil] at h
      exact ⟨rfl, h ▸ hw, hkp⟩
    | succ j =>
      have hj : (((j + 1 : Nat) : Int) - 1) = (j : Int) := by omega
      rw [hj]
      obtain ⟨v, t, hh, hown, hg⟩ := hw
      have hcl : Hid (cs.length ≤ 100064) := by
        have := congrArg List.length (unhide hI)
        simp only [List.length_append, bitsN_length] at this; exact (by omega : cs.length ≤ 100064)
      obtain ⟨b, hb⟩ : ∃ b, b = x / 2 ^ j % 2 := ⟨_, rfl⟩
      have hI2 : Hid ((cs ++ [b]) ++ bitsN x j = bs ++ bitsN x n) := by
        have := unhide hI
        rw [bitsN, ← hb] at this
        show (cs ++ [b]) ++ bitsN x j = bs ++ bitsN x n
        rw [← this]; simp
      have HB := hide hb
      have e0 : bits BinOp.and IntKind.u64 ((x : Int) / 2 ^ j) 1 = (b : Int) := by
        rw [shr_nat, and1 _ (Nat.lt_of_le_of_lt (Nat.div_le_self _ _) hx), ← hb]
      have hb2 : b < 2 := by omega
      clear hb
      generalize hq : bval cs % 256 = q at hh
      have hq2 : q < 256 := by omega
      have HQ := hide hq
      have e1 : bits BinOp.or IntKind.u8 ((q : Int) * 2 % 256) (b : Int) = ((bval (cs ++ [b]) % 256 : Nat) : Int) := by
        rw [bval_snoc, ← or_bit _ _ hb2]
        congr 1; omega
      generalize hm : bval (cs ++ [b]) % 256 = m at e1
      have hm2 : m < 256 := by omega
      have HM := hide hm
      generalize hr : cs.length % 8 = r at hh
      have hr2 : r < 8 := by omega
      have HR := hide hr
      clear hq hm hr
      have c0 := cell_of_row wr p 0 _ t _ hh
      have c1 := cell_of_row wr p 1 _ t _ hh
      have c2 := cell_of_row wr p 2 _ t _ hh
      simp only [List.getElem?_toArray, List.getElem?_cons_zero, List.getElem?_cons_succ] at c0 c1 c2
      have f0 := frozen_of_row wr p 0 _ t hh
      have f1 := frozen_of_row wr p 1 _ t hh
      have f2 := frozen_of_row wr p 2 _ t hh
      have hh1 := heap_setCell_same wr p 1 _ t (.int .u8 (m : Int)) hh
      have hh2 := heap_setCell_same _ p 2 _ t (.int .i64 ((r : Int) + 1)) hh1
      have HH : Hid (((wr.setCell ⟨p, 1, none⟩ (.int .u8 (m : Int))).setCell ⟨p, 2, none⟩ (.int .i64 ((r : Int) + 1))).drew.heap[p]? = some (.cells #[v, .int .u8 (m : Int), .int .i64 ((r : Int) + 1)] t (0, 0))) := by
        show ((wr.setCell ⟨p, 1, none⟩ (.int .u8 (m : Int))).setCell ⟨p, 2, none⟩ (.int .i64 ((r : Int) + 1))).heap[p]? = _
        simpa using hh2
      clear hh hh1 hh2
      have hown1 : ((wr.setCell ⟨p, 1, none⟩ (.int .u8 (m : Int))).setCell ⟨p, 2, none⟩ (.int .i64 ((r : Int) + 1))).drew.ownsRow (p + 1) 5 1 v (octs cs).length ((octs cs).map encO) :=
        ownsRow_setCell_below (ownsRow_setCell_below hown (by simp) _) (by simp) _
      have hkp1 : Kept K w ((wr.setCell ⟨p, 1, none⟩ (.int .u8 (m : Int))).setCell ⟨p, 2, none⟩ (.int .i64 ((r : Int) + 1))).drew := ((hkp.setCell hp _).setCell hp _).drew
      have HO := hide hown1
      have HP := hide hkp1
      clear hown1 hkp1 hown hkp
      by_cases h8 : r + 1 = 8
      · have h8' : ((r : Int) + 1 == 8) = true := by rw [beq_iff_eq]; omega
        go_wp2_with fail
        go_region
        go_wp2_with fail
        generalize hW : ((wr.setCell ⟨p, 1, none⟩ (.int .u8 (m : Int))).setCell ⟨p, 2, none⟩ (.int .i64 ((r : Int) + 1))).drew = wq at *
        have hh := unhide HH
        clear c0 c1 c2 f0 f1 f2 hW HH
        have c0 := cell_of_row wq p 0 _ t _ hh
        have c1 := cell_of_row wq p 1 _ t _ hh
        have c2 := cell_of_row wq p 2 _ t _ hh
        simp only [List.getElem?_toArray, List.getElem?_cons_zero, List.getElem?_cons_succ] at c0 c1 c2
        have f0 := frozen_of_row wq p 0 _ t hh
        have f1 := frozen_of_row wq p 1 _ t hh
        have f2 := frozen_of_row wq p 2 _ t hh
        have hcl2 : (octs cs).length ≤ 100064 := by rw [octs_length]; have := unhide hcl; omega
        have hps : p < wq.heap.size := (Array.getElem?_eq_some_iff.1 hh).1
        go_region_law (refine step_append_own rfl (.tmp 43) (.tmp 48) 135 rfl (p + 1) 5 i0 (.int .u8 0) 1 1 Tryz.underlying135 hi hz0 hz1 hz2 rfl (by decide) v _ _ (by simp [Act.eval]) ((unhide HO).alloc _) ⟨wq.heap.size, 0, none⟩ 1 1 [encO m] (by simp [Act.eval]) rfl (cell_one_new _ _ _) (by simp; rfl) (by unfold maxLen; omega) (by omega) (by simp; omega) ?_; intro v' w1 hown' hgrow hat; obtain ⟨g', cp', rfl⟩ := own_form hown'; have hh1 : w1.heap[p]? = some (.cells #[v, .int .u8 (m : Int), .int .i64 ((r : Int) + 1)] t (0, 0)) := (hgrow.block p (by simp; omega) (fun e => by have := ((unhide HO).lt p e.symm).1; omega)).trans ((Below.heap_alloc _ _ p (by simpa using hps)).trans hh); have d0 := cell_of_row w1 p 0 _ t _ hh1; have d2 := cell_of_row w1 p 2 _ t _ hh1; simp only [List.getElem?_toArray, List.getElem?_cons_zero, List.getElem?_cons_succ] at d0 d2; have k0 := frozen_of_row w1 p 0 _ t hh1; have k2 := frozen_of_row w1 p 2 _ t hh1)
        all_goals
          clear c0 c1 c2 f0 f1 f2
          go_wp2_with fail
          go_roundw
          case rel =>
            have h1 := unhide HR
            have hu := heap_setCell_same w1 p 0 _ t (.slice (some ⟨g', 0, none⟩) ((octs cs).length + 1) cp') hh1
            have hu2 := heap_setCell_same _ p 2 _ t (.int .i64 0) hu
            have hbk : ∀ g, (Value.slice (some ⟨g', 0, none⟩) ((octs cs).length + 1) cp').ownBlock = some g → ¬ K g := by
              intro g hgg hkg
              rcases hat with e | e
              · exact hg g (e ▸ hgg) hkg
              · rw [e] at hgg
                cases hgg
                have h2 := unhide HK _ hkg
                have h3 := (unhide HP).size
                simp at h2
                omega
            refine ⟨j, cs ++ [b], by omega, rfl, hI2, ⟨_, t, ?_, ?_, hbk⟩, (((((unhide HP).alloc (unhide HK) _).drew).grown (unhide HK) hgrow (fun k hk => hg k hk)).setCell hp _).setCell hp _⟩
            · have e : (cs ++ [b]).length % 8 = 0 := by simp; omega
              rw [unhide HM, e]
              simpa using hu2
            · rw [octs_full cs b (by omega), unhide HM]
              refine ownsRow_setCell_below (ownsRow_setCell_below ?_ (by simp) _) (by simp) _
              simpa using hown'
          case measure => simp [RowKit.intOf]
      · have h8' : ((r : Int) + 1 == 8) = false := by rw [beq_eq_false_iff_ne]; omega
        go_wp2_with fail
        go_region
        go_wp2_with fail
        go_roundw
        case rel =>
          refine ⟨j, cs ++ [b], by omega, rfl, hI2, ⟨v, t, ?_, ?_, hg⟩, unhide HP⟩
          · have h1 := unhide HR
            have e : (cs ++ [b]).length % 8 = r + 1 := by simp; omega
            rw [unhide HM, e]
            exact unhide HH
          · have h1 := unhide HR
            rw [octs_snoc cs b (by omega)]
            exact unhide HO
        case measure => simp [RowKit.intOf]
end Go.Proofs.YtgekdmjneogdoaaGreatDoor
