import Derived.Test.YtgekdmjneogdoaaGreatDoorYChR6
import Derived.Test.YtgekdmjneogdoaaGreatDoorYChU1
namespace Go.Proofs.YtgekdmjneogdoaaGreatDoor
open Go.RowKit

/-- the variables of readSamples, and what lies below -/
structure Vars (w W : World) (a b : Nat) (v : Value) : Prop where
  va : Var W a v
  vb : Var W b (.bool false)
  kept : Kept (Under w) w W
  ab : a ≠ b
  na : w.heap.size ≤ a
  nb : w.heap.size ≤ b

theorem Vars.keep {w W W1 : World} {a b z q : Nat} {v : Value} (h : Vars w W a b v) (hz : w.heap.size ≤ z) (hq : w.heap.size ≤ q) (haz : a ≠ z) (haq : a ≠ q) (hbz : b ≠ z) (hbq : b ≠ q) (hk : Kept (But2 W z q) W W1) : Vars w W1 a b v :=
  ⟨h.va.kept (K := But2 W z q) ⟨h.va.cell.2.2, haz, haq⟩ hk, h.vb.kept (K := But2 W z q) ⟨h.vb.cell.2.2, hbz, hbq⟩ hk,
    h.kept.trans (hk.sub (fun k (h' : k < w.heap.size) => ⟨Nat.lt_of_lt_of_le h' h.kept.size, by omega, by omega⟩)), h.ab, h.na, h.nb⟩

theorem fix_but {w W : World} {z q : Nat} (hzq : z ≠ q) (hz : w.heap.size ≤ z) (hq : w.heap.size ≤ q) (hk : Kept (Under w) w W) (hG : GK (Under w)) : FixR (But2 W z q) W z q := by
  have h1 : 1 < w.heap.size := hG.1
  have h2 : 9 < w.heap.size := hG.2
  have h3 := hk.size
  exact ⟨hzq, fun h => h.2.1 rfl, fun h => h.2.2 rfl, fun k h => h.1, ⟨⟨by omega, by omega, by omega⟩, ⟨by omega, by omega, by omega⟩⟩⟩

theorem seen_start {w W W1 : World} {a b z : Nat} {s : ByteArray} {v : Value} {pos : Nat} (L : Laid w W a b z s) (hk : Kept (Under w) w W1) (va : Var W1 a v) (vb : Var W1 b (.bool false)) (hr : RdrAt W1 z s pos) (hp : pos ≤ 8 * s.size) (hT : CTabs w) (hG : GK (Under w)) (ty : TypeId) :
    let W2 := W1.alloc (.cells #[.int .i64 0, .int .u64 0, .int .i64 0, .int .i64 0, .int .i64 0] ty)
    RS (But2 W2 z W1.heap.size) W2 W2 z W1.heap.size s pos ⟨0, 0, 0, 0, 0⟩ ∧ Vars w W2 a b v ∧ FixR (But2 W2 z W1.heap.size) W2 z W1.heap.size := by
  intro W2
  have hzl := hr.size
  have hk2 : Kept (Under w) w W2 := hk.alloc (fun _ h => h) _
  have hz := L.nz
  have hs := hk.size
  refine ⟨⟨?_, ⟨ty, heap_alloc_new W1 _⟩, Kept.refl _ _, hT.kept hG hk2, hp⟩, ⟨va.alloc _, vb.alloc _, hk2, L.ab, L.na, L.nb⟩, fix_but (by omega) hz hs hk2 hG⟩
  obtain ⟨t3, h3⟩ := hr
  exact ⟨t3, (Below.heap_alloc W1 _ z hzl).trans h3⟩

theorem RS.setT {K : Nat → Prop} {w w1 : World} {z q pos : Nat} {s : ByteArray} {t : Tr} (h : RS K w w1 z q s pos t) (F : FixR K w z q) (T : Int) :
    RS K w (w1.setCell ⟨q, 0, none⟩ (.int .i64 T)) z q s pos { t with T := T } := by
  have h3 : Kept K w1 (w1.setCell ⟨q, 0, none⟩ (.int .i64 T)) := (Kept.refl K w1).setCell F.nq _
  obtain ⟨ty, h1⟩ := h.rdr
  obtain ⟨ty2, h2⟩ := h.tr
  refine ⟨⟨ty, ?_⟩, ⟨ty2, ?_⟩, h.kept.trans h3, h.tabs.kept F.G h3, h.pos⟩
  · rw [Below.heap_setCell _ _ _ _ F.zq]; exact h1
  · have e1 := heap_setCell_same w1 q 0 _ ty2 (.int .i64 T) h2
    simpa using e1

set_option maxRecDepth 20000 in
set_option maxHeartbeats 1600000 in
theorem samples_badT (s : ByteArray) (w : World) (n : Nat) (hs : 0 + 16 ≤ 8 * s.size) (hn : bval ((bitsOf s 0).take 16) = n) (h1 : 1 ≤ n) (h40 : n ≤ 40) (hT : CTabs w) (hG : GK (Under w)) (hl : 8 * s.size < 0 + 16 + 64) :
    Calls Tryz.prog 51 #[.string s] w fun e w' => e = .returned (.tuple #[.slice none 0 0, .bool false]) ∧ Below w.heap.size w w' := by
  have hmf : ∀ (fn : Fn) (first cap : Array Value) (w : World), (Instr.makeFunc fn first cap).run Tryz.prog w = .ok (.func fn first cap) w := fun _ _ _ _ => rfl
  have HL := hide (laid s w)
  go_enter_defers Tryz.func51, Tryz.ntmps51
  go_wp2_with fail
  have L := unhide HL 37 4 143
  generalize (((w.alloc (.cells #[.slice none 0 0] 37)).alloc (.cells #[.bool false] 4)).alloc (.cells #[.string s, .int .i64 0] 143)) = W at *
  clear HL
  have HR := read_ok (But2 W (w.heap.size + 1 + 1) (w.heap.size + 1 + 1)) (w.heap.size + 1 + 1) 0 16 s W (fun h => h.2.1 rfl) L.rdr hs (by omega) (by omega)
  rw [show ((cbits (natsOf s)).drop 0) = bitsOf s 0 from rfl, hn] at HR
  refine HR.mono ?_
  clear HR
  rintro e W1 ⟨rfl, hr, hk⟩
  have hu := L.under L.nz hk
  have va := L.va.kept (K := But2 W (w.heap.size + 1 + 1) (w.heap.size + 1 + 1)) ⟨L.va.cell.2.2, L.az, L.az⟩ hk
  have vb := L.vb.kept (K := But2 W (w.heap.size + 1 + 1) (w.heap.size + 1 + 1)) ⟨L.vb.cell.2.2, L.bz, L.bz⟩ hk
  obtain ⟨ca, fa, sa⟩ := va.cell
  obtain ⟨cb, fb, sb⟩ := vb.cell
  have HH := hide hr
  have HK := hide hu
  have HVa := hide va
  have HVb := hide vb
  have hn16 : n < 65536 := by
    have := take_lt (natsOf s) 0 16
    rw [show ((cbits (natsOf s)).drop 0) = bitsOf s 0 from rfl, hn] at this; simpa using this
  have HN := hide hn
  have HLd := hide L
  have hab := L.ab
  clear L hr hu va vb hk hn
  have h41 : ¬ (40 : Int) < n := by omega
  have h10 : ((n : Int) == 0) = false := by rw [beq_eq_false_iff_ne]; omega
  have HRS := hide (seen_start (unhide HLd) (unhide HK) (unhide HVa) (unhide HVb) (unhide HH) (by omega) hT hG)
  have HTc := hide hT
  clear hT
  have hz3 := (unhide HH).size
  go_wp2_with fail
  obtain ⟨hrs, hvs, hfx⟩ := unhide HRS 147
  have hq3 : w.heap.size + 1 + 1 < W1.heap.size := hz3
  generalize hW2 : W1.alloc (.cells #[.int .i64 0, .int .u64 0, .int .i64 0, .int .i64 0, .int .i64 0] 147) = W2 at *
  obtain ⟨q, hq⟩ : ∃ q, q = W1.heap.size := ⟨_, rfl⟩
  rw [← hq] at hrs hfx hq3 ⊢
  clear HRS hW2 ca cb fa fb sa sb HVa HVb HH HK hz3 hq
  refine (hrs.readBad hfx 64 (by omega) (by omega) hl).mono ?_
  rintro e W3 ⟨rfl, hk3⟩
  have hv3 := hvs.keep (z := w.heap.size + 1 + 1) (q := q) (by omega) (by omega) (by omega) (by omega) (by omega) (by omega) hk3
  clear hrs hvs hfx
  go_wp2_with fail
  refine leaves_cons (f := 82) (args := #[.pointer (some ⟨w.heap.size, 0, none⟩), .pointer (some ⟨w.heap.size + 1, 0, none⟩)]) (by simp) (by simp [go_sem]) ?_
  refine (catch_few _ _ _ _ [] W3 hv3.va.cell.1 hv3.vb.cell.1 hv3.va.cell.2.1 hv3.vb.cell.2.1 hv3.ab).mono ?_
  rintro e u' w2 ⟨rfl, rfl, o, rfl⟩
  obtain ⟨g1, g2, g3⟩ := few_end hv3.va hv3.vb hv3.ab hv3.na hv3.nb hv3.kept o
  generalize ((W3.setCell ⟨w.heap.size, 0, none⟩ (.slice none 0 0)).setCell ⟨w.heap.size + 1, 0, none⟩ (.bool false)).alloc o = Wx at *
  exact ⟨.tuple #[.slice none 0 0, .bool false], by simp [results, Tryz.results51, go_sem, g1, g2], rfl, g3⟩

set_option maxRecDepth 20000 in
set_option maxHeartbeats 1600000 in
theorem samples_badV (s : ByteArray) (w : World) (n : Nat) (hs : 0 + 16 ≤ 8 * s.size) (hn : bval ((bitsOf s 0).take 16) = n) (h1 : 1 ≤ n) (h40 : n ≤ 40) (hT : CTabs w) (hG : GK (Under w)) (x : Nat) (hlT : 0 + 16 + 64 ≤ 8 * s.size) (hx : bval ((bitsOf s (0 + 16)).take 64) = x) (hl : 8 * s.size < 0 + 16 + 64 + 64) :
    Calls Tryz.prog 51 #[.string s] w fun e w' => e = .returned (.tuple #[.slice none 0 0, .bool false]) ∧ Below w.heap.size w w' := by
  have hmf : ∀ (fn : Fn) (first cap : Array Value) (w : World), (Instr.makeFunc fn first cap).run Tryz.prog w = .ok (.func fn first cap) w := fun _ _ _ _ => rfl
  have HL := hide (laid s w)
  go_enter_defers Tryz.func51, Tryz.ntmps51
  go_wp2_with fail
  have L := unhide HL 37 4 143
  generalize (((w.alloc (.cells #[.slice none 0 0] 37)).alloc (.cells #[.bool false] 4)).alloc (.cells #[.string s, .int .i64 0] 143)) = W at *
  clear HL
  have HR := read_ok (But2 W (w.heap.size + 1 + 1) (w.heap.size + 1 + 1)) (w.heap.size + 1 + 1) 0 16 s W (fun h => h.2.1 rfl) L.rdr hs (by omega) (by omega)
  rw [show ((cbits (natsOf s)).drop 0) = bitsOf s 0 from rfl, hn] at HR
  refine HR.mono ?_
  clear HR
  rintro e W1 ⟨rfl, hr, hk⟩
  have hu := L.under L.nz hk
  have va := L.va.kept (K := But2 W (w.heap.size + 1 + 1) (w.heap.size + 1 + 1)) ⟨L.va.cell.2.2, L.az, L.az⟩ hk
  have vb := L.vb.kept (K := But2 W (w.heap.size + 1 + 1) (w.heap.size + 1 + 1)) ⟨L.vb.cell.2.2, L.bz, L.bz⟩ hk
  obtain ⟨ca, fa, sa⟩ := va.cell
  obtain ⟨cb, fb, sb⟩ := vb.cell
  have HH := hide hr
  have HK := hide hu
  have HVa := hide va
  have HVb := hide vb
  have hn16 : n < 65536 := by
    have := take_lt (natsOf s) 0 16
    rw [show ((cbits (natsOf s)).drop 0) = bitsOf s 0 from rfl, hn] at this; simpa using this
  have HN := hide hn
  have HLd := hide L
  have hab := L.ab
  clear L hr hu va vb hk hn
  have h41 : ¬ (40 : Int) < n := by omega
  have h10 : ((n : Int) == 0) = false := by rw [beq_eq_false_iff_ne]; omega
  have HRS := hide (seen_start (unhide HLd) (unhide HK) (unhide HVa) (unhide HVb) (unhide HH) (by omega) hT hG)
  have HTc := hide hT
  clear hT
  have hz3 := (unhide HH).size
  go_wp2_with fail
  obtain ⟨hrs, hvs, hfx⟩ := unhide HRS 147
  have hq3 : w.heap.size + 1 + 1 < W1.heap.size := hz3
  generalize hW2 : W1.alloc (.cells #[.int .i64 0, .int .u64 0, .int .i64 0, .int .i64 0, .int .i64 0] 147) = W2 at *
  obtain ⟨q, hq⟩ : ∃ q, q = W1.heap.size := ⟨_, rfl⟩
  rw [← hq] at hrs hfx hq3 ⊢
  clear HRS hW2 ca cb fa fb sa sb HVa HVb HH HK hz3 hq
  have HRT := hrs.readOk hfx 64 (by omega) (by omega) hlT
  rw [hx] at HRT
  refine HRT.mono ?_
  clear HRT
  rintro e W3 ⟨rfl, hR3⟩
  have hv3 := hvs.keep (z := w.heap.size + 1 + 1) (q := q) (by omega) (by omega) (by omega) (by omega) (by omega) (by omega) hR3.kept
  have hR4 := hR3.setT hfx (wI x)
  have eT : IntKind.i64.wrap (x : Int) = wI x := by rw [IntKind.wrap_i64, wI]
  have eT2 : wrap64 (x : Int) = wI x := by rw [wrap64, wI]
  obtain ⟨T, hTe⟩ : ∃ T, wI (x : Int) = T := ⟨_, rfl⟩
  rw [hTe] at eT eT2 hR4
  have HTe := hide hTe
  obtain ⟨⟨c0, _, _, _, _⟩, hfz, _⟩ := hR3.tr.cells
  have f0 := hfz 0
  have H4 := hide hR4
  have HFx := hide hfx
  have HV3 := hide hv3
  have HVS := hide hvs
  clear hR4 hTe hfz hR3 hv3 hrs hvs hfx hx
  go_wp2_with fail
  refine ((unhide H4).readBad (unhide HFx) 64 (by omega) (by omega) hl).mono ?_
  rintro e W5 ⟨rfl, hk5⟩
  have hv5 := (unhide HVS).keep (z := w.heap.size + 1 + 1) (q := q) (by omega) (by omega) (by omega) (by omega) (by omega) (by omega) hk5
  go_wp2_with fail
  refine leaves_cons (f := 82) (args := #[.pointer (some ⟨w.heap.size, 0, none⟩), .pointer (some ⟨w.heap.size + 1, 0, none⟩)]) (by simp) (by simp [go_sem]) ?_
  refine (catch_few _ _ _ _ [] W5 hv5.va.cell.1 hv5.vb.cell.1 hv5.va.cell.2.1 hv5.vb.cell.2.1 hv5.ab).mono ?_
  rintro e u' w2 ⟨rfl, rfl, o, rfl⟩
  obtain ⟨g1, g2, g3⟩ := few_end hv5.va hv5.vb hv5.ab hv5.na hv5.nb hv5.kept o
  generalize ((W5.setCell ⟨w.heap.size, 0, none⟩ (.slice none 0 0)).setCell ⟨w.heap.size + 1, 0, none⟩ (.bool false)).alloc o = Wx at *
  exact ⟨.tuple #[.slice none 0 0, .bool false], by simp [results, Tryz.results51, go_sem, g1, g2], rfl, g3⟩
end Go.Proofs.YtgekdmjneogdoaaGreatDoor

namespace Go.Proofs.YtgekdmjneogdoaaGreatDoor
open Go.RowKit

theorem infoS : (Tryz.prog.info? 39).map (fun i => (i.zero, i.size, i.bytes)) = some (some (.agg #[.int .i64 0, .int .u64 0]), 2, 16) := by kernel_rfl

theorem cell_two_new (w : World) (x y : Value) (t : TypeId) : ∀ j u, [x, y][j]? = some u → (w.alloc (.cells #[x, y] t)).cell? ((⟨w.heap.size, 0, none⟩ : Addr).add j) = some u := by
  intro j u hj
  have hh := heap_alloc_new w (.cells #[x, y] t)
  match j, hj with
  | 0, hj =>
    simp at hj
    subst hj
    rw [show (⟨w.heap.size, 0, none⟩ : Addr).add 0 = ⟨w.heap.size, 0, none⟩ by simp [Addr.add], cell_of_row _ _ 0 _ t _ hh]; rfl
  | 1, hj =>
    simp at hj
    subst hj
    rw [show (⟨w.heap.size, 0, none⟩ : Addr).add 1 = ⟨w.heap.size, 1, none⟩ by simp [Addr.add], cell_of_row _ _ 1 _ t _ hh]; rfl

theorem Var.grown {w w' : World} {a : Nat} {v : Value} {row : Option Nat} (h : Var w a v) (hg : w.grownBy w' row) (hr : some a ≠ row) : Var w' a v := by
  have hl := h.cell.2.2
  obtain ⟨ty, hh⟩ := h
  exact ⟨ty, (hg.block a hl hr).trans hh⟩

theorem cell_two_at (w : World) (x y : Value) (t : TypeId) (n : Nat) (hn : n = w.heap.size) : ∀ j u, [x, y][j]? = some u → (w.alloc (.cells #[x, y] t)).cell? ((⟨n, 0, none⟩ : Addr).add j) = some u := by
  subst hn; exact cell_two_new w x y t

/-- a list of samples, cell by cell -/
def flat (l : List Smp) : List Value := l.flatMap fun x => [.int .i64 x.1, .int .u64 x.2]

theorem flat_snoc (l : List Smp) (x : Smp) : flat (l ++ [x]) = flat l ++ [.int .i64 x.1, .int .u64 x.2] := by simp [flat]

theorem RS.self {K : Nat → Prop} {w wr : World} {z q pos : Nat} {s : ByteArray} {t : Tr} (h : RS K w wr z q s pos t) : RS (But2 wr z q) wr wr z q s pos t := ⟨h.rdr, h.tr, Kept.refl _ _, h.tabs, h.pos⟩

theorem own_kept {wr w' : World} {z q n : Nat} {e : TypeId} {v : Value} {xs : List Value} (h : wr.ownsRow (q + 1) e 2 v n xs) (hk : Kept (But2 wr z q) wr w') (hz : z < q) : w'.ownsRow (q + 1) e 2 v n xs := by
  refine ⟨h.1, ?_⟩
  rcases h.2 with hn | ⟨g, cap, cur, hv, hb, hg, rest⟩
  · exact .inl hn
  · refine .inr ⟨g, cap, cur, hv, hb, ?_, rest⟩
    rw [hk.block g ⟨(Array.getElem?_eq_some_iff.1 hg).1, by omega, by omega⟩]
    exact hg

theorem own_base {w : World} {b b' n : Nat} {e : TypeId} {v : Value} {xs : List Value} (h : w.ownsRow b e 2 v n xs) (hb : b' ≤ b) : w.ownsRow b' e 2 v n xs := by
  refine ⟨h.1, ?_⟩
  rcases h.2 with hn | ⟨g, cap, cur, hv, h1, rest⟩
  · exact .inl hn
  · exact .inr ⟨g, cap, cur, hv, by omega, rest⟩

theorem app_step {w wr W8 : World} {a b z q pos : Nat} {s : ByteArray} {t : Tr} {v v' : Value} {o : Obj} {K : Nat → Prop} {w0 : World} (hR : RS K w0 wr z q s pos t) (hv : Vars w wr a b v) (hg : (wr.alloc o).grownBy W8 v.ownBlock) (hb : ∀ g, v.ownBlock = some g → q + 1 ≤ g)
    (haq : a < q) (hbq : b < q) (hzq : z < q) (haz : a ≠ z) (hT : CTabs w) (hG : GK (Under w)) :
    RS (But2 (W8.setCell ⟨a, 0, none⟩ v') z q) (W8.setCell ⟨a, 0, none⟩ v') (W8.setCell ⟨a, 0, none⟩ v') z q s pos t ∧ Vars w (W8.setCell ⟨a, 0, none⟩ v') a b v' := by
  have hq := hR.tr.cells.2.2
  have hk : Kept (fun k => k < q + 1) wr W8 := ((Kept.refl _ wr).alloc (fun k (h : k < q + 1) => by omega) o).grown (fun k (h : k < q + 1) => by omega) hg (fun k hk h => by have := hb k hk; omega)
  have hsz := hv.kept.size
  have na := hv.na
  have hu : Kept (Under w) w W8 := hv.kept.trans (hk.sub (fun k (h : k < w.heap.size) => by show k < q + 1; omega))
  have hu9 : Kept (Under w) w (W8.setCell ⟨a, 0, none⟩ v') := hu.setCell (a := ⟨a, 0, none⟩) (by show ¬ a < w.heap.size; omega) _
  have va := (hv.va.kept (K := fun k => k < q + 1) (by omega) hk).set v'
  have vb := (hv.vb.kept (K := fun k => k < q + 1) (by omega) hk).other (p := ⟨a, 0, none⟩) (fun e => hv.ab e.symm) v'
  have rd := hR.rdr.kept (K := fun k => k < q + 1) (by omega) hk
  obtain ⟨ty, h1⟩ := rd
  obtain ⟨ty2, h2⟩ := hR.tr
  refine ⟨⟨⟨ty, ?_⟩, ⟨ty2, ?_⟩, Kept.refl _ _, hT.kept hG hu9, hR.pos⟩, ⟨va, vb, hu9, hv.ab, hv.na, hv.nb⟩⟩
  · rw [Below.heap_setCell _ _ _ _ (by show z ≠ a; omega)]; exact h1
  · rw [Below.heap_setCell _ _ _ _ (by show q ≠ a; omega)]
    exact (hk.block q (by omega)).trans h2

theorem rdTime_lm {t : Tr} {B : List Nat} {x : Tr × List Nat} (h : rdTime t B = some x) : x.1.L = t.L ∧ x.1.M = t.M ∧ x.1.V = t.V := by
  rw [rdTime] at h
  obtain ⟨k, _, h2⟩ := Option.bind_eq_some_iff.1 h
  obtain ⟨y, _, h3⟩ := Option.bind_eq_some_iff.1 h2
  cases h3
  exact ⟨rfl, rfl, rfl⟩

theorem bind_snoc (o : Option (List Smp)) (x : Smp) (l : List Smp) : ((o.bind fun m => some (x :: m)).bind fun r => some (l ++ r)) = o.bind fun r => some ((l ++ [x]) ++ r) := by
  cases o <;> simp

theorem row_lt {w : World} {base : Nat} {e : TypeId} {v : Value} {n : Nat} {xs : List Value} (h : w.ownsRow base e 2 v n xs) : ∀ g, v.ownBlock = some g → base ≤ g := fun g hg => (h.lt g hg).1

set_option maxRecDepth 20000 in
set_option maxHeartbeats 1600000 in
theorem samples_main (s : ByteArray) (w : World) (n : Nat) (hs : 0 + 16 ≤ 8 * s.size) (hn : bval ((bitsOf s 0).take 16) = n) (h1 : 1 ≤ n) (h40 : n ≤ 40) (hT : CTabs w) (hG : GK (Under w)) (x : Nat) (hlT : 0 + 16 + 64 ≤ 8 * s.size) (hx : bval ((bitsOf s (0 + 16)).take 64) = x) (V : Nat) (hlV : 0 + 16 + 64 + 64 ≤ 8 * s.size) (hy : bval ((bitsOf s (0 + 16 + 64)).take 64) = V) :
    Calls Tryz.prog 51 #[.string s] w fun e w' => (∃ l v, readN (bitsOf s 0) = some l ∧ e = .returned (.tuple #[v, .bool true]) ∧ w'.ownsRow w.heap.size 39 2 v l.length (flat l) ∧ Below w.heap.size w w') ∨ (readN (bitsOf s 0) = none ∧ e = .returned (.tuple #[.slice none 0 0, .bool false]) ∧ Below w.heap.size w w') := by
  have hV64 : V < 18446744073709551616 := hy ▸ take64 s (0 + 16 + 64) 64 (by omega)
  have HSP : Hid (readN (bitsOf s 0) = (rdRest (n - 1) ⟨wI x, V, 0, 0, 0⟩ (bitsOf s (0 + 16 + 64 + 64))).bind fun r => some ([(wI (x : Int), V)] ++ r)) := by
    show readN (bitsOf s 0) = _
    rw [readN, rdL_some s 0 16 hs, Option.bind_some, hn]
    simp only
    rw [if_neg (by omega), if_neg (by omega), rdL_some s (0 + 16) 64 hlT, Option.bind_some, hx, rdL_some s (0 + 16 + 64) 64 hlV, Option.bind_some, hy]
    rfl
  have hmf : ∀ (fn : Fn) (first cap : Array Value) (w : World), (Instr.makeFunc fn first cap).run Tryz.prog w = .ok (.func fn first cap) w := fun _ _ _ _ => rfl
  have HL := hide (laid s w)
  go_enter_defers Tryz.func51, Tryz.ntmps51
  go_wp2_with fail
  have L := unhide HL 37 4 143
  generalize (((w.alloc (.cells #[.slice none 0 0] 37)).alloc (.cells #[.bool false] 4)).alloc (.cells #[.string s, .int .i64 0] 143)) = W at *
  clear HL
  have HR := read_ok (But2 W (w.heap.size + 1 + 1) (w.heap.size + 1 + 1)) (w.heap.size + 1 + 1) 0 16 s W (fun h => h.2.1 rfl) L.rdr hs (by omega) (by omega)
  rw [show ((cbits (natsOf s)).drop 0) = bitsOf s 0 from rfl, hn] at HR
  refine HR.mono ?_
  clear HR
  rintro e W1 ⟨rfl, hr, hk⟩
  have hu := L.under L.nz hk
  have va := L.va.kept (K := But2 W (w.heap.size + 1 + 1) (w.heap.size + 1 + 1)) ⟨L.va.cell.2.2, L.az, L.az⟩ hk
  have vb := L.vb.kept (K := But2 W (w.heap.size + 1 + 1) (w.heap.size + 1 + 1)) ⟨L.vb.cell.2.2, L.bz, L.bz⟩ hk
  obtain ⟨ca, fa, sa⟩ := va.cell
  obtain ⟨cb, fb, sb⟩ := vb.cell
  have HH := hide hr
  have HK := hide hu
  have HVa := hide va
  have HVb := hide vb
  have hn16 : n < 65536 := by
    have := take_lt (natsOf s) 0 16
    rw [show ((cbits (natsOf s)).drop 0) = bitsOf s 0 from rfl, hn] at this; simpa using this
  have HN := hide hn
  have HLd := hide L
  have hab := L.ab
  clear L hr hu va vb hk hn
  have h41 : ¬ (40 : Int) < n := by omega
  have h10 : ((n : Int) == 0) = false := by rw [beq_eq_false_iff_ne]; omega
  have HRS := hide (seen_start (unhide HLd) (unhide HK) (unhide HVa) (unhide HVb) (unhide HH) (by omega) hT hG)
  have HTc := hide hT
  clear hT
  have hz3 := (unhide HH).size
  go_wp2_with fail
  obtain ⟨hrs, hvs, hfx⟩ := unhide HRS 147
  have hq3 : w.heap.size + 1 + 1 < W1.heap.size := hz3
  generalize hW2 : W1.alloc (.cells #[.int .i64 0, .int .u64 0, .int .i64 0, .int .i64 0, .int .i64 0] 147) = W2 at *
  obtain ⟨q, hq⟩ : ∃ q, q = W1.heap.size := ⟨_, rfl⟩
  rw [← hq] at hrs hfx hq3 ⊢
  clear HRS hW2 ca cb fa fb sa sb HVa HVb HH HK hz3 hq
  have HRT := hrs.readOk hfx 64 (by omega) (by omega) hlT
  rw [hx] at HRT
  refine HRT.mono ?_
  clear HRT
  rintro e W3 ⟨rfl, hR3⟩
  have hv3 := hvs.keep (z := w.heap.size + 1 + 1) (q := q) (by omega) (by omega) (by omega) (by omega) (by omega) (by omega) hR3.kept
  have hR4 := hR3.setT hfx (wI x)
  have eT : IntKind.i64.wrap (x : Int) = wI x := by rw [IntKind.wrap_i64, wI]
  have eT2 : wrap64 (x : Int) = wI x := by rw [wrap64, wI]
  obtain ⟨T, hTe⟩ : ∃ T, wI (x : Int) = T := ⟨_, rfl⟩
  rw [hTe] at eT eT2 hR4 HSP
  have HTe := hide hTe
  obtain ⟨⟨c0, _, _, _, _⟩, hfz, _⟩ := hR3.tr.cells
  have f0 := hfz 0
  have H4 := hide hR4
  have HFx := hide hfx
  have HVS := hide hvs
  clear hR4 hTe hfz hR3 hv3 hrs hvs hfx hx
  go_wp2_with fail
  have HRV := (unhide H4).readOk (unhide HFx) 64 (by omega) (by omega) hlV
  rw [hy] at HRV
  refine HRV.mono ?_
  clear HRV
  rintro e W5 ⟨rfl, hR5⟩
  have hR6 := hR5.setV (unhide HFx) V
  have hv6 := (unhide HVS).keep (z := w.heap.size + 1 + 1) (q := q) (by omega) (by omega) (by omega) (by omega) (by omega) (by omega) hR6.kept
  obtain ⟨⟨c0', c1, _, _, _⟩, hfz, hqs⟩ := hR5.tr.cells
  have f1 := hfz 1
  have H6 := hide hR6
  have HV6 := hide hv6
  clear hfz hR5 hR6 hv6 H4 hy c0 f0
  simp only at c0'
  have HW7 : Hid (∃ W7, W5.setCell ⟨q, 1, none⟩ (.int .u64 V) = W7) := ⟨_, rfl⟩
  obtain ⟨i0, hi, hz0, hz1, hz2⟩ := info_parts infoS
  have hvc := (unhide HV6).va.cell
  obtain ⟨ca, fa, sa⟩ := hvc
  have d0 := (unhide H6).tr.cells.1.1
  have d1 := (unhide H6).tr.cells.1.2.1
  have hqs6 := (unhide H6).tr.cells.2.2
  simp only at d0 d1
  go_wp2_with (at_builtin; go_loud (refine wpList_append_own_at _ rfl _ _ 37 rfl (q + 1) 39 i0 (.agg #[.int .i64 0, .int .u64 0]) 2 16 Tryz.underlying37 hi hz0 hz1 hz2 rfl (by decide) (.slice none 0 0) 0 [] rfl (World.ownsRow_nil _ _ _ _) ⟨W5.heap.size, 0, none⟩ 1 1 [.int .i64 T, .int .u64 V] rfl rfl (cell_two_at _ _ _ _ _ (by simp)) (by intro u hu; simp at hu; rcases hu with rfl | rfl <;> rfl) (by unfold maxLen; omega) (by omega) (by simp; omega) ?_); intro v1 W8 hown hgrow _ hat; obtain ⟨g8, cp8, rfl⟩ := own_form hown; have hva8 := ((unhide HV6).va.alloc (.cells #[.int .i64 T, .int .u64 V] 39)).grown hgrow (by simp [Value.ownBlock]); have ca8 := hva8.cell.1; have fa8 := hva8.cell.2.1)
  have hstep := app_step (v' := .slice (some ⟨g8, 0, none⟩) (0 + 1) cp8) (unhide H6) (unhide HV6) hgrow (fun g hg => by cases hg) (by omega) (by omega) (by omega) (by omega) (unhide HTc) hG
  have hown9 : (W8.setCell ⟨w.heap.size, 0, none⟩ (.slice (some ⟨g8, 0, none⟩) (0 + 1) cp8)).ownsRow (q + 1) 39 2 (.slice (some ⟨g8, 0, none⟩) (0 + 1) cp8) (0 + 1) (flat [(T, V)]) := ownsRow_setCell_below (by simpa [flat] using hown) (by show w.heap.size < q + 1; omega) _
  have hspec : readN (bitsOf s 0) = (rdRest (n - 1) ⟨T, V, 0, 0, 0⟩ (bitsOf s (0 + 16 + 64 + 64))).bind fun r => some ([(T, V)] ++ r) := unhide HSP
  have HS9 := hide hstep.1
  have HV9 := hide hstep.2
  have HO9 := hide hown9
  have HSp := hide hspec
  have hVlt : V < 18446744073709551616 := hV64
  clear hstep hown9 hspec hown hgrow hat hva8 ca8 fa8 H6 HV6 ca fa sa d0 d1 hqs6 c0' c1 f1 hqs HW7 HVS HFx
  go_loopw [30] (fun y wr => ∃ (j pos : Nat) (t : Tr) (v : Value) (l : List Smp), j ≤ n - 1 ∧ y = .int .i64 j ∧ pos ≤ 144 + 145 * j ∧ t.L + t.M ≤ 64 ∧ t.V < 18446744073709551616 ∧ l.length = j + 1 ∧
    Hid (readN (bitsOf s 0) = (rdRest (n - 1 - j) t (bitsOf s pos)).bind fun r => some (l ++ r)) ∧ Hid (RS (But2 wr (w.heap.size + 1 + 1) q) wr wr (w.heap.size + 1 + 1) q s pos t) ∧ Hid (Vars w wr w.heap.size (w.heap.size + 1) v) ∧ Hid (wr.ownsRow (q + 1) 39 2 v l.length (flat l))) (fun y _ => n - 1 - (RowKit.intOf y).toNat)
  case atStart => exact ⟨0, 144, _, _, [(T, V)], by omega, rfl, by omega, by simp, hVlt, rfl, HSp, HS9, HV9, HO9⟩
  case round =>
    clear HS9 HV9 HO9 HSp
    obtain ⟨j, pos, t, v, l, hj, rfl, hpos, hLM, hVt, hll, hI, hS, hVs, hO⟩ := hrel
    have hfx := fix_but (w := w) (z := w.heap.size + 1 + 1) (q := q) (by omega) (by omega) (by omega) (unhide hVs).kept hG
    by_cases hjn : j < n - 1
    · have hjn2 : (j : Int) < (n : Int) - 1 := by omega
      have hrr : rdRest (n - 1 - j) t (bitsOf s pos) = (rdSmp t (bitsOf s pos)).bind fun r => (rdRest (n - 1 - (j + 1)) r.1 r.2).bind fun m => some ((r.1.T, r.1.V) :: m) := by
        rw [show n - 1 - j = (n - 1 - (j + 1)) + 1 by omega, rdRest]
      have HRR := hide hrr
      have HFx := hide hfx
      clear hrr hfx
      have HTm := hide ((unhide hS).time (unhide HFx) (by omega))
      go_wp2_with fail
      refine (unhide HTm).mono ?_
      rintro e w3 (⟨t1, pos1, hsp, hps, rfl, hS3⟩ | ⟨hsp, rfl, hk3⟩)
      · have hv3 := (unhide hVs).keep (z := w.heap.size + 1 + 1) (q := q) (by omega) (by omega) (by omega) (by omega) (by omega) (by omega) hS3.kept
        have ho3 := own_kept (unhide hO) hS3.kept (by omega)
        have hfx3 := fix_but (w := w) (z := w.heap.size + 1 + 1) (q := q) (by omega) (by omega) (by omega) hv3.kept hG
        have hLM1 : t1.L + t1.M ≤ 64 ∧ t1.V < 18446744073709551616 := by
          have h9 := rdTime_lm hsp
          simp only at h9
          omega
        have HTv := hide (hS3.self.value hfx3 (by omega) hLM1.1 hLM1.2)
        have HV3 := hide hv3
        have HO3 := hide ho3
        have HSp := hide hsp
        clear hS3 hv3 ho3 hfx3 hsp HTm hS hVs hO HFx
        go_wp2_with fail
        refine (unhide HTv).mono ?_
        rintro e w4 (⟨t2, pos2, hsv, hpv, ⟨hL2, hV2, hTT, hSS⟩, rfl, hS4⟩ | ⟨hsv, rfl, hk4⟩)
        · clear hTT hSS
          have hv4 := (unhide HV3).keep (z := w.heap.size + 1 + 1) (q := q) (by omega) (by omega) (by omega) (by omega) (by omega) (by omega) hS4.kept
          have ho4 := own_kept (unhide HO3) hS4.kept (by omega)
          obtain ⟨g4, cp4, hvf⟩ : ∃ g4 cp4, v = .slice (some ⟨g4, 0, none⟩) (j + 1) cp4 := by
            rw [hll] at ho4
            exact own_form ho4
          subst hvf
          obtain ⟨ca, fa, sa⟩ := hv4.va.cell
          obtain ⟨⟨d0, d1, _, _, _⟩, _, hqs4⟩ := hS4.tr.cells
          have H4 := hide hS4
          have HV4 := hide hv4
          have HSv := hide hsv
          have hb4 := row_lt ho4
          have HB4 := hide hb4
          have HLL := hide hll
          clear hS4 hv4 hsv HV3 HO3 HTv hb4
          go_wp2_with (at_builtin; go_loud (refine wpList_append_own_at _ rfl _ _ 37 rfl (q + 1) 39 i0 (.agg #[.int .i64 0, .int .u64 0]) 2 16 Tryz.underlying37 hi hz0 hz1 hz2 rfl (by decide) (.slice (some ⟨g4, 0, none⟩) (j + 1) cp4) l.length (flat l) rfl (ho4.alloc _) ⟨w4.heap.size, 0, none⟩ 1 1 [.int .i64 t2.T, .int .u64 t2.V] rfl rfl (cell_two_at _ _ _ _ _ rfl) (by intro u hu; simp at hu; rcases hu with rfl | rfl <;> rfl) (by unfold maxLen; omega) (by omega) (by simp; omega) ?_); intro v1 W8 hown hgrow _ hat; obtain ⟨g8, cp8, rfl⟩ := own_form hown; have hva8 := ((unhide HV4).va.alloc (.cells #[.int .i64 t2.T, .int .u64 t2.V] 39)).grown hgrow (fun e => by have := unhide HB4 _ e.symm; omega); have ca8 := hva8.cell.1; have fa8 := hva8.cell.2.1)
          go_roundw
          case rel =>
            have hstep := app_step (v' := .slice (some ⟨g8, 0, none⟩) (j + 1 + 1) cp8) (unhide H4) (unhide HV4) hgrow (unhide HB4) (by omega) (by omega) (by omega) (by omega) (unhide HTc) hG
            refine ⟨j + 1, pos2, t2, _, l ++ [(t2.T, t2.V)], by omega, by go_num, by omega, hL2, hV2, by simp; omega, ?_, hstep.1, hstep.2, ?_⟩
            · show readN (bitsOf s 0) = _
              have e1 : rdSmp t (bitsOf s pos) = some (t2, bitsOf s pos2) := by
                rw [rdSmp, unhide HSp, Option.bind_some]; exact unhide HSv
              rw [unhide hI, unhide HRR, e1, Option.bind_some, bind_snoc]
            · have e2 : flat (l ++ [(t2.T, t2.V)]) = flat l ++ [.int .i64 t2.T, .int .u64 t2.V] := flat_snoc _ _
              refine ownsRow_setCell_below ?_ (by show w.heap.size < q + 1; omega) _
              rw [e2, List.length_append, unhide HLL]
              have hown2 := hown
              rw [unhide HLL] at hown2
              exact hown2
          case measure => simp [RowKit.intOf]; omega
        · have hv4 := (unhide HV3).keep (z := w.heap.size + 1 + 1) (q := q) (by omega) (by omega) (by omega) (by omega) (by omega) (by omega) hk4
          have hnone : readN (bitsOf s 0) = none := by
            rw [unhide hI, unhide HRR, rdSmp, unhide HSp, Option.bind_some]
            simp only
            rw [hsv]; rfl
          go_wp2_with fail
          refine leaves_cons (f := 82) (args := #[.pointer (some ⟨w.heap.size, 0, none⟩), .pointer (some ⟨w.heap.size + 1, 0, none⟩)]) (by simp) (by simp [go_sem]) ?_
          refine (catch_few _ _ _ _ [] w4 hv4.va.cell.1 hv4.vb.cell.1 hv4.va.cell.2.1 hv4.vb.cell.2.1 hv4.ab).mono ?_
          rintro e u' w2 ⟨rfl, rfl, o, rfl⟩
          obtain ⟨g1, g2, g3⟩ := few_end hv4.va hv4.vb hv4.ab hv4.na hv4.nb hv4.kept o
          generalize ((w4.setCell ⟨w.heap.size, 0, none⟩ (.slice none 0 0)).setCell ⟨w.heap.size + 1, 0, none⟩ (.bool false)).alloc o = Wx at *
          exact ⟨.tuple #[.slice none 0 0, .bool false], by simp [results, Tryz.results51, go_sem, g1, g2], Or.inr ⟨hnone, rfl, g3⟩⟩
      · have hv3 := (unhide hVs).keep (z := w.heap.size + 1 + 1) (q := q) (by omega) (by omega) (by omega) (by omega) (by omega) (by omega) hk3
        have hnone : readN (bitsOf s 0) = none := by
          rw [unhide hI, unhide HRR, rdSmp, hsp]; rfl
        go_wp2_with fail
        refine leaves_cons (f := 82) (args := #[.pointer (some ⟨w.heap.size, 0, none⟩), .pointer (some ⟨w.heap.size + 1, 0, none⟩)]) (by simp) (by simp [go_sem]) ?_
        refine (catch_few _ _ _ _ [] w3 hv3.va.cell.1 hv3.vb.cell.1 hv3.va.cell.2.1 hv3.vb.cell.2.1 hv3.ab).mono ?_
        rintro e u' w2 ⟨rfl, rfl, o, rfl⟩
        obtain ⟨g1, g2, g3⟩ := few_end hv3.va hv3.vb hv3.ab hv3.na hv3.nb hv3.kept o
        generalize ((w3.setCell ⟨w.heap.size, 0, none⟩ (.slice none 0 0)).setCell ⟨w.heap.size + 1, 0, none⟩ (.bool false)).alloc o = Wx at *
        exact ⟨.tuple #[.slice none 0 0, .bool false], by simp [results, Tryz.results51, go_sem, g1, g2], Or.inr ⟨hnone, rfl, g3⟩⟩
    · have hjn2 : ¬ (j : Int) < (n : Int) - 1 := by omega
      have hj2 : j = n - 1 := by omega
      obtain ⟨g4, cp4, hvf⟩ : ∃ g4 cp4, v = .slice (some ⟨g4, 0, none⟩) (j + 1) cp4 := by
        have := unhide hO
        rw [hll] at this
        exact own_form this
      subst hvf
      obtain ⟨ca, fa, sa⟩ := (unhide hVs).va.cell
      obtain ⟨cb, fb, sb⟩ := (unhide hVs).vb.cell
      have HJ := hide hj2
      have HLL := hide hll
      clear hj2 hll hfx
      go_wp2_with fail
      refine leaves_cons (f := 82) (args := #[.pointer (some ⟨w.heap.size, 0, none⟩), .pointer (some ⟨w.heap.size + 1, 0, none⟩)]) (by simp) (by simp [go_sem]) ?_
      refine (catch_idle _ _ _).mono ?_
      rintro e u' w2 ⟨rfl, rfl, hw2⟩
      obtain ⟨g1, g2, g3⟩ := ret_end (u := .slice (some ⟨g4, 0, none⟩) (j + 1) cp4) (d := .bool true) (unhide hVs).va (unhide hVs).vb (unhide hVs).ab (unhide hVs).na (unhide hVs).nb (unhide hVs).kept
      have hof : ((wr.setCell ⟨w.heap.size, 0, none⟩ (.slice (some ⟨g4, 0, none⟩) (j + 1) cp4)).setCell ⟨w.heap.size + 1, 0, none⟩ (.bool true)).ownsRow (q + 1) 39 2 (.slice (some ⟨g4, 0, none⟩) (j + 1) cp4) l.length (flat l) := ownsRow_setCell_below (ownsRow_setCell_below (unhide hO) (by show w.heap.size < q + 1; omega) _) (by show w.heap.size + 1 < q + 1; omega) _
      rw [← hw2] at g1 g2 g3 hof
      have hfin : readN (bitsOf s 0) = some l := by rw [unhide hI, unhide HJ, Nat.sub_self, rdRest]; simp
      have hob : w2.ownsRow w.heap.size 39 2 (.slice (some ⟨g4, 0, none⟩) (j + 1) cp4) l.length (flat l) := own_base hof (by omega)
      refine ⟨.tuple #[.slice (some ⟨g4, 0, none⟩) (j + 1) cp4, .bool true], by simp [results, Tryz.results51, go_sem, g1, g2], Or.inl ?_⟩
      first | exact ⟨l, _, hfin, rfl, hob, g3⟩ | exact ⟨l, hfin, _, rfl, hob, g3⟩
end Go.Proofs.YtgekdmjneogdoaaGreatDoor

namespace Go.Proofs.YtgekdmjneogdoaaGreatDoor
open Go.RowKit

theorem rdVal_ok {t : Tr} {B : List Nat} {x : Tr × List Nat} (hV : t.V < 18446744073709551616) (h : rdVal t B = some x) : x.1.T = t.T ∧ x.1.V < 18446744073709551616 := by
  rw [rdVal] at h
  obtain ⟨r, _, h2⟩ := Option.bind_eq_some_iff.1 h
  split at h2
  · cases h2; exact ⟨rfl, hV⟩
  · obtain ⟨q, _, h3⟩ := Option.bind_eq_some_iff.1 h2
    split at h3
    · cases h3
    · obtain ⟨y, _, h4⟩ := Option.bind_eq_some_iff.1 h3
      cases h4
      exact ⟨rfl, Nat.xor_lt_two_pow (n := 64) hV (Nat.mod_lt _ (by decide))⟩

theorem rdTime_T {t : Tr} {B : List Nat} {x : Tr × List Nat} (h : rdTime t B = some x) : I64 x.1.T := by
  rw [rdTime] at h
  obtain ⟨k, _, h2⟩ := Option.bind_eq_some_iff.1 h
  obtain ⟨y, _, h3⟩ := Option.bind_eq_some_iff.1 h2
  cases h3
  exact wI_in _

theorem rdRest_ok : ∀ (n : Nat) (t : Tr) (B : List Nat) (l : List Smp), t.V < 18446744073709551616 → rdRest n t B = some l → (∀ x ∈ l, SOk x) ∧ l.length = n
  | 0, _, _, l, _, h => by cases h; simp
  | n + 1, t, B, l, hV, h => by
    rw [rdRest] at h
    obtain ⟨r, h1, h2⟩ := Option.bind_eq_some_iff.1 h
    obtain ⟨m, h3, h4⟩ := Option.bind_eq_some_iff.1 h2
    rw [rdSmp] at h1
    obtain ⟨r1, h5, h6⟩ := Option.bind_eq_some_iff.1 h1
    have hT := rdTime_T h5
    have hl := rdTime_lm h5
    have hv := rdVal_ok (by rw [hl.2.2]; exact hV) h6
    have ih := rdRest_ok n r.1 r.2 m hv.2 h3
    cases h4
    refine ⟨fun x hx => ?_, by simp [ih.2]⟩
    rcases List.mem_cons.1 hx with rfl | hx
    · exact ⟨by rw [hv.1]; exact hT, hv.2⟩
    · exact ih.1 x hx

theorem rdL_bits {n : Nat} {B : List Nat} {x : Nat × List Nat} (hB : ∀ b ∈ B, b < 2) (h : rdL n B = some x) : x.1 < 2 ^ n ∧ ∀ b ∈ x.2, b < 2 := by
  unfold rdL at h
  split at h
  · cases h
    refine ⟨?_, fun b hb => hB b (List.mem_of_mem_drop hb)⟩
    have h9 := bval_lt (B.take n) (fun b hb => hB b (List.mem_of_mem_take hb))
    exact Nat.lt_of_lt_of_le h9 (Nat.pow_le_pow_right (by decide) (List.length_take_le _ _))
  · cases h

theorem readN_ok {s : ByteArray} {l : List Smp} (h : readN (bitsOf s 0) = some l) : (∀ x ∈ l, SOk x) ∧ l.length ≤ 40 := by
  rw [readN] at h
  obtain ⟨n, h16, h2⟩ := Option.bind_eq_some_iff.1 h
  split at h2
  · cases h2
  · split at h2
    · cases h2; simp
    · obtain ⟨a, h3, h4⟩ := Option.bind_eq_some_iff.1 h2
      obtain ⟨v, h5, h6⟩ := Option.bind_eq_some_iff.1 h4
      obtain ⟨m, h7, h8⟩ := Option.bind_eq_some_iff.1 h6
      have b0 : ∀ b ∈ bitsOf s 0, b < 2 := fun b hb => cbits_lt _ b (List.mem_of_mem_drop hb)
      have b1 := (rdL_bits b0 h16).2
      have b2 := (rdL_bits b1 h3).2
      have hv : v.1 < 18446744073709551616 := (rdL_bits b2 h5).1
      have h9 := rdRest_ok _ _ _ m hv h7
      cases h8
      refine ⟨fun x hx => ?_, ?_⟩
      · rcases List.mem_cons.1 hx with rfl | hx
        · exact ⟨wI_in _, hv⟩
        · exact h9.1 x hx
      · simp only [List.length_cons, h9.2]; omega

theorem flat_get : ∀ (l : List Smp) (j : Nat), j < l.length → (flat l)[2 * j]? = some (.int .i64 (l.getD j (0, 0)).1) ∧ (flat l)[2 * j + 1]? = some (.int .u64 (l.getD j (0, 0)).2)
  | [], j, h => by simp at h
  | x :: l, 0, _ => by simp [flat]
  | x :: l, j + 1, h => by
    have ih := flat_get l j (by simpa using h)
    have e : flat (x :: l) = [.int .i64 x.1, .int .u64 x.2] ++ flat l := by simp [flat]
    rw [e, show 2 * (j + 1) = 2 * j + 2 by omega]
    simpa using ih

theorem rds_own {w : World} {base : Nat} {v : Value} {l : List Smp} (h : w.ownsRow base 39 2 v l.length (flat l)) : RdS (Under w) w v l := by
  have hlt := h.lt
  rcases h.2 with ⟨rfl, h0⟩ | ⟨g, cap, cur, rfl, hb, hg, hn, hm, hsz, ht⟩
  · exact ⟨none, 0, by rw [h0], by omega, fun h1 => by omega⟩
  · refine ⟨_, cap, rfl, hn, fun _ => ⟨g, 0, (hlt g rfl).2, rfl, fun j hj => ?_⟩⟩
    have hc : ∀ (i : Nat) (u : Value), (flat l)[i]? = some u → w.cell? ⟨g, i, none⟩ = some u := by
      intro i u hu
      rw [cell_of_row w g i cur _ _ hg]
      rw [← ht, List.getElem?_take] at hu
      split at hu
      · simpa using hu
      · cases hu
    have hf := flat_get l j hj
    rw [Nat.zero_add]
    exact ⟨hc _ _ hf.1, hc _ _ hf.2⟩

/-- readSamples, all ways -/
theorem samples_any (s : ByteArray) (w : World) (hT : CTabs w) (hG : GK (Under w)) :
    Calls Tryz.prog 51 #[.string s] w fun e w' =>
      (∃ l v, readN (bitsOf s 0) = some l ∧ e = .returned (.tuple #[v, .bool true]) ∧ w'.ownsRow w.heap.size 39 2 v l.length (flat l) ∧ Below w.heap.size w w') ∨ (readN (bitsOf s 0) = none ∧ e = .returned (.tuple #[.slice none 0 0, .bool false]) ∧ Below w.heap.size w w') := by
  by_cases hs : 0 + 16 ≤ 8 * s.size
  · have r0 := rdL_some s 0 16 hs
    have hr : readN (bitsOf s 0) = if 40 < bval ((bitsOf s 0).take 16) then none else if bval ((bitsOf s 0).take 16) = 0 then some [] else
        (rdL 64 (bitsOf s (0 + 16))).bind fun a => (rdL 64 a.2).bind fun v => (rdRest (bval ((bitsOf s 0).take 16) - 1) ⟨wI a.1, v.1, 0, 0, 0⟩ v.2).bind fun l => some ((wI a.1, v.1) :: l) := by
      rw [readN, r0, Option.bind_some]
    generalize hn : bval ((bitsOf s 0).take 16) = n at hr
    by_cases h40 : 40 < n
    · refine (samples_many s w n hs hn h40).mono ?_
      rintro e w' ⟨rfl, hb⟩
      rw [if_pos h40] at hr
      exact Or.inr ⟨hr, rfl, hb⟩
    · rw [if_neg h40] at hr
      by_cases h0 : n = 0
      · refine (samples_zero s w n hs hn h0).mono ?_
        rintro e w' ⟨rfl, hb⟩
        rw [if_pos h0] at hr
        exact Or.inl ⟨[], _, hr, rfl, World.ownsRow_nil _ _ _ _, hb⟩
      · rw [if_neg h0] at hr
        by_cases hlT : 0 + 16 + 64 ≤ 8 * s.size
        · rw [rdL_some s (0 + 16) 64 hlT, Option.bind_some] at hr
          by_cases hlV : 0 + 16 + 64 + 64 ≤ 8 * s.size
          · exact samples_main s w n hs hn (by omega) (by omega) hT hG _ hlT rfl _ hlV rfl
          · simp only at hr
            rw [rdL_none s (0 + 16 + 64) 64 (by omega) (by omega)] at hr
            refine (samples_badV s w n hs hn (by omega) (by omega) hT hG _ hlT rfl (by omega)).mono ?_
            rintro e w' ⟨rfl, hb⟩
            exact Or.inr ⟨hr, rfl, hb⟩
        · rw [rdL_none s (0 + 16) 64 (by omega) (by omega)] at hr
          refine (samples_badT s w n hs hn (by omega) (by omega) hT hG (by omega)).mono ?_
          rintro e w' ⟨rfl, hb⟩
          exact Or.inr ⟨hr, rfl, hb⟩
  · refine (samples_short s w (by omega)).mono ?_
    rintro e w' ⟨rfl, hb⟩
    refine Or.inr ⟨?_, rfl, hb⟩
    rw [readN, rdL_none s 0 16 (by omega) (by omega)]; rfl
end Go.Proofs.YtgekdmjneogdoaaGreatDoor

namespace Go.Proofs.YtgekdmjneogdoaaGreatDoor
open Go.RowKit

theorem natsOf_bytesOf (c : List Nat) (h : ∀ b ∈ c, b < 256) : natsOf (bytesOf c) = c := by
  unfold natsOf bytesOf
  simp only [List.map_map]
  have : c.map (UInt8.toNat ∘ UInt8.ofNat) = c.map id := by
    apply List.map_congr_left
    intro b hb
    have := h b hb
    simp only [Function.comp, id, UInt8.toNat_ofNat']
    omega
  rw [this, List.map_id]

theorem bytesOf_natsOf (s : ByteArray) : bytesOf (natsOf s) = s := by
  unfold natsOf bytesOf
  rw [List.map_map]
  have : s.data.toList.map (UInt8.ofNat ∘ UInt8.toNat) = s.data.toList.map id := by
    apply List.map_congr_left
    intro b _
    simp
  rw [this, List.map_id]

theorem bytesOf_eq (c : List Nat) (h : ∀ b ∈ c, b < 256) (s : ByteArray) : bytesOf c = s ↔ c = natsOf s := by
  constructor
  · rintro rfl; exact (natsOf_bytesOf c h).symm
  · rintro rfl; exact bytesOf_natsOf s

set_option maxRecDepth 20000 in
set_option maxHeartbeats 800000 in
theorem unpack_none (s : ByteArray) (w : World) (hT : CTabs w) (hG : GK (Under w)) (hn : readN (bitsOf s 0) = none) :
    Calls Tryz.prog 25 #[.string s] w fun e w' => e = .returned (.tuple #[.slice none 0 0, .int .i64 4]) ∧ Below w.heap.size w w' := by
  have H := hide (samples_any s w hT hG)
  have HN := hide hn
  clear hT hn
  go_enter Tryz.func25, Tryz.ntmps25
  go_wp2_with fail
  refine (unhide H).mono ?_
  rintro e w1 (⟨l, v, h1, _⟩ | ⟨_, rfl, hb⟩)
  · rw [unhide HN] at h1; cases h1
  · go_wp2_with fail
    go_ret2
    exact ⟨rfl, hb⟩

theorem CTabs.below {w w' : World} (h : CTabs w) (hG : GK (Under w)) (hb : Below w.heap.size w w') : CTabs w' := h.kept hG (Kept.of_below hb)

theorem GK.below {w w' : World} (hG : GK (Under w)) (hb : Below w.heap.size w w') : GK (Under w') := ⟨Nat.lt_of_lt_of_le hG.1 hb.size, Nat.lt_of_lt_of_le hG.2 hb.size⟩

set_option maxRecDepth 20000 in
set_option maxHeartbeats 800000 in
theorem unpack_some (s : ByteArray) (l : List Smp) (w : World) (hT : CTabs w) (hG : GK (Under w)) (hn : readN (bitsOf s 0) = some l) (same : Bool) (hsame : same = decide (bytesOf (chunkN l) = s)) :
    Calls Tryz.prog 25 #[.string s] w fun e w' => Below w.heap.size w w' ∧ (if same then ∃ v, e = .returned (.tuple #[v, .int .i64 0]) ∧ w'.ownsRow w.heap.size 39 2 v l.length (flat l) else e = .returned (.tuple #[.slice none 0 0, .int .i64 4])) := by
  have H := hide (samples_any s w hT hG)
  have HN := hide hn
  have HT := hide hT
  have HG := hide hG
  have hok := hide (readN_ok hn)
  have HSm := hide hsame
  clear hT hn hG hsame
  go_enter Tryz.func25, Tryz.ntmps25
  go_wp2_with fail
  refine (unhide H).mono ?_
  rintro e w1 (⟨l', v, h1, rfl, hown, hb⟩ | ⟨h1, _⟩)
  · rw [unhide HN] at h1
    cases h1
    have HC := hide (chunkOf_any v l w1 (rds_own hown) (unhide hok).2 (unhide hok).1 ((unhide HT).below (unhide HG) hb) ((unhide HG).below hb))
    have HO := hide hown
    have HB := hide hb
    clear hown hb
    cases same with
    | true =>
      have hc := hide (of_decide_eq_true (unhide HSm).symm)
      go_wp2_with fail
      refine (unhide HC).mono ?_
      rintro e w2 ⟨rfl, hb2⟩
      rw [unhide hc]
      clear hc HSm
      have hb3 : Below w.heap.size w w2 := (unhide HB).trans (hb2.mono (unhide HB).size)
      have ho3 : w2.ownsRow w.heap.size 39 2 v l.length (flat l) := (unhide HO).kept (Below.grownBy hb2) (by cases v.ownBlock <;> simp)
      have Hb3 := hide hb3
      have Ho3 := hide ho3
      clear hb3 ho3
      go_wp2_with fail
      go_ret2
      exact ⟨unhide Hb3, _, rfl, unhide Ho3⟩
    | false =>
      have hc := hide (of_decide_eq_false (unhide HSm).symm)
      go_wp2_with fail
      refine (unhide HC).mono ?_
      rintro e w2 ⟨rfl, hb2⟩
      have hc2 := unhide hc
      clear hc HSm HC
      generalize bytesOf (chunkN l) = c at hc2
      have hc3 : (c.toList == s.toList) = false := by
        rw [beq_eq_false_iff_ne]
        intro h
        apply hc2
        rw [Lib.toList_data, Lib.toList_data] at h
        cases c; cases s
        simp at h
        rw [h]
      have Hb3 : Hid (Below w.heap.size w w2) := (unhide HB).trans (hb2.mono (unhide HB).size)
      go_wp2_with fail
      go_ret2
      exact ⟨unhide Hb3, rfl⟩
  · rw [unhide HN] at h1; cases h1

/-- Unpack, all ways -/
theorem unpack_any (s : ByteArray) (w : World) (hT : CTabs w) (hG : GK (Under w)) :
    Calls Tryz.prog 25 #[.string s] w fun e w' => Below w.heap.size w w' ∧
      ((∃ l v, unpackN (natsOf s) = some l ∧ e = .returned (.tuple #[v, .int .i64 0]) ∧ w'.ownsRow w.heap.size 39 2 v l.length (flat l)) ∨ (unpackN (natsOf s) = none ∧ e = .returned (.tuple #[.slice none 0 0, .int .i64 4]))) := by
  have e0 : bitsOf s 0 = cbits (natsOf s) := rfl
  cases hn : readN (bitsOf s 0) with
  | none =>
    refine (unpack_none s w hT hG hn).mono ?_
    rintro e w' ⟨rfl, hb⟩
    refine ⟨hb, Or.inr ⟨?_, rfl⟩⟩
    rw [unpackN, ← e0, hn]; rfl
  | some l =>
    refine (unpack_some s l w hT hG hn _ rfl).mono ?_
    rintro e w' ⟨hb, h⟩
    refine ⟨hb, ?_⟩
    by_cases hc : bytesOf (chunkN l) = s
    · rw [if_pos (by simpa using hc)] at h
      obtain ⟨v, h1, h2⟩ := h
      refine Or.inl ⟨l, v, ?_, h1, h2⟩
      rw [unpackN, ← e0, hn, Option.bind_some, if_pos ((bytesOf_eq _ (chunkN_lt l) s).1 hc)]
    · rw [if_neg (by simpa using hc)] at h
      refine Or.inr ⟨?_, h⟩
      rw [unpackN, ← e0, hn, Option.bind_some, if_neg (fun e => hc ((bytesOf_eq _ (chunkN_lt l) s).2 e))]
end Go.Proofs.YtgekdmjneogdoaaGreatDoor

namespace Go.Proofs.YtgekdmjneogdoaaGreatDoor
open Go.RowKit

/-! the document's examples, of Pack and Unpack -/
theorem chunk_two : chunkN [(0, 7), (0, 7)] = [0, 2, 0, 0, 0, 0, 0, 0, 0, 0, 0, 0, 0, 0, 0, 0, 0, 7, 0] := by decide +kernel
theorem unpack_zero : unpackN [0, 0] = some [] := by decide +kernel
end Go.Proofs.YtgekdmjneogdoaaGreatDoor
