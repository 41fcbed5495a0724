import Derived.Test.YtgekdmjneogdoaaGreatDoorYChR2
import Derived.Recover
import Derived.Laws.Pointers
namespace Go.Proofs.YtgekdmjneogdoaaGreatDoor
open Go.RowKit

set_option maxRecDepth 20000 in
set_option maxHeartbeats 1600000 in
theorem catch_few (a b : Nat) (v0 v1 : Value) (older : List PanicEntry) (w : World) (ha : w.cell? ⟨a, 0, none⟩ = some v0) (hb : w.cell? ⟨b, 0, none⟩ = some v1) (fa : w.frozen? ⟨a, 0, none⟩ = false) (fb : w.frozen? ⟨b, 0, none⟩ = false) (hab : a ≠ b) :
    CallsD Tryz.prog 82 #[.pointer (some ⟨a, 0, none⟩), .pointer (some ⟨b, 0, none⟩)] (.panicking (few :: older)) w fun e u' w' =>
      e = .returned (.tuple #[]) ∧ u' = .panicking ({ few with recovered := true } :: older) ∧ ∃ o, w' = ((w.setCell ⟨a, 0, none⟩ (.slice none 0 0)).setCell ⟨b, 0, none⟩ (.bool false)).alloc o := by
  have hA : a < w.heap.size := World.block_lt_of_cell? w ⟨a, 0, none⟩ ha
  have hB : b < w.heap.size := World.block_lt_of_cell? w ⟨b, 0, none⟩ hb
  have ga : ∀ o, (w.alloc o).cell? ⟨a, 0, none⟩ = some v0 := fun o => by rw [World.cell?_alloc_past _ _ _ hA]; exact ha
  have gb : ∀ o, (w.alloc o).cell? ⟨b, 0, none⟩ = some v1 := fun o => by rw [World.cell?_alloc_past _ _ _ hB]; exact hb
  have qa : ∀ o, (w.alloc o).frozen? ⟨a, 0, none⟩ = false := fun o => (World.frozen?_of_block (w := w) (Below.heap_alloc w o a hA)).trans fa
  have qb : ∀ o, (w.alloc o).frozen? ⟨b, 0, none⟩ = false := fun o => (World.frozen?_of_block (w := w) (Below.heap_alloc w o b hB)).trans fb
  have hta : ∀ w, (Instr.typeAssert (.iface 140 (.agg #[])) 20 140 true).run Tryz.prog w = .ok (.tuple #[.agg #[], .bool true]) w := fun _ => by kernel_rfl
  have hnot : ∀ (x : Bool) (w : World), (Op.unary .not (.bool x)).run Tryz.prog w = .ok (.bool (!x)) w := fun _ _ => rfl
  refine callsD_of_wpS Tryz.func82 rfl fun c₀ cs hu => ?_
  apply wpS_seq
  apply wpS_region
  simp [wpOpsS, go_sem, recoverD, hu, Tryz.ntmps82, Exit.thenS]
  refine wpS_of_wp ?_
  change Code.wp _ _ _ { tmps := #[.pointer (some ⟨a, 0, none⟩), .pointer (some ⟨b, 0, none⟩), .iface 140 (.agg #[]), undef, undef, .iface 140 (.agg #[]), undef, undef, undef, undef, undef, undef, undef, undef, undef, undef], defers := [] } _
  go_wp2_with fail
  cases c₀
  simp_all [bodyPostS, results, Tryz.results82]
  exact ⟨_, rfl⟩

theorem catch_idle (a b : Nat) (w : World) :
    CallsD Tryz.prog 82 #[.pointer (some ⟨a, 0, none⟩), .pointer (some ⟨b, 0, none⟩)] .returning w fun e u' w' => e = .returned (.tuple #[]) ∧ u' = .returning ∧ w' = w := by
  refine callsD_of_wpS Tryz.func82 rfl fun c₀ cs hu => ?_
  apply wpS_seq
  apply wpS_region
  simp [wpOpsS, go_sem, recoverD, hu, Tryz.ntmps82, Exit.thenS]
  refine wpS_of_wp ?_
  go_wp2_with fail
  cases c₀
  simp_all [bodyPostS, results, Tryz.results82]
end Go.Proofs.YtgekdmjneogdoaaGreatDoor

namespace Go.Proofs.YtgekdmjneogdoaaGreatDoor
open Go.RowKit

/-- all blocks that there are, but two -/
abbrev But2 (w : World) (z q : Nat) : Nat → Prop := fun k => k < w.heap.size ∧ k ≠ z ∧ k ≠ q

/-- a variable of one cell -/
def Var (w : World) (a : Nat) (v : Value) : Prop := ∃ ty, w.heap[a]? = some (.cells #[v] ty (0, 0))

theorem Var.cell {w : World} {a : Nat} {v : Value} (h : Var w a v) : w.cell? ⟨a, 0, none⟩ = some v ∧ w.frozen? ⟨a, 0, none⟩ = false ∧ a < w.heap.size := by
  obtain ⟨ty, hh⟩ := h
  refine ⟨?_, frozen_of_row w a 0 _ ty hh, (Array.getElem?_eq_some_iff.1 hh).1⟩
  rw [cell_of_row w a 0 _ ty _ hh]; rfl

theorem Var.kept {K : Nat → Prop} {w w' : World} {a : Nat} {v : Value} (h : Var w a v) (ha : K a) (hk : Kept K w w') : Var w' a v := by
  obtain ⟨ty, hh⟩ := h
  exact ⟨ty, (hk.block a ha).trans hh⟩

theorem Var.set {w : World} {a : Nat} {v : Value} (h : Var w a v) (u : Value) : Var (w.setCell ⟨a, 0, none⟩ u) a u := by
  obtain ⟨ty, hh⟩ := h
  have := heap_setCell_same w a 0 _ ty u hh
  exact ⟨ty, by simpa using this⟩

theorem Var.other {w : World} {a : Nat} {v : Value} (h : Var w a v) {p : Addr} (hp : a ≠ p.block) (u : Value) : Var (w.setCell p u) a v := by
  obtain ⟨ty, hh⟩ := h
  exact ⟨ty, (Below.heap_setCell w p u a hp).trans hh⟩

theorem Var.alloc {w : World} {a : Nat} {v : Value} (h : Var w a v) (o : Obj) : Var (w.alloc o) a v := by
  have hl := h.cell.2.2
  obtain ⟨ty, hh⟩ := h
  exact ⟨ty, (Below.heap_alloc w o a hl).trans hh⟩

/-- what readSamples has laid ahead of its first read -/
structure Laid (w W : World) (a b z : Nat) (s : ByteArray) : Prop where
  va : Var W a (.slice none 0 0)
  vb : Var W b (.bool false)
  rdr : RdrAt W z s 0
  kept : Kept (Under w) w W
  na : w.heap.size ≤ a
  nb : w.heap.size ≤ b
  nz : w.heap.size ≤ z
  ab : a ≠ b
  az : a ≠ z
  bz : b ≠ z

theorem laid (s : ByteArray) (w : World) (t1 t2 t3 : TypeId) : Laid w (((w.alloc (.cells #[.slice none 0 0] t1)).alloc (.cells #[.bool false] t2)).alloc (.cells #[.string s, .int .i64 0] t3)) w.heap.size (w.heap.size + 1) (w.heap.size + 1 + 1) s := by
  have e1 : (w.alloc (.cells #[.slice none 0 0] t1)).heap.size = w.heap.size + 1 := by simp
  have e2 : ((w.alloc (.cells #[.slice none 0 0] t1)).alloc (.cells #[.bool false] t2)).heap.size = w.heap.size + 1 + 1 := by simp
  have v1 : Var (w.alloc (.cells #[.slice none 0 0] t1)) w.heap.size (.slice none 0 0) := ⟨t1, heap_alloc_new w _⟩
  have v2 : Var ((w.alloc (.cells #[.slice none 0 0] t1)).alloc (.cells #[.bool false] t2)) (w.heap.size + 1) (.bool false) := by
    have := heap_alloc_new (w.alloc (.cells #[.slice none 0 0] t1)) (.cells #[.bool false] t2)
    rw [e1] at this
    exact ⟨t2, this⟩
  refine ⟨(v1.alloc _).alloc _, v2.alloc _, ?_, ?_, by omega, by omega, by omega, by omega, by omega, by omega⟩
  · have := heap_alloc_new ((w.alloc (.cells #[.slice none 0 0] t1)).alloc (.cells #[.bool false] t2)) (.cells #[.string s, .int .i64 0] t3)
    rw [e2] at this
    exact ⟨t3, this⟩
  · exact (((Kept.refl _ w).alloc (fun _ h => h) _).alloc (fun _ h => h) _).alloc (fun _ h => h) _

theorem Laid.under {w W W1 : World} {a b z : Nat} {s : ByteArray} (L : Laid w W a b z s) {q : Nat} (hq : w.heap.size ≤ q) (hk : Kept (But2 W z q) W W1) : Kept (Under w) w W1 :=
  L.kept.trans (hk.sub (fun k (h : k < w.heap.size) => ⟨Nat.lt_of_lt_of_le h L.kept.size, by have := L.nz; omega, by omega⟩))

/-- behind the closure that recovers: nil, false -/
theorem few_end {w W1 : World} {a b : Nat} {v : Value} (va : Var W1 a v) (vb : Var W1 b (.bool false)) (hab : a ≠ b) (na : w.heap.size ≤ a) (nb : w.heap.size ≤ b) (hk : Kept (Under w) w W1) (o : Obj) :
    let W2 := ((W1.setCell ⟨a, 0, none⟩ (.slice none 0 0)).setCell ⟨b, 0, none⟩ (.bool false)).alloc o
    W2.cell? ⟨a, 0, none⟩ = some (.slice none 0 0) ∧ W2.cell? ⟨b, 0, none⟩ = some (.bool false) ∧ Below w.heap.size w W2 := by
  have h1 := ((va.set (.slice none 0 0)).other (p := ⟨b, 0, none⟩) hab (.bool false)).alloc o
  have h2 := ((vb.other (p := ⟨a, 0, none⟩) (fun e => hab e.symm) (.slice none 0 0)).set (.bool false)).alloc o
  refine ⟨h1.cell.1, h2.cell.1, Kept.below ?_⟩
  exact ((hk.setCell (a := ⟨a, 0, none⟩) (by simp; omega) _).setCell (a := ⟨b, 0, none⟩) (by simp; omega) _).alloc (fun _ h => h) _

/-- behind a return: the results lie in their cells -/
theorem ret_end {w W1 : World} {a b : Nat} {v u : Value} {c d : Value} (va : Var W1 a v) (vb : Var W1 b c) (hab : a ≠ b) (na : w.heap.size ≤ a) (nb : w.heap.size ≤ b) (hk : Kept (Under w) w W1) :
    ((W1.setCell ⟨a, 0, none⟩ u).setCell ⟨b, 0, none⟩ d).cell? ⟨a, 0, none⟩ = some u ∧ ((W1.setCell ⟨a, 0, none⟩ u).setCell ⟨b, 0, none⟩ d).cell? ⟨b, 0, none⟩ = some d ∧ Below w.heap.size w ((W1.setCell ⟨a, 0, none⟩ u).setCell ⟨b, 0, none⟩ d) := by
  have h1 := (va.set u).other (p := ⟨b, 0, none⟩) hab d
  have h2 := (vb.other (p := ⟨a, 0, none⟩) (fun e => hab e.symm) u).set d
  refine ⟨h1.cell.1, h2.cell.1, Kept.below ?_⟩
  exact (hk.setCell (a := ⟨a, 0, none⟩) (by simp; omega) _).setCell (a := ⟨b, 0, none⟩) (by simp; omega) _

set_option maxRecDepth 20000 in
set_option maxHeartbeats 1600000 in
theorem samples_short (s : ByteArray) (w : World) (hs : 8 * s.size < 0 + 16) :
    Calls Tryz.prog 51 #[.string s] w fun e w' => e = .returned (.tuple #[.slice none 0 0, .bool false]) ∧ Below w.heap.size w w' := by
  have hmf : ∀ (fn : Fn) (first cap : Array Value) (w : World), (Instr.makeFunc fn first cap).run Tryz.prog w = .ok (.func fn first cap) w := fun _ _ _ _ => rfl
  have HL := hide (laid s w)
  go_enter_defers Tryz.func51, Tryz.ntmps51
  go_wp2_with fail
  have L := unhide HL 37 4 143
  generalize (((w.alloc (.cells #[.slice none 0 0] 37)).alloc (.cells #[.bool false] 4)).alloc (.cells #[.string s, .int .i64 0] 143)) = W at *
  clear HL
  refine (read_bad (But2 W (w.heap.size + 1 + 1) (w.heap.size + 1 + 1)) (w.heap.size + 1 + 1) 0 16 s W (fun h => h.2.1 rfl) L.rdr hs (by omega) (by omega) (by omega)).mono ?_
  rintro e W1 ⟨rfl, hk⟩
  have hu := L.under L.nz hk
  have va := L.va.kept (K := But2 W (w.heap.size + 1 + 1) (w.heap.size + 1 + 1)) ⟨L.va.cell.2.2, L.az, L.az⟩ hk
  have vb := L.vb.kept (K := But2 W (w.heap.size + 1 + 1) (w.heap.size + 1 + 1)) ⟨L.vb.cell.2.2, L.bz, L.bz⟩ hk
  go_wp2_with fail
  refine leaves_cons (f := 82) (args := #[.pointer (some ⟨w.heap.size, 0, none⟩), .pointer (some ⟨w.heap.size + 1, 0, none⟩)]) (by simp) (by simp [go_sem]) ?_
  refine (catch_few _ _ _ _ [] W1 va.cell.1 vb.cell.1 va.cell.2.1 vb.cell.2.1 L.ab).mono ?_
  rintro e u' w2 ⟨rfl, rfl, o, rfl⟩
  obtain ⟨g1, g2, g3⟩ := few_end va vb L.ab L.na L.nb hu o
  generalize ((W1.setCell ⟨w.heap.size, 0, none⟩ (.slice none 0 0)).setCell ⟨w.heap.size + 1, 0, none⟩ (.bool false)).alloc o = W2 at *
  exact ⟨.tuple #[.slice none 0 0, .bool false], by simp [results, Tryz.results51, go_sem, g1, g2], rfl, g3⟩

set_option maxRecDepth 20000 in
set_option maxHeartbeats 1600000 in
theorem samples_many (s : ByteArray) (w : World) (n : Nat) (hs : 0 + 16 ≤ 8 * s.size) (hn : bval ((bitsOf s 0).take 16) = n) (h40 : 40 < n) :
    Calls Tryz.prog 51 #[.string s] w fun e w' => e = .returned (.tuple #[.slice none 0 0, .bool false]) ∧ Below w.heap.size w w' := by
  have hmf : ∀ (fn : Fn) (first cap : Array Value) (w : World), (Instr.makeFunc fn first cap).run Tryz.prog w = .ok (.func fn first cap) w := fun _ _ _ _ => rfl
  have HL := hide (laid s w)
  go_enter_defers Tryz.func51, Tryz.ntmps51
  go_wp2_with fail
  have L := unhide HL 37 4 143
  generalize (((w.alloc (.cells #[.slice none 0 0] 37)).alloc (.cells #[.bool false] 4)).alloc (.cells #[.string s, .int .i64 0] 143)) = W at *
  clear HL
  have HR := read_ok (But2 W (w.heap.size + 1 + 1) (w.heap.size + 1 + 1)) (w.heap.size + 1 + 1) 0 16 s W (fun h => h.2.1 rfl) L.rdr hs (by omega) (by omega)
  rw [show ((cbits (natsOf s)).drop 0) = bitsOf s 0 from rfl, hn] at HR
  refine HR.mono ?_
  clear HR
  rintro e W1 ⟨rfl, hr, hk⟩
  have hu := L.under L.nz hk
  have va := L.va.kept (K := But2 W (w.heap.size + 1 + 1) (w.heap.size + 1 + 1)) ⟨L.va.cell.2.2, L.az, L.az⟩ hk
  have vb := L.vb.kept (K := But2 W (w.heap.size + 1 + 1) (w.heap.size + 1 + 1)) ⟨L.vb.cell.2.2, L.bz, L.bz⟩ hk
  obtain ⟨ca, fa, sa⟩ := va.cell
  obtain ⟨cb, fb, sb⟩ := vb.cell
  have HH := hide hr
  have HK := hide hu
  have HVa := hide va
  have HVb := hide vb
  have hn16 : n < 65536 := by
    have := take_lt (natsOf s) 0 16
    rw [show ((cbits (natsOf s)).drop 0) = bitsOf s 0 from rfl, hn] at this; simpa using this
  have HN := hide hn
  have HLd := hide L
  have hab := L.ab
  clear L hr hu va vb hk hn
  have h41 : (40 : Int) < n := by omega
  go_wp2_with fail
  refine leaves_cons (f := 82) (args := #[.pointer (some ⟨w.heap.size, 0, none⟩), .pointer (some ⟨w.heap.size + 1, 0, none⟩)]) (by simp) (by simp [go_sem]) ?_
  refine (catch_idle _ _ _).mono ?_
  rintro e u' w2 ⟨rfl, rfl, hw2⟩
  obtain ⟨g1, g2, g3⟩ := ret_end (u := .slice none 0 0) (d := .bool false) (unhide HVa) (unhide HVb) (unhide HLd).ab (unhide HLd).na (unhide HLd).nb (unhide HK)
  rw [← hw2] at g1 g2 g3
  exact ⟨.tuple #[.slice none 0 0, .bool false], by simp [results, Tryz.results51, go_sem, g1, g2], rfl, g3⟩

set_option maxRecDepth 20000 in
set_option maxHeartbeats 1600000 in
theorem samples_zero (s : ByteArray) (w : World) (n : Nat) (hs : 0 + 16 ≤ 8 * s.size) (hn : bval ((bitsOf s 0).take 16) = n) (h0 : n = 0) :
    Calls Tryz.prog 51 #[.string s] w fun e w' => e = .returned (.tuple #[.slice none 0 0, .bool true]) ∧ Below w.heap.size w w' := by
  have hmf : ∀ (fn : Fn) (first cap : Array Value) (w : World), (Instr.makeFunc fn first cap).run Tryz.prog w = .ok (.func fn first cap) w := fun _ _ _ _ => rfl
  have HL := hide (laid s w)
  go_enter_defers Tryz.func51, Tryz.ntmps51
  go_wp2_with fail
  have L := unhide HL 37 4 143
  generalize (((w.alloc (.cells #[.slice none 0 0] 37)).alloc (.cells #[.bool false] 4)).alloc (.cells #[.string s, .int .i64 0] 143)) = W at *
  clear HL
  have HR := read_ok (But2 W (w.heap.size + 1 + 1) (w.heap.size + 1 + 1)) (w.heap.size + 1 + 1) 0 16 s W (fun h => h.2.1 rfl) L.rdr hs (by omega) (by omega)
  rw [show ((cbits (natsOf s)).drop 0) = bitsOf s 0 from rfl, hn] at HR
  refine HR.mono ?_
  clear HR
  rintro e W1 ⟨rfl, hr, hk⟩
  have hu := L.under L.nz hk
  have va := L.va.kept (K := But2 W (w.heap.size + 1 + 1) (w.heap.size + 1 + 1)) ⟨L.va.cell.2.2, L.az, L.az⟩ hk
  have vb := L.vb.kept (K := But2 W (w.heap.size + 1 + 1) (w.heap.size + 1 + 1)) ⟨L.vb.cell.2.2, L.bz, L.bz⟩ hk
  obtain ⟨ca, fa, sa⟩ := va.cell
  obtain ⟨cb, fb, sb⟩ := vb.cell
  have HH := hide hr
  have HK := hide hu
  have HVa := hide va
  have HVb := hide vb
  have hn16 : n < 65536 := by
    have := take_lt (natsOf s) 0 16
    rw [show ((cbits (natsOf s)).drop 0) = bitsOf s 0 from rfl, hn] at this; simpa using this
  have HN := hide hn
  have HLd := hide L
  have hab := L.ab
  clear L hr hu va vb hk hn
  subst h0
  go_wp2_with fail
  refine leaves_cons (f := 82) (args := #[.pointer (some ⟨w.heap.size, 0, none⟩), .pointer (some ⟨w.heap.size + 1, 0, none⟩)]) (by simp) (by simp [go_sem]) ?_
  refine (catch_idle _ _ _).mono ?_
  rintro e u' w2 ⟨rfl, rfl, hw2⟩
  obtain ⟨g1, g2, g3⟩ := ret_end (u := .slice none 0 0) (d := .bool true) (unhide HVa) (unhide HVb) (unhide HLd).ab (unhide HLd).na (unhide HLd).nb (unhide HK)
  rw [← hw2] at g1 g2 g3
  exact ⟨.tuple #[.slice none 0 0, .bool true], by simp [results, Tryz.results51, go_sem, g1, g2], rfl, g3⟩
end Go.Proofs.YtgekdmjneogdoaaGreatDoor
