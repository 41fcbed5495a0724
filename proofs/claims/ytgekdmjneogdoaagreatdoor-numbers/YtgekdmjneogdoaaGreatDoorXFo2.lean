import Derived.Test.YtgekdmjneogdoaaGreatDoorXAw1
import Derived.Test.YtgekdmjneogdoaaGreatDoorXAw3
import Derived.Test.YtgekdmjneogdoaaGreatDoorXChR1
import Derived.Test.YtgekdmjneogdoaaGreatDoorXMt2
import Derived.Test.YtgekdmjneogdoaaGreatDoorXNy1
import Derived.Test.YtgekdmjneogdoaaGreatDoorShelfB
import Derived.Sort.Grow
import Derived.Laws.OwnMore
import Derived.RangeFuncNested
import Derived.RangeFuncBound
import Derived.RangeFuncCalls
import Derived.RangeFuncBox
import Derived.RangeFuncLeaves
import Derived.RangeFuncWrites
import Derived.Shelf.Abstract
import Derived.Shelf.RegionOpen
import Derived.OwnWalkIn
import Derived.TacticsInMore
import Derived.LoopNIn
import Derived.LoopIn
import Derived.Maps.AppendAt
import Derived.Maps.OwnIn
import Derived.Sort.MapsRangeIn
import Derived.Deep.RegionHeld3
namespace Go.Proofs.YtgekdmjneogdoaaGreatDoor
open Go.RowKit Go.Shelf Go.Maps Go.Sort Go.Lib

/-! buckets in their order -/
def isB (x : Nat) : Prop := isNum x ∧ x ≠ 9223372036854775808

end Go.Proofs.YtgekdmjneogdoaaGreatDoor

namespace Go.Proofs.YtgekdmjneogdoaaGreatDoor
open Go.RowKit Go.Shelf Go.Maps

/-! a meter beside a row -/
theorem Mtr.same {K : Nat → Prop} {w w' : World} {mb kb W C : Nat} {S : MS} {ms : List (Option Nat)} {bags : List (List Nat)} (h : Mtr K w mb kb W C S ms bags) (hs : w.heap.size ≤ w'.heap.size) (hk : ∀ k, k < w.heap.size → (k = mb ∨ k = kb ∨ some k ∈ ms) → w'.heap[k]? = w.heap[k]?) : Mtr K w' mb kb W C S ms bags := by
  have hmlt : mb < w.heap.size := (Array.getElem?_eq_some_iff.1 h.z.hm).1
  have hklt : kb < w.heap.size := (Array.getElem?_eq_some_iff.1 h.z.hk).1
  refine ⟨⟨(hk mb hmlt (Or.inl rfl)).trans h.z.hm, (hk kb hklt (Or.inr (Or.inl rfl))).trans h.z.hk⟩, h.len, fun i m g h1 h2 => (h.sl i m g h1 h2).block (fun b hb => ?_), h.nd, h.hW, h.hC, h.hn, fun k hK => ?_⟩
  · subst hb
    have hm := List.mem_of_getElem? h1
    exact hk b (h.apart hm).2.2 (Or.inr (Or.inr hm))
  · obtain ⟨a1, a2⟩ := h.out k hK
    exact ⟨Nat.lt_of_lt_of_le a1 hs, a2⟩

end Go.Proofs.YtgekdmjneogdoaaGreatDoor

namespace Go.Proofs.YtgekdmjneogdoaaGreatDoor
open Go.RowKit Go.Shelf Go.Maps

/-- what the rule's part of the document's meter holds -/
structure RuleS where
  ru : Bool
  lo : Int
  hi : Int
  le : Int
  mo : Int
  re : Int
  wk : Int
  ch : Int

def rule0 : RuleS := ⟨false, 0, 0, 0, 0, 0, 1, -1⟩

abbrev Cnt := Nat × Int
def flatC (l : List Cnt) : List Value := l.flatMap fun x => [.int .i64 x.1, .int .i64 x.2]

def rcells (n W C : Nat) (v : Value) (s : RuleS) : Array Value :=
  #[.int .i64 n, .int .i64 W, .int .i64 C, v, .bool s.ru, .int .i64 s.lo, .int .i64 s.hi, .int .i64 s.le, .int .i64 s.mo, .int .i64 s.re, .int .i64 s.wk, .int .i64 s.ch]

/-- the document's meter at a block -/
structure RMt (K : Nat → Prop) (w : World) (yb n W C : Nat) (v : Value) (s : RuleS) (l : List Cnt) : Prop where
  hm : w.heap[yb]? = some (.cells (rcells n W C v s) 172 (0, 0))
  own : w.ownsRow 0 241 2 v l.length (flatC l)
  out : ∀ g, v.ownBlock = some g → ¬ K g
  outy : ¬ K yb
  lt : ∀ k, K k → k < w.heap.size
  hW : 1 ≤ W ∧ W ≤ 1000000
  hC : C ≤ 1099511627776
  hn : 1 ≤ n ∧ n ≤ 8

theorem RMt.c1 {K : Nat → Prop} {w : World} {yb n W C : Nat} {v : Value} {s : RuleS} {l : List Cnt} (h : RMt K w yb n W C v s l) : w.cell? ⟨yb, 1, none⟩ = some (.int .i64 W) := by simp [World.cell?, h.hm, rcells]
theorem RMt.c3 {K : Nat → Prop} {w : World} {yb n W C : Nat} {v : Value} {s : RuleS} {l : List Cnt} (h : RMt K w yb n W C v s l) : w.cell? ⟨yb, 3, none⟩ = some v := by simp [World.cell?, h.hm, rcells]
theorem RMt.below {K : Nat → Prop} {w w' : World} {yb n W C : Nat} {v : Value} {s : RuleS} {l : List Cnt} (h : RMt K w yb n W C v s l) (hb : Below w.heap.size w w') : RMt K w' yb n W C v s l :=
  ⟨(hb.block yb (Array.getElem?_eq_some_iff.1 h.hm).1).trans h.hm, h.own.kept (Below.grownBy hb) (by cases v.ownBlock <;> simp), h.out, h.outy, fun k hk => Nat.lt_of_lt_of_le (h.lt k hk) hb.size, h.hW, h.hC, h.hn⟩

end Go.Proofs.YtgekdmjneogdoaaGreatDoor

namespace Go.Proofs.YtgekdmjneogdoaaGreatDoor
open Go.RowKit Go.Shelf Go.Maps

/-! the samples of both meters: their slice, their bucket -/
abbrev Sb := Nat × Nat

def bagAt (l : List Sb) (cw i : Nat) : List Nat := (l.filter fun x => decide (x.1 + i = cw)).map (·.2)
def bagsOf (l : List Sb) (cw n : Nat) : List (List Nat) := (List.range n).map (bagAt l cw)
def cntOf (l : List Sb) : List Cnt := l.map fun x => (x.1, ordI x.2)

end Go.Proofs.YtgekdmjneogdoaaGreatDoor

namespace Go.Proofs.YtgekdmjneogdoaaGreatDoor
open Go.RowKit Go.Shelf Go.Maps

def OwX (mb kb : Nat) (ms : List (Option Nat)) (k : Nat) : Prop := k = mb ∨ k = kb ∨ some k ∈ ms
def OwY (yb : Nat) (v : Value) (k : Nat) : Prop := k = yb ∨ v.ownBlock = some k
def OwP (mb kb : Nat) (ms : List (Option Nat)) (yb : Nat) (v : Value) (k : Nat) : Prop := OwX mb kb ms k ∨ OwY yb v k

theorem RMt.kept {K J : Nat → Prop} {w w' : World} {yb n W C : Nat} {v : Value} {s : RuleS} {l : List Cnt} (h : RMt K w yb n W C v s l) (hk : Kept J w w') (hj : ∀ k, OwY yb v k → J k) : RMt (fun _ => False) w' yb n W C v s l := by
  refine ⟨(hk.block yb (hj yb (Or.inl rfl))).trans h.hm, ⟨h.own.1, ?_⟩, fun _ _ hf => hf, fun hf => hf, fun _ hf => hf.elim, h.hW, h.hC, h.hn⟩
  rcases h.own.2 with h0 | ⟨g, cap, cur, rfl, hb, hgg, rest⟩
  · exact Or.inl h0
  · exact Or.inr ⟨g, cap, cur, rfl, hb, (hk.block g (hj g (Or.inr rfl))).trans hgg, rest⟩

/-- the blocks are there -/
theorem Mtr.own_lt {K : Nat → Prop} {w : World} {mb kb W C : Nat} {S : MS} {ms : List (Option Nat)} {bags : List (List Nat)} (h : Mtr K w mb kb W C S ms bags) : ∀ k, OwX mb kb ms k → k < w.heap.size := by
  rintro k (rfl | rfl | hk)
  · exact (Array.getElem?_eq_some_iff.1 h.z.hm).1
  · exact (Array.getElem?_eq_some_iff.1 h.z.hk).1
  · exact (h.apart hk).2.2

theorem RMt.own_lt {K : Nat → Prop} {w : World} {yb n W C : Nat} {v : Value} {s : RuleS} {l : List Cnt} (h : RMt K w yb n W C v s l) : ∀ k, OwY yb v k → k < w.heap.size := by
  rintro k (rfl | hk)
  · exact (Array.getElem?_eq_some_iff.1 h.hm).1
  · exact (h.own.lt k hk).2

/-- a meter of the program's beside the document's, with the same samples -/
structure PrS (w : World) (mb yb n W C : Nat) (l : List Sb) (kb : Nat) (ms : List (Option Nat)) (v : Value) : Prop where
  x : Mtr (fun _ => False) w mb kb W C MS.zero ms (bagsOf l (C / W) n)
  y : RMt (fun _ => False) w yb n W C v rule0 (cntOf l)
  hn : ms.length = n
  le : ∀ q ∈ l, q.1 ≤ C / W
  isb : ∀ q ∈ l, isB q.2

/-- one step: what else there is stays -/
structure StepP (w w' : World) (O O' : Nat → Prop) : Prop where
  os : w'.os = w.os
  tape : w'.tape = w.tape
  output : w'.output = w.output
  size : w.heap.size ≤ w'.heap.size
  keep : ∀ k, k < w.heap.size → ¬ O k → w'.heap[k]? = w.heap[k]?
  own : ∀ k, O' k → O k ∨ w.heap.size ≤ k

end Go.Proofs.YtgekdmjneogdoaaGreatDoor

namespace Go.Proofs.YtgekdmjneogdoaaGreatDoor
open Go.RowKit Go.Shelf Go.Maps

theorem PrS.below {w w' : World} {mb yb n W C : Nat} {l : List Sb} {kb : Nat} {ms : List (Option Nat)} {v : Value} (h : PrS w mb yb n W C l kb ms v) (hb : Below w.heap.size w w') : PrS w' mb yb n W C l kb ms v :=
  ⟨h.x.below hb, h.y.below hb, h.hn, h.le, h.isb⟩

abbrev opV (kd wn A B Cc : Int) (S : ByteArray) (V U : Nat) (Lv : Value) : Value := .agg #[.int .i64 kd, .int .i64 wn, .int .i64 A, .int .i64 B, .int .i64 Cc, .string S, .int .u64 V, .int .u64 U, Lv]
abbrev opB (kd wn A B Cc : Int) (S : ByteArray) (V U : Nat) (Lv : Value) : Obj := .cells #[.int .i64 kd, .int .i64 wn, .int .i64 A, .int .i64 B, .int .i64 Cc, .string S, .int .u64 V, .int .u64 U, Lv] 76 (0, 0)
abbrev pairB (mb yb : Nat) : Obj := .cells #[.pointer (some ⟨mb, 0, none⟩), .pointer (some ⟨yb, 0, none⟩)] 118 (0, 0)

/-- the pair's and the step's own blocks, wherever they lie -/
structure Boxes (w : World) (pb ob mb yb : Nat) (kd wn A B Cc : Int) (S : ByteArray) (V U : Nat) (Lv : Value) : Prop where
  p : w.heap[pb]? = some (pairB mb yb)
  o : w.heap[ob]? = some (opB kd wn A B Cc S V U Lv)

end Go.Proofs.YtgekdmjneogdoaaGreatDoor

namespace Go.Proofs.YtgekdmjneogdoaaGreatDoor
open Go.RowKit Go.Shelf Go.Maps

/-- a pair's places and numbers -/
structure Pr where
  mb : Nat
  yb : Nat
  n : Nat
  W : Nat
  C : Nat
  l : List Sb
  kb : Nat
  ms : List (Option Nat)
  v : Value

def Pr.ok (w : World) (p : Pr) : Prop := PrS w p.mb p.yb p.n p.W p.C p.l p.kb p.ms p.v
def Pr.own (p : Pr) : Nat → Prop := OwP p.mb p.kb p.ms p.yb p.v

theorem Pr.ok.same {w w' : World} {p : Pr} (h : p.ok w) (hs : w.heap.size ≤ w'.heap.size) (hk : ∀ k, k < w.heap.size → p.own k → w'.heap[k]? = w.heap[k]?) (ho : w'.os = w.os) (ht : w'.tape = w.tape) (hu : w'.output = w.output) : p.ok w' := by
  refine ⟨h.x.same hs (fun k h1 h2 => hk k h1 (Or.inl h2)), ?_, h.hn, h.le, h.isb⟩
  exact h.y.kept (J := OwY p.yb p.v) ⟨ho, ht, hu, hs, fun k h1 => hk k (h.y.own_lt k h1) (Or.inr h1)⟩ (fun _ h1 => h1)

theorem Pr.ok.lt {w : World} {p : Pr} (h : p.ok w) : ∀ k, p.own k → k < w.heap.size := by
  rintro k (hk | hk)
  · exact h.x.own_lt k hk
  · exact h.y.own_lt k hk

def flatP (ps : List Pr) : List Value := ps.flatMap fun p => [.pointer (some ⟨p.mb, 0, none⟩), .pointer (some ⟨p.yb, 0, none⟩)]
def wcells (av : Value) : Array Value := #[av, .slice none 0 0, .slice none 0 0, .slice none 0 0, .slice none 0 0, .int .i64 0]

/-- the script's world: its meters; nothing else is kept -/
structure WS (w0 w : World) (zb : Nat) (av : Value) (ps : List Pr) (tot : Nat) : Prop where
  hz : w.heap[zb]? = some (.cells (wcells av) 72 (0, 0))
  row : w.ownsRow w0.heap.size 118 2 av ps.length (flatP ps)
  ok : ∀ p ∈ ps, p.ok w
  apart : ps.Pairwise fun p q => ∀ k, p.own k → ¬ q.own k
  low : ∀ p ∈ ps, ∀ k, p.own k → w0.heap.size ≤ k
  lowz : w0.heap.size ≤ zb
  bel : Below w0.heap.size w0 w
  few : ∀ p ∈ ps, p.l.length ≤ tot
  len : ps.length ≤ tot + 1

theorem WS.c1 {w0 w : World} {zb : Nat} {av : Value} {ps : List Pr} {tot : Nat} (h : WS w0 w zb av ps tot) : w.cell? ⟨zb, 1, none⟩ = some (.slice none 0 0) := by simp [World.cell?, h.hz, wcells]
theorem WS.c3 {w0 w : World} {zb : Nat} {av : Value} {ps : List Pr} {tot : Nat} (h : WS w0 w zb av ps tot) : w.cell? ⟨zb, 3, none⟩ = some (.slice none 0 0) := by simp [World.cell?, h.hz, wcells]
/-- what only makes new blocks -/
theorem WS.below {w0 w w' : World} {zb : Nat} {av : Value} {ps : List Pr} {tot : Nat} (h : WS w0 w zb av ps tot) (hb : Below w.heap.size w w') : WS w0 w' zb av ps tot :=
  ⟨(hb.block zb (Array.getElem?_eq_some_iff.1 h.hz).1).trans h.hz, h.row.kept (Below.grownBy hb) (by cases av.ownBlock <;> simp), fun p hp => (h.ok p hp).same hb.size (fun k hk _ => hb.block k hk) hb.os hb.tape hb.output, h.apart, h.low, h.lowz, h.bel.trans (hb.mono h.bel.size), h.few, h.len⟩

end Go.Proofs.YtgekdmjneogdoaaGreatDoor

namespace Go.Proofs.YtgekdmjneogdoaaGreatDoor
open Go.RowKit Go.Shelf Go.Maps

theorem WS.more {w0 w : World} {zb : Nat} {av : Value} {ps : List Pr} {tot tot' : Nat} (h : WS w0 w zb av ps tot) (ht : tot ≤ tot') : WS w0 w zb av ps tot' :=
  ⟨h.hz, h.row, h.ok, h.apart, h.low, h.lowz, h.bel, fun p hp => Nat.le_trans (h.few p hp) ht, by have := h.len; omega⟩

end Go.Proofs.YtgekdmjneogdoaaGreatDoor

namespace Go.Proofs.YtgekdmjneogdoaaGreatDoor
open Go.RowKit Go.Shelf Go.Maps

set_option maxRecDepth 40000 in
set_option maxHeartbeats 1600000 in
theorem lawkept_ok {w0 w : World} {zb : Nat} {av : Value} {ps : List Pr} {tot : Nat} (h : WS w0 w zb av ps tot) :
    Calls Tryz.prog 38 #[.pointer (some ⟨zb, 0, none⟩)] w fun e w' => e = .returned (.bool true) ∧ w' = w := by
  have c1 := h.c1
  have c3 := h.c3
  clear h
  go_enter Tryz.func38, Tryz.ntmps38
  go_wp2_with fail
  go_loopw [3, 4] (fun i _ wr => i = .int .i64 0 ∧ w = wr) (fun _ _ _ => 0)
  case atStart => exact ⟨rfl, rfl⟩
  case round =>
    obtain ⟨rfl, rfl⟩ := hrel
    go_wp2_with fail
    go_loopw [5, 6] (fun i _ wr => i = .int .i64 0 ∧ w = wr) (fun _ _ _ => 0)
    case atStart => exact ⟨rfl, rfl⟩
    case round =>
      obtain ⟨rfl, rfl⟩ := hrel
      go_wp2_with fail
      go_ret
      exact ⟨rfl, rfl⟩
end Go.Proofs.YtgekdmjneogdoaaGreatDoor

namespace Go.Proofs.YtgekdmjneogdoaaGreatDoor
open Go.RowKit Go.Shelf Go.Maps

structure OpR where
  kd : Int
  wn : Int
  A : Int
  B : Int
  Cc : Int
  S : ByteArray
  V : Nat
  U : Nat
  Lv : Value

def OpR.good (o : OpR) : Prop := -9223372036854775808 ≤ o.kd ∧ o.kd ≤ 9223372036854775807 ∧ -9223372036854775808 ≤ o.wn ∧ o.wn ≤ 9223372036854775807 ∧ o.V < 18446744073709551616

/-- a slice that reads as steps, in blocks of K -/
def RdO (K : Nat → Prop) (w : World) (v : Value) (os : List OpR) : Prop :=
  ∃ ao cap, v = .slice ao os.length cap ∧ os.length ≤ cap ∧ (0 < os.length → ∃ g o, K g ∧ ao = some ⟨g, o, none⟩ ∧ ∀ (j : Nat) (p : OpR), os[j]? = some p →
    w.cell? ⟨g, o + j * 9, none⟩ = some (.int .i64 p.kd) ∧ w.cell? ⟨g, o + j * 9 + 1, none⟩ = some (.int .i64 p.wn) ∧ w.cell? ⟨g, o + j * 9 + 2, none⟩ = some (.int .i64 p.A) ∧ w.cell? ⟨g, o + j * 9 + 3, none⟩ = some (.int .i64 p.B) ∧ w.cell? ⟨g, o + j * 9 + 4, none⟩ = some (.int .i64 p.Cc) ∧
    w.cell? ⟨g, o + j * 9 + 5, none⟩ = some (.string p.S) ∧ w.cell? ⟨g, o + j * 9 + 6, none⟩ = some (.int .u64 p.V) ∧ w.cell? ⟨g, o + j * 9 + 7, none⟩ = some (.int .u64 p.U) ∧ w.cell? ⟨g, o + j * 9 + 8, none⟩ = some p.Lv ∧ (∃ a l c, p.Lv = .slice a l c))

theorem ws_start (w : World) : WS w (w.alloc (.cells (wcells (.slice none 0 0)) 72)) w.heap.size (.slice none 0 0) [] 0 :=
  ⟨heap_alloc_new w _, World.ownsRow_nil _ _ _ _, (fun p hp => by cases hp), List.Pairwise.nil, (fun p hp => by cases hp), Nat.le_refl _, (Below.refl _ w).alloc (Nat.le_refl _) _, (fun p hp => by cases hp), by simp⟩

end Go.Proofs.YtgekdmjneogdoaaGreatDoor
