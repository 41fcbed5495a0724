import Derived.Test.YtgekdmjneogdoaaGreatDoorZRm1
namespace Go.Proofs.YtgekdmjneogdoaaGreatDoor
open Go.RowKit Go.Shelf Go.Maps

/-- what the rule's part of the document's meter holds -/
structure RuleS where
  ru : Bool
  lo : Int
  hi : Int
  le : Int
  mo : Int
  re : Int
  wk : Int
  ch : Int

def rule0 : RuleS := ⟨false, 0, 0, 0, 0, 0, 1, -1⟩

abbrev Cnt := Nat × Int
def flatC (l : List Cnt) : List Value := l.flatMap fun x => [.int .i64 x.1, .int .i64 x.2]

theorem flatC_snoc (l : List Cnt) (x : Cnt) : flatC (l ++ [x]) = flatC l ++ [.int .i64 x.1, .int .i64 x.2] := by simp [flatC]

def rcells (n W C : Nat) (v : Value) (s : RuleS) : Array Value :=
  #[.int .i64 n, .int .i64 W, .int .i64 C, v, .bool s.ru, .int .i64 s.lo, .int .i64 s.hi, .int .i64 s.le, .int .i64 s.mo, .int .i64 s.re, .int .i64 s.wk, .int .i64 s.ch]

/-- the document's meter at a block -/
structure RMt (K : Nat → Prop) (w : World) (yb n W C : Nat) (v : Value) (s : RuleS) (l : List Cnt) : Prop where
  hm : w.heap[yb]? = some (.cells (rcells n W C v s) 172 (0, 0))
  own : w.ownsRow 0 241 2 v l.length (flatC l)
  out : ∀ g, v.ownBlock = some g → ¬ K g
  outy : ¬ K yb
  lt : ∀ k, K k → k < w.heap.size
  hW : 1 ≤ W ∧ W ≤ 1000000
  hC : C ≤ 1099511627776
  hn : 1 ≤ n ∧ n ≤ 8

theorem RMt.c0 {K : Nat → Prop} {w : World} {yb n W C : Nat} {v : Value} {s : RuleS} {l : List Cnt} (h : RMt K w yb n W C v s l) : w.cell? ⟨yb, 0, none⟩ = some (.int .i64 n) := by simp [World.cell?, h.hm, rcells]
theorem RMt.c1 {K : Nat → Prop} {w : World} {yb n W C : Nat} {v : Value} {s : RuleS} {l : List Cnt} (h : RMt K w yb n W C v s l) : w.cell? ⟨yb, 1, none⟩ = some (.int .i64 W) := by simp [World.cell?, h.hm, rcells]
theorem RMt.c2 {K : Nat → Prop} {w : World} {yb n W C : Nat} {v : Value} {s : RuleS} {l : List Cnt} (h : RMt K w yb n W C v s l) : w.cell? ⟨yb, 2, none⟩ = some (.int .i64 C) := by simp [World.cell?, h.hm, rcells]
theorem RMt.c3 {K : Nat → Prop} {w : World} {yb n W C : Nat} {v : Value} {s : RuleS} {l : List Cnt} (h : RMt K w yb n W C v s l) : w.cell? ⟨yb, 3, none⟩ = some v := by simp [World.cell?, h.hm, rcells]
theorem RMt.fr {K : Nat → Prop} {w : World} {yb n W C : Nat} {v : Value} {s : RuleS} {l : List Cnt} (h : RMt K w yb n W C v s l) (i : Nat) : w.frozen? ⟨yb, i, none⟩ = false := by simp [World.frozen?, h.hm]

/-- its row is not its block -/
theorem RMt.ne {K : Nat → Prop} {w : World} {yb n W C : Nat} {v : Value} {s : RuleS} {l : List Cnt} (h : RMt K w yb n W C v s l) : v.ownBlock ≠ some yb := fun e => by
  rcases h.own.2 with ⟨rfl, _⟩ | ⟨g, cap, cur, rfl, hb, hgg, _⟩
  · simp [Value.ownBlock] at e
  · simp [Value.ownBlock] at e
    subst e
    have := h.hm.symm.trans hgg
    injection this with this
    injection this with _ e2 _
    exact absurd e2 (by decide)

theorem RMt.drewN {K : Nat → Prop} {w : World} {yb n W C : Nat} {v : Value} {s : RuleS} {l : List Cnt} (h : RMt K w yb n W C v s l) (q : Nat) : RMt K (w.drewN q) yb n W C v s l :=
  ⟨h.hm, h.own, h.out, h.outy, h.lt, h.hW, h.hC, h.hn⟩

theorem RMt.below {K : Nat → Prop} {w w' : World} {yb n W C : Nat} {v : Value} {s : RuleS} {l : List Cnt} (h : RMt K w yb n W C v s l) (hb : Below w.heap.size w w') : RMt K w' yb n W C v s l :=
  ⟨(hb.block yb (Array.getElem?_eq_some_iff.1 h.hm).1).trans h.hm, h.own.kept (Below.grownBy hb) (by cases v.ownBlock <;> simp), h.out, h.outy, fun k hk => Nat.lt_of_lt_of_le (h.lt k hk) hb.size, h.hW, h.hC, h.hn⟩

set_option maxRecDepth 20000 in
set_option maxHeartbeats 400000 in
theorem refnew_run (n wd : Nat) (hn1 : 1 ≤ n) (hn2 : n ≤ 8) (hw1 : 1 ≤ wd) (hw2 : wd ≤ 1000000) (w : World) :
    Calls Tryz.prog 65 #[.int .i64 n, .int .i64 wd] w fun e w' => e = .returned (.tuple #[.pointer (some ⟨w.heap.size, 0, none⟩), .int .i64 0]) ∧ w' = w.alloc (.cells (rcells n wd 0 (.slice none 0 0) rule0) 172) := by
  go_enter Tryz.func65, Tryz.ntmps65
  go_wp2_with fail
  go_ret2
  exact ⟨rfl, rfl⟩

set_option maxRecDepth 20000 in
set_option maxHeartbeats 400000 in
theorem reftick_bad {K : Nat → Prop} {w : World} {yb n W C : Nat} {v : Value} {s : RuleS} {l : List Cnt} (h : RMt K w yb n W C v s l) (t : Int) (ht : t < C ∨ 1099511627776 < t) :
    Calls Tryz.prog 120 #[.pointer (some ⟨yb, 0, none⟩), .int .i64 t] w fun e w' => e = .returned (.int .i64 5) ∧ w' = w := by
  have c2 := h.c2
  have hC := h.hC
  clear h
  rcases Int.lt_or_le t C with h | h
  · clear ht
    go_enter Tryz.func120, Tryz.ntmps120
    go_wp2_with fail
    go_ret
    exact ⟨rfl, rfl⟩
  · have ht2 : 1099511627776 < t := by omega
    clear ht
    go_enter Tryz.func120, Tryz.ntmps120
    go_wp2_with fail
    go_ret
    exact ⟨rfl, rfl⟩

set_option maxRecDepth 20000 in
set_option maxHeartbeats 400000 in
theorem reftick_ok {K : Nat → Prop} {w : World} {yb n W C : Nat} {v : Value} {s : RuleS} {l : List Cnt} (h : RMt K w yb n W C v s l) (t : Nat) (ht1 : C ≤ t) (ht2 : t ≤ 1099511627776) :
    Calls Tryz.prog 120 #[.pointer (some ⟨yb, 0, none⟩), .int .i64 t] w fun e w' => e = .returned (.int .i64 0) ∧ RMt K w' yb n W t v s l ∧ Kept K w w' := by
  have c2 := h.c2
  have f2 := h.fr 2
  have H := hide h
  have hd1 : decide ((t : Int) < (C : Int)) = false := by simp; omega
  have hd2 : decide ((1099511627776 : Int) < (t : Int)) = false := by simp; omega
  have hd3 : decide (t < C) = false := by simp; omega
  clear h
  go_enter Tryz.func120, Tryz.ntmps120
  go_wp2_with fail
  go_ret
  have h := unhide H
  refine ⟨rfl, ⟨?_, ?_, h.out, h.outy, fun k hk => by simpa using h.lt k hk, h.hW, ht2, h.hn⟩, (Kept.refl K w).setCell h.outy _⟩
  · rw [heap_setCell_same w yb 2 _ _ _ h.hm]
    rfl
  · have hg : w.grownBy (w.setCell ⟨yb, 2, none⟩ (.int .i64 t)) (some yb) := ⟨rfl, rfl, rfl, by simp, fun k _ hne => Below.heap_setCell w ⟨yb, 2, none⟩ _ k (fun e => hne (by rw [e]))⟩
    exact h.own.kept hg (Or.inr h.ne)
end Go.Proofs.YtgekdmjneogdoaaGreatDoor
