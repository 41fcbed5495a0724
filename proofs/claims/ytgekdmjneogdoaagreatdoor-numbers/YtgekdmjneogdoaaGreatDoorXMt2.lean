import Derived.Test.YtgekdmjneogdoaaGreatDoorXChWr
import Derived.Maps.Own
import Derived.Maps.OwnOps
import Derived.Maps.OwnSet
import Derived.Maps.RangeWalk
import Derived.Laws.BitsAll
import Derived.BigQuiet
import Derived.Deep.QuietTactic
import Derived.Laws.CopyRow
import Derived.Deep.RegionWith
namespace Go.Proofs.YtgekdmjneogdoaaGreatDoor
open Go.RowKit Go.Maps

/-! tallies: a map that tells how often each bucket is in a bag -/
theorem lawU : Keyed Tryz.prog 25 := int_keyed Tryz.underlying25

abbrev TK (x : Nat) : Lit := .int .u64 x

def TalD (D : DataW Unit) (bag : List Nat) : Prop :=
  (∀ x ∈ bag, x < 18446744073709551616) ∧ ∀ x : Nat, x < 18446744073709551616 → has D (TK x) = decide (x ∈ bag) ∧ D.atKey (TK x) (.lit (.int .i64 0)) = .lit (.int .i64 (bag.count x : Nat))

def Tal (w : World) (b : Nat) (bag : List Nat) : Prop :=
  ∃ (D : DataW Unit) (n : Nat), w.ownsMap Tryz.prog 25 (plainElem Tryz.prog 3) b n D ∧ n ≤ bag.length ∧ TalD D bag

theorem TalD.empty : TalD (.map []) [] := ⟨by simp, fun x _ => ⟨rfl, rfl⟩⟩

theorem Tal.lt {w : World} {b : Nat} {bag : List Nat} (h : Tal w b bag) : b < w.heap.size := by
  obtain ⟨D, n, h1, _⟩ := h
  exact h1.lt

theorem Tal.block {w w' : World} {b : Nat} {bag : List Nat} (h : Tal w b bag) (hb : w'.heap[b]? = w.heap[b]?) : Tal w' b bag := by
  obtain ⟨D, n, ⟨es, clock, h0, h1⟩, h2, h3⟩ := h
  exact ⟨D, n, ⟨es, clock, hb.trans h0, h1⟩, h2, h3⟩

theorem Tal.kept {K : Nat → Prop} {w w' : World} {b : Nat} {bag : List Nat} (h : Tal w b bag) (hk : Kept K w w') (hb : K b) : Tal w' b bag := h.block (hk.block b hb)

theorem Tal.below {B : Nat} {w w' : World} {b : Nat} {bag : List Nat} (h : Tal w b bag) (hk : Below B w w') (hb : b < B) : Tal w' b bag := h.block (hk.block b hb)

theorem TalD.put {D : DataW Unit} {bag bag' : List Nat} (h : TalD D bag) (hm : IsMap D) {x : Nat} (hx : x < 18446744073709551616) (hin : x ∈ bag') (hsub : ∀ y ∈ bag', y < 18446744073709551616) (hoth : ∀ y, y ≠ x → bag'.count y = bag.count y) :
    TalD (D.put (TK x) (.lit (.int .i64 (bag'.count x : Nat)))) bag' := by
  refine ⟨hsub, fun y hy => ?_⟩
  by_cases e : y = x
  · subst e
    refine ⟨?_, ?_⟩
    · rw [has_put_same hm (by trivial : WideAt.IsKeyLit (Lit.int .u64 (y : Int)))]; simp [hin]
    · rw [atKey_put_same hm (by trivial : WideAt.IsKeyLit (Lit.int .u64 (y : Int)))]
  · have hne : TK y ≠ TK x := fun h => e (by injection h with _ h2; exact Int.ofNat.inj h2)
    refine ⟨?_, ?_⟩
    · rw [has_put_other hne, (h.2 y hy).1]
      apply decide_eq_decide.2
      rw [← List.count_pos_iff, ← List.count_pos_iff, hoth y e]
    · rw [atKey_put_other hne, (h.2 y hy).2, hoth y e]

end Go.Proofs.YtgekdmjneogdoaaGreatDoor

namespace Go.Proofs.YtgekdmjneogdoaaGreatDoor
open Go.RowKit Go.Maps

/-! the meter in memory -/
/-- what a meter has of a rule: its block, the workers, when they changed -/
structure MS where
  rb : Option Nat
  wk : Nat
  ch : Int

abbrev MS.zero : MS := ⟨none, 1, -1099511627776⟩

def rulePtr : Option Nat → Value
  | none => .pointer none
  | some b => .pointer (some ⟨b, 0, none⟩)

abbrev mcells (W C kb n : Nat) (S : MS) : Array Value := #[.int .i64 W, .int .i64 C, .slice (some ⟨kb, 0, none⟩) n n, rulePtr S.rb, .int .i64 S.wk, .int .i64 S.ch]

def Slot (w : World) (m : Option Nat) (bag : List Nat) : Prop := (m = none ∧ bag = []) ∨ ∃ b, m = some b ∧ Tal w b bag

/-- its own two blocks -/
structure Mt0 (w : World) (mb kb W C : Nat) (S : MS) (ms : List (Option Nat)) : Prop where
  hm : w.heap[mb]? = some (.cells (mcells W C kb ms.length S) 94 (0, 0))
  hk : w.heap[kb]? = some (.cells (ms.map Value.map).toArray 96 (0, 0))

theorem Mt0.c1 {w : World} {mb kb W C : Nat} {S : MS} {ms : List (Option Nat)} (h : Mt0 w mb kb W C S ms) : w.cell? ⟨mb, 1, none⟩ = some (.int .i64 C) := by
  simp [World.cell?, h.hm]
end Go.Proofs.YtgekdmjneogdoaaGreatDoor

namespace Go.Proofs.YtgekdmjneogdoaaGreatDoor
open Go.RowKit Go.Maps

/-- the meter with what its slices hold; K: blocks that are not its own -/
structure Mtr (K : Nat → Prop) (w : World) (mb kb W C : Nat) (S : MS) (ms : List (Option Nat)) (bags : List (List Nat)) : Prop where
  z : Mt0 w mb kb W C S ms
  len : ms.length = bags.length
  sl : ∀ (i : Nat) (m : Option Nat) (g : List Nat), ms[i]? = some m → bags[i]? = some g → Slot w m g
  nd : ms.Pairwise (fun a b => a = none ∨ a ≠ b)
  hW : 1 ≤ W ∧ W ≤ 1000000
  hC : C ≤ 1099511627776
  hn : 1 ≤ ms.length ∧ ms.length ≤ 8
  out : ∀ k, K k → k < w.heap.size ∧ k ≠ mb ∧ k ≠ kb ∧ some k ∉ ms

theorem Slot.block {w w' : World} {m : Option Nat} {g : List Nat} (h : Slot w m g) (hb : ∀ b, m = some b → w'.heap[b]? = w.heap[b]?) : Slot w' m g := by
  rcases h with h | ⟨b, rfl, h⟩
  · exact Or.inl h
  · exact Or.inr ⟨b, rfl, h.block (hb b rfl)⟩

/-- a map's block is no row -/
theorem Mtr.apart {K : Nat → Prop} {w : World} {mb kb W C : Nat} {S : MS} {ms : List (Option Nat)} {bags : List (List Nat)} (h : Mtr K w mb kb W C S ms bags) {b : Nat} (hb : some b ∈ ms) : b ≠ mb ∧ b ≠ kb ∧ b < w.heap.size := by
  obtain ⟨i, hi⟩ := List.mem_iff_getElem?.1 hb
  have hi2 : i < ms.length := (List.getElem?_eq_some_iff.1 hi).1
  obtain ⟨g, hg⟩ : ∃ g, bags[i]? = some g := ⟨_, List.getElem?_eq_getElem (by rw [← h.len]; exact hi2)⟩
  rcases h.sl i _ g hi hg with ⟨e, _⟩ | ⟨b', e, hT⟩
  · cases e
  · cases e
    obtain ⟨D, n, ⟨es, clock, h0, _⟩, _⟩ := hT
    refine ⟨fun e => ?_, fun e => ?_, (Array.getElem?_eq_some_iff.1 h0).1⟩
    · subst e; rw [h.z.hm] at h0; cases h0
    · subst e; rw [h.z.hk] at h0; cases h0

end Go.Proofs.YtgekdmjneogdoaaGreatDoor

namespace Go.Proofs.YtgekdmjneogdoaaGreatDoor
open Go.RowKit Go.Maps

theorem wfU (x : Nat) (h : x < 18446744073709551616) : (Lit.int .u64 (x : Int)).wf = true := by
  simp only [Lit.wf, Bool.and_eq_true, decide_eq_true_eq]
  exact (by omega : (0 : Int) ≤ x ∧ (x : Int) ≤ 18446744073709551615)

theorem wfI (x : Nat) (h : x < 9223372036854775808) : (Lit.int .i64 (x : Int)).wf = true := by
  simp only [Lit.wf, Bool.and_eq_true, decide_eq_true_eq]
  exact (by omega : (-9223372036854775808 : Int) ≤ x ∧ (x : Int) ≤ 9223372036854775807)

theorem keyU (x : Nat) (h : x < 18446744073709551616) : keyOf Tryz.prog 25 (.int .u64 x) = some (TK x) := keyOf_int_mk Tryz.underlying25 (wfU x h)

theorem Tal.upd {w : World} {b : Nat} {bag bag' : List Nat} (h : Tal w b bag) (x : Nat) (hx : x < 18446744073709551616) (hin : x ∈ bag') (hsub : ∀ y ∈ bag', y < 18446744073709551616) (hoth : ∀ y, y ≠ x → bag'.count y = bag.count y) (hlen : bag.length + 1 ≤ bag'.length) (hl : bag'.length < 4611686018427387904) :
    ∃ w', (Instr.mapUpdate 96 (.map (some b)) (.int .u64 x) (.int .i64 (bag'.count x : Nat))).run Tryz.prog w = .ok () w' ∧ Tal w' b bag' ∧ w.grownBy w' (some b) := by
  obtain ⟨D, n, hown, hn, hD⟩ := h
  have hc : bag'.count x ≤ bag'.length := List.count_le_length
  obtain ⟨w', hrun, hown', hg⟩ := hown.update (val := .int .i64 (bag'.count x : Nat)) lawU Tryz.underlying96 (by unfold maxLen; omega) (keyU x hx) (plainElem_int Tryz.underlying3 (wfI _ (by omega)))
  exact ⟨w', hrun, ⟨_, n + 1, hown', by omega, hD.put hown.isMap hx hin hsub hoth⟩, hg⟩

theorem Tal.all {w : World} {b : Nat} {bag : List Nat} (h : Tal w b bag) : ∀ x ∈ bag, x < 18446744073709551616 := by
  obtain ⟨D, n, _, _, hD⟩ := h
  exact hD.1

theorem Tal.add {w : World} {b : Nat} {bag : List Nat} (h : Tal w b bag) (x : Nat) (hx : x < 18446744073709551616) (hl : bag.length + 1 < 4611686018427387904) :
    ∃ w', (Instr.mapUpdate 96 (.map (some b)) (.int .u64 x) (.int .i64 ((bag.count x + 1 : Nat) : Int))).run Tryz.prog w = .ok () w' ∧ Tal w' b (bag ++ [x]) ∧ w.grownBy w' (some b) := by
  have h1 : (bag ++ [x]).count x = bag.count x + 1 := by simp
  have := h.upd (bag' := bag ++ [x]) x hx (by simp) (fun y hy => by
    rcases List.mem_append.1 hy with hy | hy
    · exact h.all y hy
    · rw [List.mem_singleton.1 hy]; exact hx) (fun y hy => by simp [List.count_append, Ne.symm hy]) (by simp) (by simp; omega)
  rw [h1] at this
  exact this

/-! what is refused -/
end Go.Proofs.YtgekdmjneogdoaaGreatDoor

namespace Go.Proofs.YtgekdmjneogdoaaGreatDoor
open Go.RowKit Go.Maps

theorem Mt0.alloc {w : World} {mb kb W C : Nat} {S : MS} {ms : List (Option Nat)} (h : Mt0 w mb kb W C S ms) (o : Obj) : Mt0 (w.alloc o) mb kb W C S ms :=
  ⟨(Below.heap_alloc w o mb (Array.getElem?_eq_some_iff.1 h.hm).1).trans h.hm, (Below.heap_alloc w o kb (Array.getElem?_eq_some_iff.1 h.hk).1).trans h.hk⟩

end Go.Proofs.YtgekdmjneogdoaaGreatDoor

namespace Go.Proofs.YtgekdmjneogdoaaGreatDoor
open Go.RowKit Go.Maps

theorem Mtr.below {K : Nat → Prop} {w w' : World} {mb kb W C : Nat} {S : MS} {ms : List (Option Nat)} {bags : List (List Nat)} (h : Mtr K w mb kb W C S ms bags) (hb : Below w.heap.size w w') : Mtr K w' mb kb W C S ms bags := by
  have hmlt : mb < w.heap.size := (Array.getElem?_eq_some_iff.1 h.z.hm).1
  have hklt : kb < w.heap.size := (Array.getElem?_eq_some_iff.1 h.z.hk).1
  exact ⟨⟨(hb.block mb hmlt).trans h.z.hm, (hb.block kb hklt).trans h.z.hk⟩, h.len, fun i m g h1 h2 => (h.sl i m g h1 h2).block (fun b e => hb.block b (h.apart (List.mem_of_getElem? (e ▸ h1))).2.2), h.nd, h.hW, h.hC, h.hn,
    fun k hk => ⟨Nat.lt_of_lt_of_le (h.out k hk).1 hb.size, (h.out k hk).2⟩⟩

end Go.Proofs.YtgekdmjneogdoaaGreatDoor
