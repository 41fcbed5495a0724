import Derived.Test.YtgekdmjneogdoaaGreatDoorYMq1
import Derived.Test.YtgekdmjneogdoaaGreatDoorShelfB
import Derived.Sort.Grow
import Derived.Laws.OwnMore
namespace Go.Proofs.YtgekdmjneogdoaaGreatDoor
open Go.RowKit Go.Shelf Go.Maps Go.Sort Go.Lib

theorem nodup_le : ∀ (l m : List Nat), l.Nodup → (∀ x ∈ l, x ∈ m) → l.length ≤ m.length
  | [], _, _, _ => Nat.zero_le _
  | a :: l, m, hn, hs => by
    obtain ⟨h1, h2⟩ := List.nodup_cons.1 hn
    have ha : a ∈ m := hs a (by simp)
    have := nodup_le l (m.erase a) h2 (fun x hx => by
      have hne : x ≠ a := fun e => by subst e; exact h1 hx
      exact (List.mem_erase_of_ne hne).2 (hs x (by simp [hx])))
    rw [List.length_erase_of_mem ha] at this
    have hp : 0 < m.length := List.length_pos_of_mem ha
    simp only [List.length_cons]
    omega

section
variable {α : Type} [Inhabited α] (enc : α → Value)

theorem holdsE {w : World} {g : Nat} {cur : Array Value} {e : TypeId} {ys : List α} (hb : w.heap[g]? = some (.cells cur e (0, 0))) (ht : cur.toList.take ys.length = ys.map enc) : Holds enc w g 0 ys.toArray := by
  intro j hj
  have hj' : j < ys.length := by simpa using hj
  have h1 : (cur.toList.take ys.length)[j]? = (ys.map enc)[j]? := by rw [ht]
  rw [List.getElem?_take_of_lt hj', List.getElem?_map, List.getElem?_eq_getElem hj'] at h1
  refine ⟨?_, by simp [World.frozen?, hb]⟩
  have h2 : cur[j]? = some (enc ys[j]) := by rw [← Array.getElem?_toList]; exact h1
  simp [World.cell?, hb, h2, hj']

theorem heapE {w : World} {g n : Nat} {os : Array Obj} {cur : Array Value} {e : TypeId} {fr : Nat × Nat} (d : Array α) (hb : w.heap[g]? = some (.cells cur e fr)) :
    (grow (putRow enc (Sort.ahead w n) g 0 d) os).heap[g]? = some (.cells (putCells enc 0 d cur) e fr) := by
  have hg : g < w.heap.size := (Array.getElem?_eq_some_iff.1 hb).1
  rw [heap_grow_old _ _ (by simpa using hg)]
  simp [putRow, mapBlock, Sort.ahead, Array.getElem?_modify, hb, onCells]

theorem grownE {w : World} {g n : Nat} {os : Array Obj} (d : Array α) : w.grownBy (grow (putRow enc (Sort.ahead w n) g 0 d) os) (some g) := by
  refine ⟨rfl, rfl, rfl, by simp, fun k hk hne => ?_⟩
  have hgk : g ≠ k := fun e => hne (by rw [e])
  rw [heap_grow_old _ _ (by simpa using hk)]
  simp [putRow, mapBlock, Sort.ahead, Array.getElem?_modify, hgk]

theorem takeE (cur : Array Value) (ts : List α) (h : ts.length ≤ cur.size) : (putCells enc 0 ts.toArray cur).toList.take ts.length = ts.map enc := by
  apply List.ext_getElem?
  intro j
  by_cases hj : j < ts.length
  · rw [List.getElem?_take_of_lt hj, Array.getElem?_toList, List.getElem?_map, List.getElem?_eq_getElem hj]
    have : j < cur.size := by omega
    simp [putCells, this, hj]
  · rw [List.getElem?_eq_none (by simp; omega), List.getElem?_eq_none (by simp; omega)]

theorem ownsE {w : World} {base g cap n : Nat} {e : TypeId} {os : Array Obj} {cur : Array Value} {ys ts : List α} (hl : ts.length = ys.length) (hbase : base ≤ g) (hb : w.heap[g]? = some (.cells cur e (0, 0)))
    (h1 : ys.length ≤ cap) (h2 : cap ≤ maxLen) (h3 : cur.size = cap * 1) :
    (grow (putRow enc (Sort.ahead w n) g 0 ts.toArray) os).ownsRow base e 1 (.slice (some ⟨g, 0, none⟩) ys.length cap) ys.length (ts.map enc) :=
  ⟨by simp [hl], .inr ⟨g, cap, _, rfl, hbase, heapE enc _ hb, h1, h2, by simp [putCells, h3], by rw [Nat.mul_one, ← hl]; exact takeE enc cur ts (by omega)⟩⟩
end

set_option maxRecDepth 20000 in
set_option maxHeartbeats 1600000 in
/-- SortedFunc of a tally's keys, whatever type tells them -/
theorem sortedF {α : Type} [Inhabited α] (val : α → Nat) (cf : α → α → Int) (hO : SWO (ltOf cf)) (hTo : ∀ x y, (ltOf cf) x y = false → (ltOf cf) y x = false → x = y)
    (hcmp : ∀ (x y : α) (w : World), Calls Tryz.prog 88 #[.int .u64 (val x), .int .u64 (val y)] w fun e w' => e = .returned (.int .i64 (cf x y)) ∧ w' = w)
    (Bm b : Nat) (xs : List α) (w : World) (hl : xs.length < 4611686018427387904 / 1000000) (hBm : Bm < w.heap.size) (hm : w.cell? ⟨Bm, 0, none⟩ = some (.map (some b))) (hT : Tal w b (xs.map val)) :
    Calls Tryz.prog 86 #[.func (.func 144) #[] #[.pointer (some ⟨Bm, 0, none⟩)], .func (.func 88) #[] #[]] w fun e W' => ∃ (v : Value) (ys : List α), e = .returned v ∧ ((ys.map val).Nodup ∧ ∀ y, y ∈ ys.map val ↔ y ∈ xs.map val) ∧
      W'.ownsRow w.heap.size 25 1 v ys.length ((ys.mergeSort fun x y => !(ltOf cf) y x).map (encV val)) ∧ Below w.heap.size w W' := by
  have HC := hide ((callsIn_wide (n := 4)).1 (collect_in val Fence.wide 4 trivial trivial trivial rfl (by omega) Bm b xs w hl hBm hm hT))
  have eg : ∀ args w, (callFunc 88 args).run Tryz.prog w = .ok (.enter 88 args) w := enters_of Tryz.func88 (by kernel_rfl) rfl
  have HE := hide eg
  have hsmall := hide (And.intro hl (And.intro hm hT))
  clear hm hT eg
  go_enter Tryz.func86, Tryz.ntmps86
  go_wp2_with fail
  refine (unhide HC).mono ?_
  rintro e w1 ⟨v, ys, rfl, hS, hrow, hnil, hb⟩
  rcases hrow.2 with ⟨rfl, hz⟩ | ⟨gb, cap, cur, rfl, hbase, hgb, r1, r2, r3, r4⟩
  · obtain rfl : ys = [] := List.eq_nil_of_length_eq_zero hz
    have HN := hide (Tryz.slices_SortFunc_none (α := α) none 0 (.func (.func 88) #[] #[]) w1)
    have HR := hide (And.intro hS (And.intro hrow hb))
    clear hS hrow hnil hb
    go_wp2_with fail
    refine (unhide HN).mono ?_
    rintro e w2 ⟨rfl, e2⟩
    rw [e2]
    clear e2 w2
    go_wp2_with fail
    go_ret
    exact ⟨.slice none 0 0, [], rfl, (unhide HR).1, by simpa using (unhide HR).2.1, (unhide HR).2.2⟩
  · have hylen : ys.length < 4611686018427387904 := by
      have := hrow.1
      have h2 : cap ≤ maxLen := r2
      unfold maxLen at h2
      have h3 : ys.length ≤ xs.length := by
        have h4 := nodup_le _ _ hS.1 (fun y hy => (hS.2 y).1 hy)
        simpa using h4
      omega
    have hH : Holds (encV val) w1 gb 0 ys.toArray := holdsE (encV val) hgb (by simpa using r4)
    have hgl : gb < w1.heap.size := (Array.getElem?_eq_some_iff.1 hgb).1
    have hSo := Tryz.slices_SortFunc_total (encV val) (fun _ => rfl) cf hO 88 #[] gb 0 cap ys.toArray w1 (unhide HE) (CmpReads.lays (fun m os dk _ x y => (hcmp x y _).mono (fun e w' h => ⟨h.1, 0, h.2⟩))) hH hgl (by simpa using hylen) hTo
    simp only [List.size_toArray] at hSo
    have HSo := hide hSo
    have HR := hide (And.intro hS (And.intro hb (And.intro hbase (And.intro hgb (And.intro r1 (And.intro r2 r3))))))
    clear hS hrow hnil hb hSo hH hgl hgb r4 r3 r2 r1 hbase hylen
    go_wp2_with fail
    refine (unhide HSo).mono ?_
    rintro e w2 ⟨rfl, n, os, hw2⟩
    obtain ⟨h1, h2, h3, h4, h5, h6, h7⟩ := unhide HR
    have ho := ownsE (encV val) (n := n) (os := os) (ts := ys.mergeSort fun x y => !(ltOf cf) y x) (by simp) h3 h4 h5 h6 h7
    have hg : w1.grownBy w2 (some gb) := by rw [hw2]; exact grownE (encV val) _
    have ho2 : w2.ownsRow w.heap.size 25 1 (.slice (some ⟨gb, 0, none⟩) ys.length cap) ys.length ((ys.mergeSort fun x y => !(ltOf cf) y x).map (encV val)) := by rw [hw2]; exact ho
    have hb2 : Below w.heap.size w w2 := h2.grown hg h2.size (fun j hj => by cases hj; exact h3)
    have HF := hide (And.intro h1 (And.intro ho2 hb2))
    clear h1 h2 h3 h4 h5 h6 h7 ho hg ho2 hb2 hw2
    go_wp2_with fail
    go_ret
    exact ⟨_, ys, rfl, (unhide HF).1, (unhide HF).2.1, (unhide HF).2.2⟩

theorem swo_none {α : Type} : SWO (ltOf (fun (_ _ : α) => (0 : Int))) where
  irrefl x := by simp [ltOf]
  trans x y z h1 _ := by simp [ltOf] at h1
  ntrans x y z _ _ := by simp [ltOf]

/-- a bag of one bucket: the one key -/
theorem sorts_one (x m : Nat) (hx : (FloatKind.f64.format.order x x != some .eq) = false) (hm : 1 ≤ m) (hm2 : m < 1000000000) : SortsTo (List.replicate m x) [x] := by
  intro w b hT
  have hc : cmpV x x = 0 := by
    have h1 : FloatKind.f64.format.order x x = some .eq := by
      simpa using hx
    unfold cmpV
    rw [h1]
    rfl
  have e0 : (List.replicate m ()).map (fun _ : Unit => x) = List.replicate m x := by simp
  have h0 := sortedF (α := Unit) (fun _ => x) (fun _ _ => 0) swo_none (fun _ _ _ _ => rfl) (fun _ _ w => by have := compare_any x x w hx hx; rw [hc] at this; exact this) w.heap.size b (List.replicate m ())
    (w.alloc (.cells #[.map (some b)] 96)) (by simp; omega) (by simp) (World.cell?_alloc_at _ _ _ _ rfl) (by rw [e0]; exact hT.block (Below.heap_alloc w _ b hT.lt))
  refine h0.mono ?_
  rintro e W' ⟨v, ys, rfl, ⟨hnd, hmem⟩, hrow, hb⟩
  rw [World.size_alloc] at hrow hb
  have hy : ys = [()] := by
    cases ys with
    | nil =>
      have := (hmem x).2 (by rw [e0]; exact List.mem_replicate.2 ⟨by omega, rfl⟩)
      simp at this
    | cons a r =>
      cases r with
      | nil => rfl
      | cons a' r =>
        simp at hnd
  subst hy
  refine ⟨v, rfl, ?_, hb⟩
  simpa using hrow
end Go.Proofs.YtgekdmjneogdoaaGreatDoor
