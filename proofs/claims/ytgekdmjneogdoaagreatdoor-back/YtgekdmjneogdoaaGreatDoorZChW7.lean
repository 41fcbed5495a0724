import Derived.Test.YtgekdmjneogdoaaGreatDoorZChW6
import Derived.Laws.BytesString
namespace Go.Proofs.YtgekdmjneogdoaaGreatDoor
open Go.RowKit

def bytesOf (l : List Nat) : ByteArray := ⟨(l.map UInt8.ofNat).toArray⟩

theorem push_nats : ∀ (l : List Nat) (s : ByteArray), (l.map fun (b : Nat) => (b : Int)).foldl (fun r n => r.push (UInt8.ofNat n.toNat)) s = ⟨(s.data.toList ++ l.map UInt8.ofNat).toArray⟩ := by
  intro l
  induction l with
  | nil => intro s; cases s; simp
  | cons c r ih =>
    intro s
    simp only [List.map_cons, List.foldl_cons]
    rw [ih]
    simp [ByteArray.push]

theorem string_of_own {w : World} {base g cap : Nat} {l : List Nat} (h : w.ownsRow base 5 1 (.slice (some ⟨g, 0, none⟩) l.length cap) l.length (l.map encO)) :
    (convert 135 9 (.slice (some ⟨g, 0, none⟩) l.length cap)).run Tryz.prog w = .ok (.string (bytesOf l)) w := by
  rw [run_convert_bytes_string w _ _ 5 _ _ _ Tryz.underlying135 Tryz.underlying5 Tryz.underlying9]
  have h1 := run_loadCells_list (P := Tryz.prog) (w := w) ⟨g, 0, none⟩ (l.map encO) (h.cells (g := g) rfl)
  rw [List.length_map] at h1
  have h2 : l.map encO = (l.map fun (b : Nat) => (b : Int)).map (Value.int .u8) := by simp
  rw [h2] at h1
  rw [run_bytesToString w _ _ _ _ h1, push_nats]
  rfl

abbrev Under (w : World) : Nat → Prop := fun k => k < w.heap.size

set_option maxRecDepth 20000 in
set_option maxHeartbeats 800000 in
theorem chunkOf_any (v : Value) (l : List Smp) (w : World) (hv : RdS (Under w) w v l) (hl : l.length ≤ 40) (hs : ∀ x ∈ l, SOk x) (hT : CTabs w) (hG : GK (Under w)) :
    Calls Tryz.prog 50 #[v] w fun e w' => e = .returned (.string (bytesOf (chunkN l))) ∧ Below w.heap.size w w' := by
  have HW : Hid (∀ ty, Calls Tryz.prog 81 #[.pointer (some ⟨w.heap.size, 0, none⟩), v] (w.alloc (.cells #[.slice none 0 0, .int .u8 0, .int .i64 0] ty)) fun e w' => e = .returned (.tuple #[]) ∧ Wr (Under w) w' w.heap.size (padN (packN l)) ∧ Kept (Under w) (w.alloc (.cells #[.slice none 0 0, .int .u8 0, .int .i64 0] ty)) w') := by
    intro ty
    have hk : Kept (Under w) w (w.alloc (.cells #[.slice none 0 0, .int .u8 0, .int .i64 0] ty)) := (Kept.refl _ w).alloc (fun _ h => h) _
    have hw0 : Wr (Under w) (w.alloc (.cells #[.slice none 0 0, .int .u8 0, .int .i64 0] ty)) w.heap.size [] :=
      ⟨.slice none 0 0, ty, heap_alloc_new w _, World.ownsRow_nil _ _ _ _, fun g hg => by cases hg⟩
    have hK : ∀ k, Under w k → k < (w.alloc (.cells #[.slice none 0 0, .int .u8 0, .int .i64 0] ty)).heap.size := fun k (hk : k < w.heap.size) => by simp; omega
    cases l with
    | nil => exact writeSamples_nil _ _ v _ (Nat.lt_irrefl _) hK hw0 (hv.kept hk)
    | cons s r => exact writeSamples_cons _ _ v s r _ (Nat.lt_irrefl _) hK hw0 (hv.kept hk) (by simp at hl; omega) hs (hT.kept hG hk) hG
  clear hv hT hs
  go_enter Tryz.func50, Tryz.ntmps50
  go_wp2_with fail
  refine (unhide HW _).mono ?_
  rintro e w1 ⟨rfl, hw1, hk1⟩
  obtain ⟨u, ty, hh, hown, _⟩ := hw1
  have hc := chunkN_two l
  change w1.ownsRow (w.heap.size + 1) 5 1 u (chunkN l).length ((chunkN l).map encO) at hown
  obtain ⟨n, hn⟩ : ∃ n, (chunkN l).length = n + 1 := ⟨(chunkN l).length - 1, by omega⟩
  obtain ⟨g, cp, rfl⟩ : ∃ g cp, u = .slice (some ⟨g, 0, none⟩) (chunkN l).length cp := by
    rw [hn] at hown ⊢
    exact own_form hown
  have c0 := cell_of_row w1 w.heap.size 0 _ ty _ hh
  simp only [List.getElem?_toArray, List.getElem?_cons_zero] at c0
  have hcv := string_of_own hown
  clear hh hown hn hc
  go_wp2_with fail
  go_ret
  exact ⟨rfl, (Kept.trans ((Kept.refl _ w).alloc (fun _ h => h) _) hk1).below⟩

set_option maxHeartbeats 400000 in
theorem pack_ok (v : Value) (l : List Smp) (w : World) (hv : RdS (Under w) w v l) (hl : l.length ≤ 40) (hs : ∀ x ∈ l, SOk x) (hT : CTabs w) (hG : GK (Under w)) :
    Calls Tryz.prog 24 #[v] w fun e w' => e = .returned (.tuple #[.string (bytesOf (chunkN l)), .int .i64 0]) ∧ Below w.heap.size w w' := by
  have H := hide (chunkOf_any v l w hv hl hs hT hG)
  obtain ⟨ao, cap, rfl, _, _⟩ := hv
  clear hT hs
  go_enter Tryz.func24, Tryz.ntmps24
  go_wp2_with fail
  refine (unhide H).mono ?_
  rintro e w1 ⟨rfl, hb⟩
  go_wp2_with fail
  go_ret2
  exact ⟨rfl, hb⟩

end Go.Proofs.YtgekdmjneogdoaaGreatDoor
