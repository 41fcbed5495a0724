import Derived.Test.YtgekdmjneogdoabGreatDoorHAtof
import Derived.LaidEql
namespace Go.Proofs.YtgekdmjneogdoabGreatDoor
open Go.RowKit

/-- what atof64 answers of a text in this world -/
def Atof (s : ByteArray) (b : Nat) (ov : Bool) (w : World) : Prop :=
  Calls Tryz.prog 232 #[.string s] w fun z w' => z = .returned (.tuple #[.float .f64 b, .int .i64 s.size, errV ov 1]) ∧ Below w.heap.size w w'

set_option maxHeartbeats 400000 in
theorem prefix_any (s : ByteArray) (b : Nat) (ov : Bool) (w : World) (hA : Atof s b ov w) :
    Calls Tryz.prog 188 #[.string s, .int .i64 64] w fun z w' => z = .returned (.tuple #[.float .f64 b, .int .i64 s.size, errV ov 1]) ∧ Below w.heap.size w w' := by
  go_enter Tryz.func188, Tryz.ntmps188
  go_wp2_with fail
  refine Calls.mono hA ?_
  rintro e w1 ⟨rfl, hb⟩
  go_wp2_with fail
  go_ret3
  exact ⟨rfl, hb⟩

set_option maxHeartbeats 400000 in
theorem inner_any (s : ByteArray) (b : Nat) (ov : Bool) (w : World) (hA : Atof s b ov w) :
    Calls Tryz.prog 146 #[.string s, .int .i64 64] w fun z w' => z = .returned (.tuple #[.float .f64 b, errV ov 1]) ∧ Below w.heap.size w w' := by
  have H := hide (prefix_any s b ov w hA)
  have hne : ((s.size : Int) != (s.size : Int)) = false := by simp
  go_enter Tryz.func146, Tryz.ntmps146
  go_wp2_with fail
  refine (unhide H).mono ?_
  rintro e w1 ⟨rfl, hb⟩
  go_wp2_with fail
  go_ret2
  exact ⟨rfl, hb⟩

set_option maxRecDepth 20000 in
set_option maxHeartbeats 400000 in
theorem parseFloat_ok (s : ByteArray) (b : Nat) (w : World) (hA : Atof s b false w) :
    Calls Tryz.prog 99 #[.string s, .int .i64 64] w fun z w' => z = .returned (.tuple #[.float .f64 b, .nilIface]) ∧ Below w.heap.size w w' := by
  have H := hide (inner_any s b false w hA)
  have hE : errV false 1 = .nilIface := rfl
  go_enter Tryz.func99, Tryz.ntmps99
  go_wp2_with fail
  refine (unhide H).mono ?_
  rintro e w1 ⟨rfl, hb⟩
  rw [hE]
  go_wp2_with fail
  go_ret2
  exact ⟨rfl, hb⟩

set_option maxRecDepth 20000 in
set_option maxHeartbeats 400000 in
theorem parseFloat_over (s : ByteArray) (b : Nat) (w : World) (ht : Tabs w) (hs : s.size ≤ 40) (hA : Atof s b true w) :
    Calls Tryz.prog 99 #[.string s, .int .i64 64] w fun z w' => (∃ N, z = .returned (.tuple #[.float .f64 b, .iface 236 (.pointer (some ⟨N, 0, none⟩))])) ∧ Below w.heap.size w w' := by
  have H := hide (inner_any s b true w hA)
  have hE : errV true 1 = .iface 233 (.int .i64 1) := rfl
  obtain ⟨ev, hv, hev⟩ := ht.err
  have Hv := hide hv
  clear hv
  go_enter Tryz.func99, Tryz.ntmps99
  go_wp2_with fail
  refine (unhide H).mono ?_
  rintro e w1 ⟨rfl, hb⟩
  rw [hE]
  go_wp2_with fail
  refine (Tryz.strconv_toError_range _ s _ _ ev _ (by omega) (later hb (unhide Hv)) hev).mono ?_
  rintro e w2 ⟨N, rfl, h1, h2, hb2⟩
  go_wp2_with fail
  go_ret2
  exact ⟨⟨N, rfl⟩, hb.trans (hb2.mono hb.size)⟩

set_option maxHeartbeats 400000 in
theorem nearest_any (s : ByteArray) (b : Nat) (ov : Bool) (w : World) (ht : Tabs w) (hs : s.size ≤ 40) (hA : Atof s b ov w) :
    Calls Tryz.prog 61 #[.string s] w fun z w' => z = .returned (.float .f64 b) ∧ Below w.heap.size w w' := by
  cases ov
  · have H := hide (parseFloat_ok s b w hA)
    go_enter Tryz.func61, Tryz.ntmps61
    go_wp2_with fail
    refine (unhide H).mono ?_
    rintro e w1 ⟨rfl, hb⟩
    go_wp2_with fail
    go_ret
    exact ⟨rfl, hb⟩
  · have H := hide (parseFloat_over s b w ht hs hA)
    go_enter Tryz.func61, Tryz.ntmps61
    go_wp2_with fail
    refine (unhide H).mono ?_
    rintro e w1 ⟨⟨N, rfl⟩, hb⟩
    go_wp2_with fail
    go_ret
    exact ⟨rfl, hb⟩
end Go.Proofs.YtgekdmjneogdoabGreatDoor
