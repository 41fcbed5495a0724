import Derived.Test.YtgekdmjneogdoabGreatDoorHTabs
namespace Go.Proofs.YtgekdmjneogdoabGreatDoor
open Go.RowKit

set_option maxRecDepth 20000 in
set_option maxHeartbeats 400000 in
theorem special_digit (s : ByteArray) (w : World) (h0 : 0 < s.size) (hm : s.size ≤ 9223372036854775807) (c1 : 48 ≤ (s[0].toNat : Int)) (c2 : (s[0].toNat : Int) ≤ 57) :
    Calls Tryz.prog 263 #[.string s] w fun e w' => e = .returned (.tuple #[.float .f64 0, .int .i64 0, .bool false]) ∧ w' = w := by
  go_enter Tryz.func263, Tryz.ntmps263
  go_wp2_with fail
  go_ret3
  exact ⟨rfl, rfl⟩

set_option maxRecDepth 20000 in
set_option maxHeartbeats 400000 in
theorem common_digit (s : ByteArray) (w : World) (h0 : 0 < s.size) (hm : s.size ≤ 9223372036854775807) (c1 : 48 ≤ (s[0].toNat : Int)) (c2 : (s[0].toNat : Int) ≤ 57) :
    Calls Tryz.prog 281 #[.string s, .string ⟨#[105, 110, 102, 105, 110, 105, 116, 121]⟩] w fun e w' => e = .returned (.int .i64 0) ∧ w' = w := by
  go_enter Tryz.func281, Tryz.ntmps281
  have hmin : (0 : Int) < min 8 (s.size : Int) := by omega
  have hc : ((({ data := #[105, 110, 102, 105, 110, 105, 116, 121] } : ByteArray)[0]'(by decide)).toNat : Int) = 105 := rfl
  have hne : ((s[0].toNat : Int) != ((({ data := #[105, 110, 102, 105, 110, 105, 116, 121] } : ByteArray)[0]'(by decide)).toNat : Int)) = true := by rw [hc, bne_iff_ne]; omega
  clear hc
  go_wp2_with fail
  refine wp_loop_rounds 1 ?_
  rw [rounds_succ]
  go_wp2_with fail
  go_ret
  exact ⟨rfl, rfl⟩

set_option maxRecDepth 20000 in
set_option maxHeartbeats 400000 in
theorem special_minus (s : ByteArray) (w : World) (h0 : 1 < s.size) (hm : s.size ≤ 9223372036854775807) (c0 : (s[0].toNat : Int) = 45) (c1 : 48 ≤ (s[1].toNat : Int)) (c2 : (s[1].toNat : Int) ≤ 57) :
    Calls Tryz.prog 263 #[.string s] w fun e w' => e = .returned (.tuple #[.float .f64 0, .int .i64 0, .bool false]) ∧ w' = w := by
  have e1 : 0 < (s.extract 1 s.size).size := by rw [ByteArray.size_extract]; omega
  have e2 : (s.extract 1 s.size)[0] = s[1] := by rw [ByteArray.getElem_extract]
  have L1 := common_digit (s.extract 1 s.size) w e1 (by rw [ByteArray.size_extract]; omega) (by rw [e2]; exact c1) (by rw [e2]; exact c2)
  have H1 := hide L1
  clear L1 e1 e2
  go_enter Tryz.func263, Tryz.ntmps263
  go_wp2_with fail
  refine (unhide H1).mono ?_
  rintro e w' ⟨rfl, rfl⟩
  go_wp2_with fail
  go_ret3
  exact ⟨rfl, rfl⟩
end Go.Proofs.YtgekdmjneogdoabGreatDoor
