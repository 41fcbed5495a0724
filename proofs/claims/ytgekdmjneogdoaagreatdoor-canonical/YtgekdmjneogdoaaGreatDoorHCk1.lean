import Derived.Test.YtgekdmjneogdoaaGreatDoorHAk1
namespace Go.Proofs.YtgekdmjneogdoaaGreatDoor
open Go.RowKit Go.Shelf Go.Maps

theorem unpackN_inv {c : List Nat} {l : List Smp} (h : unpackN c = some l) : readN (cbits c) = some l ∧ chunkN l = c := by
  unfold unpackN at h
  cases hr : readN (cbits c) with
  | none => rw [hr] at h; cases h
  | some l' =>
    rw [hr, Option.bind_some] at h
    split at h
    · rename_i e
      cases h
      exact ⟨rfl, e⟩
    · cases h

set_option maxRecDepth 20000 in
set_option maxHeartbeats 1600000 in
theorem canonical_ok (s : ByteArray) (w : World) (hT : Tabs w) (hC : CTabs w) (hG : GK (Under w)) (hS : SortsTo [halfN, halfN] [halfN]) :
    Calls Tryz.prog 9 #[.string s] w fun e w' => e = .returned (.bool true) ∧ Below w.heap.size w w' := by
  have HA := hide (awake_ok w hT hC hG hS)
  have HC := hide hC
  have HG := hide hG
  clear hT hC hG hS
  go_enter Tryz.func9, Tryz.ntmps9
  go_wp2_with fail
  refine (unhide HA).mono ?_
  rintro e w1 ⟨rfl, hb1⟩
  have HB1 := hide hb1
  have HC1 := hide ((unhide HC).below (unhide HG) hb1)
  have HG1 := hide ((unhide HG).below hb1)
  clear hb1 HA HC HG
  go_wp2_with fail
  refine (unpack_any s w1 (unhide HC1) (unhide HG1)).mono ?_
  rintro e w2 ⟨hb2, ⟨l, v, hl, rfl, hown⟩ | ⟨_, rfl⟩⟩
  · obtain ⟨hr, hc⟩ := unpackN_inv hl
    have hok := readN_ok (s := s) hr
    have hpk := pack_ok v l w2 (rds_own hown) hok.2 hok.1 ((unhide HC1).below (unhide HG1) hb2) ((unhide HG1).below hb2)
    rw [hc, bytesOf_natsOf] at hpk
    have HP := hide hpk
    have HB2 : Hid (Below w.heap.size w w2) := (unhide HB1).trans (hb2.mono (unhide HB1).size)
    clear hpk hr hc hok hl hown hb2 HC1 HG1 HB1
    go_wp2_with fail
    refine (unhide HP).mono ?_
    rintro e w3 ⟨rfl, hb3⟩
    have HB3 : Hid (Below w.heap.size w w3) := (unhide HB2).trans (hb3.mono (unhide HB2).size)
    clear hb3 HP HB2
    go_wp2_with fail
    go_ret
    exact ⟨rfl, unhide HB3⟩
  · have HB2 : Hid (Below w.heap.size w w2) := (unhide HB1).trans (hb2.mono (unhide HB1).size)
    clear hb2 HC1 HG1 HB1
    go_wp2_with fail
    go_ret
    exact ⟨rfl, unhide HB2⟩
end Go.Proofs.YtgekdmjneogdoaaGreatDoor
