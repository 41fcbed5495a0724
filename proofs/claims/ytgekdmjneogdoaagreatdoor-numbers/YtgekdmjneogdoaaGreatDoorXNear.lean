import Derived.Test.YtgekdmjneogdoaaGreatDoorXAtof
import Derived.Test.YtgekdmjneogdoaaGreatDoorXLaws
import Derived.LaidEql
import Derived.Lib.IndexBytes
namespace Go.Proofs.YtgekdmjneogdoaaGreatDoor
open Go.RowKit

/-- what atof64 answers of a text in this world -/
def Atof (s : ByteArray) (b : Nat) (ov : Bool) (w : World) : Prop :=
  Calls Tryz.prog 233 #[.string s] w fun z w' => z = .returned (.tuple #[.float .f64 b, .int .i64 s.size, errV ov 1]) ∧ Below w.heap.size w w'

set_option maxHeartbeats 400000 in
theorem prefix_any (s : ByteArray) (b : Nat) (ov : Bool) (w : World) (hA : Atof s b ov w) :
    Calls Tryz.prog 191 #[.string s, .int .i64 64] w fun z w' => z = .returned (.tuple #[.float .f64 b, .int .i64 s.size, errV ov 1]) ∧ Below w.heap.size w w' := by
  go_enter Tryz.func191, Tryz.ntmps191
  go_wp2_with fail
  refine Calls.mono hA ?_
  rintro e w1 ⟨rfl, hb⟩
  go_wp2_with fail
  go_ret3
  exact ⟨rfl, hb⟩

set_option maxHeartbeats 400000 in
theorem inner_any (s : ByteArray) (b : Nat) (ov : Bool) (w : World) (hA : Atof s b ov w) :
    Calls Tryz.prog 135 #[.string s, .int .i64 64] w fun z w' => z = .returned (.tuple #[.float .f64 b, errV ov 1]) ∧ Below w.heap.size w w' := by
  have H := hide (prefix_any s b ov w hA)
  have hne : ((s.size : Int) != (s.size : Int)) = false := by simp
  go_enter Tryz.func135, Tryz.ntmps135
  go_wp2_with fail
  refine (unhide H).mono ?_
  rintro e w1 ⟨rfl, hb⟩
  go_wp2_with fail
  go_ret2
  exact ⟨rfl, hb⟩

set_option maxRecDepth 20000 in
set_option maxHeartbeats 400000 in
theorem parseFloat_ok (s : ByteArray) (b : Nat) (w : World) (hA : Atof s b false w) :
    Calls Tryz.prog 80 #[.string s, .int .i64 64] w fun z w' => z = .returned (.tuple #[.float .f64 b, .nilIface]) ∧ Below w.heap.size w w' := by
  have H := hide (inner_any s b false w hA)
  have hE : errV false 1 = .nilIface := rfl
  go_enter Tryz.func80, Tryz.ntmps80
  go_wp2_with fail
  refine (unhide H).mono ?_
  rintro e w1 ⟨rfl, hb⟩
  rw [hE]
  go_wp2_with fail
  go_ret2
  exact ⟨rfl, hb⟩

set_option maxRecDepth 20000 in
set_option maxHeartbeats 400000 in
theorem parseFloat_over (s : ByteArray) (b : Nat) (w : World) (ht : Tabs w) (hs : s.size ≤ 40) (hA : Atof s b true w) :
    Calls Tryz.prog 80 #[.string s, .int .i64 64] w fun z w' => (∃ N, z = .returned (.tuple #[.float .f64 b, .iface 250 (.pointer (some ⟨N, 0, none⟩))])) ∧ Below w.heap.size w w' := by
  have H := hide (inner_any s b true w hA)
  have hE : errV true 1 = .iface 247 (.int .i64 1) := rfl
  obtain ⟨ev, hv, hev⟩ := ht.err
  have Hv := hide hv
  clear hv
  go_enter Tryz.func80, Tryz.ntmps80
  go_wp2_with fail
  refine (unhide H).mono ?_
  rintro e w1 ⟨rfl, hb⟩
  rw [hE]
  go_wp2_with fail
  refine (Tryz.strconv_toError_range _ s _ _ ev _ (by omega) (later hb (unhide Hv)) hev).mono ?_
  rintro e w2 ⟨N, rfl, h1, h2, hb2⟩
  go_wp2_with fail
  go_ret2
  exact ⟨⟨N, rfl⟩, hb.trans (hb2.mono hb.size)⟩

set_option maxHeartbeats 400000 in
theorem nearest_any (s : ByteArray) (b : Nat) (ov : Bool) (w : World) (ht : Tabs w) (hs : s.size ≤ 40) (hA : Atof s b ov w) :
    Calls Tryz.prog 49 #[.string s] w fun z w' => z = .returned (.float .f64 b) ∧ Below w.heap.size w w' := by
  cases ov
  · have H := hide (parseFloat_ok s b w hA)
    go_enter Tryz.func49, Tryz.ntmps49
    go_wp2_with fail
    refine (unhide H).mono ?_
    rintro e w1 ⟨rfl, hb⟩
    go_wp2_with fail
    go_ret
    exact ⟨rfl, hb⟩
  · have H := hide (parseFloat_over s b w ht hs hA)
    go_enter Tryz.func49, Tryz.ntmps49
    go_wp2_with fail
    refine (unhide H).mono ?_
    rintro e w1 ⟨⟨N, rfl⟩, hb⟩
    go_wp2_with fail
    go_ret
    exact ⟨rfl, hb⟩
end Go.Proofs.YtgekdmjneogdoaaGreatDoor

namespace Go.Proofs.YtgekdmjneogdoaaGreatDoor
open Go.RowKit

def isDig (c : UInt8) : Bool := decide (48 ≤ c.toNat) && decide (c.toNat ≤ 57)
/-- how many digits a text begins with -/
def digLen : List UInt8 → Nat
  | [] => 0
  | c :: r => if isDig c then digLen r + 1 else 0
def bs (l : List UInt8) : ByteArray := ⟨l.toArray⟩
theorem bs_list (l : List UInt8) : (bs l).data.toList = l := by simp [bs]
theorem bs_size (l : List UInt8) : (bs l).size = l.length := by simp [bs, ByteArray.size]
theorem bs_eq (s : ByteArray) : bs s.data.toList = s := by cases s; simp [bs]
theorem extract_bs (s : ByteArray) (k : Nat) : s.extract k s.size = bs (s.data.toList.drop k) := by
  rw [← bs_eq (s.extract k s.size)]
  refine congrArg bs ?_
  rw [Lib.extract_to_end]
theorem digLen_dig {c : UInt8} {r : List UInt8} (h1 : 48 ≤ (c.toNat : Int)) (h2 : (c.toNat : Int) ≤ 57) : digLen (c :: r) = digLen r + 1 := by
  have h : isDig c = true := by simp [isDig]; omega
  simp [digLen, h]
theorem digLen_no {c : UInt8} {r : List UInt8} (h1 : ¬ (48 ≤ (c.toNat : Int) ∧ (c.toNat : Int) ≤ 57)) : digLen (c :: r) = 0 := by
  have h : isDig c = false := by simp [isDig]; omega
  simp [digLen, h]

theorem digLen_le : ∀ l : List UInt8, digLen l ≤ l.length := by
  intro l
  induction l with
  | nil => simp [digLen]
  | cons c r ih => unfold digLen; split <;> simp <;> omega

set_option maxHeartbeats 400000 in
theorem cutDigits_any (s : ByteArray) (w : World) (hm : s.size ≤ 1000) :
    Calls Tryz.prog 76 #[.string s] w fun e w' => e = .returned (.tuple #[.string (bs (s.data.toList.drop (digLen s.data.toList))), .int .i64 (digLen s.data.toList)]) ∧ w' = w := by
  go_enter Tryz.func76, Tryz.ntmps76
  go_wp2_with fail
  go_loop [4] (fun i => ∃ q : Nat, q ≤ s.size ∧ Hid (digLen s.data.toList = q + digLen (s.data.toList.drop q)) ∧ i = .int .i64 q) (fun i => s.size - (intOf i).toNat)
  case atStart => exact ⟨0, by omega, by simp [Hid], rfl⟩
  case round =>
    obtain ⟨q, q1, q2, rfl⟩ := hrel
    by_cases hlt : q < s.size
    · have hd := hide (drop_byte s q hlt)
      by_cases h1 : 48 ≤ (s[q].toNat : Int) ∧ (s[q].toNat : Int) ≤ 57
      · obtain ⟨h1, h2⟩ := h1
        have hn : Hid (digLen s.data.toList = q + 1 + digLen (s.data.toList.drop (q + 1))) := by
          have h := unhide q2
          rw [unhide hd, digLen_dig h1 h2] at h
          unfold Hid
          omega
        go_wp2_with fail
        go_round
        case rel => exact ⟨q + 1, by omega, hn, by go_num⟩
        case measure => simp [intOf]; omega
      · have hk : digLen s.data.toList = q := by
          have h := unhide q2
          rw [unhide hd, digLen_no h1] at h
          exact h
        have Hk := hide hk
        clear hk
        have hex := extract_bs s q
        by_cases h2 : 48 ≤ (s[q].toNat : Int)
        · have h3 : ¬ (s[q].toNat : Int) ≤ 57 := fun h => h1 ⟨h2, h⟩
          clear h1
          go_wp2_with fail
          go_ret2
          rw [unhide Hk]
          exact ⟨rfl, rfl⟩
        · clear h1
          go_wp2_with fail
          go_ret2
          rw [unhide Hk]
          exact ⟨rfl, rfl⟩
    · have hq : q = s.size := by omega
      have hk : digLen s.data.toList = q := by
        have h := unhide q2
        rw [List.drop_of_length_le (by simp; omega)] at h
        exact h
      have Hk := hide hk
      clear hk
      subst hq
      have hex := extract_bs s s.size
      go_wp2_with fail
      go_ret2
      rw [unhide Hk, List.drop_of_length_le (by simp)]
      exact ⟨rfl, rfl⟩

/-- what cutSign leaves -/
def unsign : List UInt8 → List UInt8
  | [] => []
  | c :: r => if c.toNat = 45 ∨ c.toNat = 43 then r else c :: r

theorem unsign_yes {c : UInt8} {r : List UInt8} (h : (c.toNat : Int) = 45 ∨ (c.toNat : Int) = 43) : unsign (c :: r) = r := by
  have h2 : c.toNat = 45 ∨ c.toNat = 43 := by omega
  simp only [unsign, if_pos h2]
theorem unsign_no {c : UInt8} {r : List UInt8} (h1 : ¬ (c.toNat : Int) = 45) (h2 : ¬ (c.toNat : Int) = 43) : unsign (c :: r) = c :: r := by
  have h2 : ¬ (c.toNat = 45 ∨ c.toNat = 43) := by omega
  simp only [unsign, if_neg h2]

set_option maxHeartbeats 400000 in
theorem cutSign_any (s : ByteArray) (w : World) (hm : s.size ≤ 1000) :
    Calls Tryz.prog 79 #[.string s] w fun e w' => e = .returned (.string (bs (unsign s.data.toList))) ∧ w' = w := by
  by_cases h0 : 0 < s.size
  · have hd := hide (drop_byte s 0 h0)
    have hl : Hid (s.data.toList = s[0] :: s.data.toList.drop 1) := by
      have := unhide hd; rw [List.drop_zero] at this; exact this
    have hne0 : ¬ s.toList = [] := by rw [Lib.toList_data, unhide hl]; simp
    have hne1 : s.toList.isEmpty = false := by rw [Lib.toList_data, unhide hl]; rfl
    have hex := extract_bs s 1
    by_cases h1 : (s[0].toNat : Int) = 45
    · have hu : Hid (bs (unsign s.data.toList) = bs s.data.toList.tail) := by
        have e : unsign s.data.toList = s.data.toList.drop 1 := by
          have h := unsign_yes (r := s.data.toList.drop 1) (Or.inl h1)
          rw [← unhide hl] at h; exact h
        unfold Hid; rw [e, List.drop_one]
      go_enter Tryz.func79, Tryz.ntmps79
      go_wp2_with fail
      go_ret
      rw [unhide hu]
      exact ⟨rfl, rfl⟩
    · by_cases h2 : (s[0].toNat : Int) = 43
      · have hu : Hid (bs (unsign s.data.toList) = bs s.data.toList.tail) := by
          have e : unsign s.data.toList = s.data.toList.drop 1 := by
            have h := unsign_yes (r := s.data.toList.drop 1) (Or.inr h2)
            rw [← unhide hl] at h; exact h
          unfold Hid; rw [e, List.drop_one]
        go_enter Tryz.func79, Tryz.ntmps79
        go_wp2_with fail
        go_ret
        rw [unhide hu]
        exact ⟨rfl, rfl⟩
      · have hu : Hid (bs (unsign s.data.toList) = s) := by
          have e : unsign s.data.toList = s.data.toList := by
            have h := unsign_no (r := s.data.toList.drop 1) h1 h2
            rw [← unhide hl] at h; exact h
          unfold Hid; rw [e]; exact bs_eq s
        have h3 : ((s[0].toNat : Int) == 45) = false := beq_eq_false_iff_ne.2 h1
        have h4 : ((s[0].toNat : Int) == 43) = false := beq_eq_false_iff_ne.2 h2
        clear h1 h2
        go_enter Tryz.func79, Tryz.ntmps79
        go_wp2_with fail
        go_ret
        rw [unhide hu]
        exact ⟨rfl, rfl⟩
  · have he : s = ByteArray.empty := by
      rw [← bs_eq s]
      have : s.data.toList = [] := List.eq_nil_of_length_eq_zero (by simpa using Nat.eq_zero_of_not_pos h0)
      rw [this]; rfl
    subst he
    go_enter Tryz.func79, Tryz.ntmps79
    go_wp2_with fail
    go_ret
    exact ⟨rfl, rfl⟩
end Go.Proofs.YtgekdmjneogdoaaGreatDoor

namespace Go.Proofs.YtgekdmjneogdoaaGreatDoor
open Go.RowKit

/-- what stands behind the power of ten, or nothing where it is wrong -/
def decExp (r : List UInt8) : Option (List UInt8) :=
  if Lib.hasPrefix r [101] then
    let c := unsign (Lib.trimPrefix r [101])
    if digLen c = 0 ∨ 4 < digLen c then none else some (c.drop (digLen c))
  else some r
def decFrac (r : List UInt8) : Option (List UInt8) :=
  if Lib.hasPrefix r [46] then
    let b := Lib.trimPrefix r [46]
    if digLen b = 0 then none else some (b.drop (digLen b))
  else some r
def isDec (l : List UInt8) : Bool :=
  let a := Lib.trimPrefix l [45]
  if digLen a = 0 then false
  else match decFrac (a.drop (digLen a)) with
    | none => false
    | some r => match decExp r with
      | none => false
      | some r => r.isEmpty

theorem trim_le (l p : List UInt8) : (Lib.trimPrefix l p).length ≤ l.length := Lib.trimPrefix_le l p
theorem unsign_le (l : List UInt8) : (unsign l).length ≤ l.length := by
  cases l with
  | nil => simp [unsign]
  | cons c r => simp only [unsign]; split <;> simp

theorem cutDigits_l (l : List UInt8) (w : World) (hm : l.length ≤ 1000) :
    Calls Tryz.prog 76 #[.string ⟨l.toArray⟩] w fun e w' => e = .returned (.tuple #[.string ⟨(l.drop (digLen l)).toArray⟩, .int .i64 (digLen l)]) ∧ w' = w := by
  have := cutDigits_any (bs l) w (by rw [bs_size]; exact hm); rw [bs_list] at this; exact this
theorem cutSign_l (l : List UInt8) (w : World) (hm : l.length ≤ 1000) :
    Calls Tryz.prog 79 #[.string ⟨l.toArray⟩] w fun e w' => e = .returned (.string ⟨(unsign l).toArray⟩) ∧ w' = w := by
  have := cutSign_any (bs l) w (by rw [bs_size]; exact hm); rw [bs_list] at this; exact this
theorem cutPrefix_l (l p : List UInt8) (w : World) :
    Calls Tryz.prog 78 #[.string ⟨l.toArray⟩, .string ⟨p.toArray⟩] w fun e w' => e = .returned (.tuple #[.string ⟨(Lib.trimPrefix l p).toArray⟩, .bool (Lib.hasPrefix l p)]) ∧ w' = w := by
  have := Tryz.strings_CutPrefix (bs l) (bs p) w; rw [bs_list, bs_list] at this; exact this

theorem isDec_no {l a : List UInt8} (h : Lib.trimPrefix l [45] = a) (h0 : digLen a = 0) : isDec l = false := by
  simp [isDec, h, h0]
theorem isDec_frac_no {l a r : List UInt8} (h : Lib.trimPrefix l [45] = a) (hr : a.drop (digLen a) = r) (h1 : decFrac r = none) : isDec l = false := by
  unfold isDec; simp only [h, hr, h1]; split <;> rfl
theorem isDec_exp_no {l a r q : List UInt8} (h : Lib.trimPrefix l [45] = a) (hr : a.drop (digLen a) = r) (h1 : decFrac r = some q) (h2 : decExp q = none) : isDec l = false := by
  unfold isDec; simp only [h, hr, h1, h2]; split <;> rfl
theorem isDec_yes {l a r q z : List UInt8} (h : Lib.trimPrefix l [45] = a) (h0 : digLen a ≠ 0) (hr : a.drop (digLen a) = r) (h1 : decFrac r = some q) (h2 : decExp q = some z) : isDec l = z.isEmpty := by
  unfold isDec; simp only [h, hr, h1, h2, if_neg h0]

set_option maxHeartbeats 1000000 in
theorem isDecimal_any (s : ByteArray) (w : World) (hm : s.size ≤ 40) :
    Calls Tryz.prog 48 #[.string s] w fun e w' => e = .returned (.bool (isDec s.data.toList)) ∧ w' = w := by
  have hl : s.data.toList.length = s.size := by simp
  have t1 := trim_le s.data.toList [45]
  obtain ⟨a, ha⟩ : ∃ a, Lib.trimPrefix s.data.toList [45] = a := ⟨_, rfl⟩
  have Ha := hide ha
  rw [ha] at t1
  clear ha
  obtain ⟨k, hk⟩ : ∃ k, digLen a = k := ⟨_, rfl⟩
  have Hk := hide hk
  obtain ⟨r, hr⟩ : ∃ r, a.drop k = r := ⟨_, rfl⟩
  have t2 : r.length ≤ a.length := by rw [← hr]; simp
  have Hr := hide hr
  clear hr hk
  have Hl := hide hl
  have hal : a.length ≤ 40 := by omega
  have hrl : r.length ≤ 40 := by omega
  clear hl t1 t2
  go_enter Tryz.func48, Tryz.ntmps48
  go_wp2_with fail
  refine (Tryz.strings_TrimPrefix _ _ _).mono ?_
  rintro e w1 ⟨rfl, hw⟩; rw [hw]; clear hw w1
  go_wp2_with fail
  rw [unhide Ha]
  refine (cutDigits_l a _ (by omega)).mono ?_
  rintro e w1 ⟨rfl, hw⟩; rw [hw]; clear hw w1
  rw [unhide Hk, unhide Hr]
  by_cases hk0 : k = 0
  · have hk1 : ((k : Int) == 0) = true := by simp [hk0]
    have Hk0 := hide hk0
    clear hk0
    go_wp2_with fail
    go_ret
    rw [isDec_no (unhide Ha) (by rw [unhide Hk]; exact unhide Hk0)]
    exact ⟨rfl, rfl⟩
  · have hk1 : ((k : Int) == 0) = false := by simp [hk0]
    have Hk0 := hide hk0
    clear hk0
    go_wp2_with fail
    refine (cutPrefix_l r [46] _).mono ?_
    rintro e w1 ⟨rfl, hw⟩; rw [hw]; clear hw w1
    cases hp1 : Lib.hasPrefix r [46]
    · have Hq : Hid (decFrac r = some r) := by simp [Hid, decFrac, hp1]
      clear hp1
      obtain ⟨q, hq⟩ : ∃ q, q = r := ⟨r, rfl⟩
      subst hq
      go_wp2_with fail
      refine (cutPrefix_l q [101] _).mono ?_
      rintro e w1 ⟨rfl, hw⟩; rw [hw]; clear hw w1
      obtain ⟨c, hc⟩ : ∃ c, Lib.trimPrefix q [101] = c := ⟨_, rfl⟩
      have hcl : c.length ≤ 40 := by
        have := trim_le q [101]; rw [hc] at this; omega
      rw [hc]
      have Hc := hide hc
      clear hc
      cases hp2 : Lib.hasPrefix q [101]
      · have Hz : Hid (decExp q = some q) := by simp [Hid, decExp, hp2]
        have Hp2 := hide hp2
        clear hp2
        go_wp2_with fail
        go_ret
        rw [isDec_yes (unhide Ha) (by rw [unhide Hk]; exact unhide Hk0) (by rw [unhide Hk]; exact unhide Hr) (unhide Hq) (unhide Hz)]
        exact ⟨by simp, rfl⟩
      · have Hp2 := hide hp2
        clear hp2
        go_wp2_with fail
        refine (cutSign_l c _ (by omega)).mono ?_
        rintro e w1 ⟨rfl, hw⟩; rw [hw]; clear hw w1
        obtain ⟨d, hd⟩ : ∃ d, unsign c = d := ⟨_, rfl⟩
        have hdl : d.length ≤ 40 := by
          have := unsign_le c; rw [hd] at this; omega
        rw [hd]
        have Hd := hide hd
        clear hd
        go_wp2_with fail
        refine (cutDigits_l d _ (by omega)).mono ?_
        rintro e w1 ⟨rfl, hw⟩; rw [hw]; clear hw w1
        obtain ⟨j, hj⟩ : ∃ j, digLen d = j := ⟨_, rfl⟩
        obtain ⟨z, hz⟩ : ∃ z, d.drop j = z := ⟨_, rfl⟩
        have hjl : j ≤ 40 := by
          have := digLen_le d; rw [hj] at this; omega
        rw [hj, hz]
        have Hj := hide hj
        have Hz := hide hz
        clear hj hz
        by_cases hj0 : j = 0 ∨ 4 < j
        · have Hx : Hid (decExp q = none) := by
            simp only [Hid, decExp, unhide Hp2, unhide Hc, unhide Hd, unhide Hj, if_true]; rw [if_pos hj0]
          rcases hj0 with hj0 | hj0
          · have hj1 : ((j : Int) == 0) = true := by simp [hj0]
            clear hj0
            go_wp2_with fail
            go_ret
            rw [isDec_exp_no (unhide Ha) (by rw [unhide Hk]; exact unhide Hr) (unhide Hq) (unhide Hx)]
            exact ⟨rfl, rfl⟩
          · have hj1 : ((j : Int) == 0) = false := beq_eq_false_iff_ne.2 (by omega)
            have hj2 : (4 : Int) < (j : Int) := by omega
            go_wp2_with fail
            go_ret
            rw [isDec_exp_no (unhide Ha) (by rw [unhide Hk]; exact unhide Hr) (unhide Hq) (unhide Hx)]
            exact ⟨rfl, rfl⟩
        · have Hx : Hid (decExp q = some z) := by
            simp only [Hid, decExp, unhide Hp2, unhide Hc, unhide Hd, unhide Hj, unhide Hz, if_true]; rw [if_neg hj0]
          have hj1 : ((j : Int) == 0) = false := beq_eq_false_iff_ne.2 (by omega)
          have hj2 : ¬ (4 : Int) < (j : Int) := by omega
          clear hj0
          go_wp2_with fail
          go_ret
          rw [isDec_yes (unhide Ha) (by rw [unhide Hk]; exact unhide Hk0) (by rw [unhide Hk]; exact unhide Hr) (unhide Hq) (unhide Hx)]
          exact ⟨by simp, rfl⟩
    · have Hp1 := hide hp1
      clear hp1
      obtain ⟨b, hb⟩ : ∃ b, Lib.trimPrefix r [46] = b := ⟨_, rfl⟩
      have hbl : b.length ≤ 40 := by
        have := trim_le r [46]; rw [hb] at this; omega
      rw [hb]
      have Hb := hide hb
      clear hb
      go_wp2_with fail
      refine (cutDigits_l b _ (by omega)).mono ?_
      rintro e w1 ⟨rfl, hw⟩; rw [hw]; clear hw w1
      obtain ⟨i, hi⟩ : ∃ i, digLen b = i := ⟨_, rfl⟩
      obtain ⟨q, hq⟩ : ∃ q, b.drop i = q := ⟨_, rfl⟩
      have hql : q.length ≤ 40 := by
        have : q.length ≤ b.length := by rw [← hq]; simp
        omega
      rw [hi, hq]
      have Hi := hide hi
      have Hq0 := hide hq
      clear hi hq
      by_cases hi0 : i = 0
      · have hi1 : ((i : Int) == 0) = true := by simp [hi0]
        have Hx : Hid (decFrac r = none) := by
          simp only [Hid, decFrac, unhide Hp1, unhide Hb, unhide Hi, if_true]; rw [if_pos hi0]
        clear hi0
        go_wp2_with fail
        go_ret
        rw [isDec_frac_no (unhide Ha) (by rw [unhide Hk]; exact unhide Hr) (unhide Hx)]
        exact ⟨rfl, rfl⟩
      · have hi1 : ((i : Int) == 0) = false := by simp [hi0]
        have Hq : Hid (decFrac r = some q) := by
          simp only [Hid, decFrac, unhide Hp1, unhide Hb, unhide Hi, unhide Hq0, if_true]; rw [if_neg hi0]
        clear hi0
        go_wp2_with fail
        refine (cutPrefix_l q [101] _).mono ?_
        rintro e w1 ⟨rfl, hw⟩; rw [hw]; clear hw w1
        obtain ⟨c, hc⟩ : ∃ c, Lib.trimPrefix q [101] = c := ⟨_, rfl⟩
        have hcl : c.length ≤ 40 := by
          have := trim_le q [101]; rw [hc] at this; omega
        rw [hc]
        have Hc := hide hc
        clear hc
        cases hp2 : Lib.hasPrefix q [101]
        · have Hz : Hid (decExp q = some q) := by simp [Hid, decExp, hp2]
          have Hp2 := hide hp2
          clear hp2
          go_wp2_with fail
          go_ret
          rw [isDec_yes (unhide Ha) (by rw [unhide Hk]; exact unhide Hk0) (by rw [unhide Hk]; exact unhide Hr) (unhide Hq) (unhide Hz)]
          exact ⟨by simp, rfl⟩
        · have Hp2 := hide hp2
          clear hp2
          go_wp2_with fail
          refine (cutSign_l c _ (by omega)).mono ?_
          rintro e w1 ⟨rfl, hw⟩; rw [hw]; clear hw w1
          obtain ⟨d, hd⟩ : ∃ d, unsign c = d := ⟨_, rfl⟩
          have hdl : d.length ≤ 40 := by
            have := unsign_le c; rw [hd] at this; omega
          rw [hd]
          have Hd := hide hd
          clear hd
          go_wp2_with fail
          refine (cutDigits_l d _ (by omega)).mono ?_
          rintro e w1 ⟨rfl, hw⟩; rw [hw]; clear hw w1
          obtain ⟨j, hj⟩ : ∃ j, digLen d = j := ⟨_, rfl⟩
          obtain ⟨z, hz⟩ : ∃ z, d.drop j = z := ⟨_, rfl⟩
          have hjl : j ≤ 40 := by
            have := digLen_le d; rw [hj] at this; omega
          rw [hj, hz]
          have Hj := hide hj
          have Hz := hide hz
          clear hj hz
          by_cases hj0 : j = 0 ∨ 4 < j
          · have Hx : Hid (decExp q = none) := by
              simp only [Hid, decExp, unhide Hp2, unhide Hc, unhide Hd, unhide Hj, if_true]; rw [if_pos hj0]
            rcases hj0 with hj0 | hj0
            · have hj1 : ((j : Int) == 0) = true := by simp [hj0]
              clear hj0
              go_wp2_with fail
              go_ret
              rw [isDec_exp_no (unhide Ha) (by rw [unhide Hk]; exact unhide Hr) (unhide Hq) (unhide Hx)]
              exact ⟨rfl, rfl⟩
            · have hj1 : ((j : Int) == 0) = false := beq_eq_false_iff_ne.2 (by omega)
              have hj2 : (4 : Int) < (j : Int) := by omega
              go_wp2_with fail
              go_ret
              rw [isDec_exp_no (unhide Ha) (by rw [unhide Hk]; exact unhide Hr) (unhide Hq) (unhide Hx)]
              exact ⟨rfl, rfl⟩
          · have Hx : Hid (decExp q = some z) := by
              simp only [Hid, decExp, unhide Hp2, unhide Hc, unhide Hd, unhide Hj, unhide Hz, if_true]; rw [if_neg hj0]
            have hj1 : ((j : Int) == 0) = false := beq_eq_false_iff_ne.2 (by omega)
            have hj2 : ¬ (4 : Int) < (j : Int) := by omega
            clear hj0
            go_wp2_with fail
            go_ret
            rw [isDec_yes (unhide Ha) (by rw [unhide Hk]; exact unhide Hk0) (by rw [unhide Hk]; exact unhide Hr) (unhide Hq) (unhide Hx)]
            exact ⟨by simp, rfl⟩
end Go.Proofs.YtgekdmjneogdoaaGreatDoor

namespace Go.Proofs.YtgekdmjneogdoaaGreatDoor
open Go.RowKit

theorem bits_run (n : Nat) (w : World) : Sem.run Tryz.prog (callFunc 46 #[.float .f64 n]) w = .ok (.value (.int .u64 n)) w := by kernel_rfl
theorem mfrom_run (n : Int) (w : World) : Sem.run Tryz.prog (callFunc 40 #[.int .u64 n]) w = .ok (.value (.float .f64 n.toNat)) w := by kernel_rfl

set_option maxHeartbeats 400000 in
theorem num_long (s : ByteArray) (w : World) (h : 40 < s.size) (hm : s.size ≤ 9223372036854775807) :
    Calls Tryz.prog 18 #[.string s] w fun e w' => e = .returned (.tuple #[.int .u64 0, .int .i64 1]) ∧ w' = w := by
  go_enter Tryz.func18, Tryz.ntmps18
  go_wp2_with fail
  go_ret2
  exact ⟨rfl, rfl⟩

set_option maxHeartbeats 400000 in
theorem num_nan (w : World) :
    Calls Tryz.prog 18 #[.string ⟨#[110, 97, 110]⟩] w fun e w' => e = .returned (.tuple #[.int .u64 9221120237041090560, .int .i64 0]) ∧ w' = w := by
  go_enter Tryz.func18, Tryz.ntmps18
  go_wp2_with fail
  go_ret2
  exact ⟨rfl, rfl⟩

set_option maxHeartbeats 400000 in
theorem minf_any (n : Int) (w : World) (hn : n = 1 ∨ n = -1) :
    Calls Tryz.prog 47 #[.int .i64 n] w fun e w' => e = .returned (.float .f64 (if n = 1 then 9218868437227405312 else 18442240474082181120)) ∧ w' = w := by
  have hfb := mfrom_run
  rcases hn with rfl | rfl
  all_goals
    go_enter Tryz.func47, Tryz.ntmps47
    go_wp2_with fail
    go_ret
    exact ⟨rfl, rfl⟩

theorem ne_list {s : ByteArray} {l : List UInt8} (h : s.data.toList ≠ l) : (s.toList == l) = false := by
  rw [Lib.toList_data]; exact beq_eq_false_iff_ne.2 h

set_option maxHeartbeats 400000 in
theorem num_inf (w : World) :
    Calls Tryz.prog 18 #[.string ⟨#[105, 110, 102]⟩] w fun e w' => e = .returned (.tuple #[.int .u64 9218868437227405312, .int .i64 0]) ∧ w' = w := by
  have hfb := bits_run
  go_enter Tryz.func18, Tryz.ntmps18
  go_wp2_with fail
  refine (minf_any 1 _ (Or.inl rfl)).mono ?_
  rintro e w1 ⟨rfl, hw⟩; rw [hw]; clear hw w1
  rw [if_pos rfl]
  go_wp2_with fail
  go_ret2
  exact ⟨rfl, rfl⟩

set_option maxHeartbeats 400000 in
theorem num_minf (w : World) :
    Calls Tryz.prog 18 #[.string ⟨#[45, 105, 110, 102]⟩] w fun e w' => e = .returned (.tuple #[.int .u64 18442240474082181120, .int .i64 0]) ∧ w' = w := by
  have hfb := bits_run
  go_enter Tryz.func18, Tryz.ntmps18
  go_wp2_with fail
  refine (minf_any (-1) _ (Or.inr rfl)).mono ?_
  rintro e w1 ⟨rfl, hw⟩; rw [hw]; clear hw w1
  rw [if_neg (by decide)]
  go_wp2_with fail
  go_ret2
  exact ⟨rfl, rfl⟩

set_option maxHeartbeats 400000 in
theorem num_bad (s : ByteArray) (w : World) (hm : s.size ≤ 40) (h1 : s.data.toList ≠ [110, 97, 110]) (h2 : s.data.toList ≠ [105, 110, 102]) (h3 : s.data.toList ≠ [45, 105, 110, 102]) (hd : isDec s.data.toList = false) :
    Calls Tryz.prog 18 #[.string s] w fun e w' => e = .returned (.tuple #[.int .u64 0, .int .i64 2]) ∧ w' = w := by
  have H := hide (isDecimal_any s w hm)
  have g1 := ne_list h1
  have g2 := ne_list h2
  have g3 := ne_list h3
  clear h1 h2 h3
  have Hd := hide hd
  clear hd
  go_enter Tryz.func18, Tryz.ntmps18
  go_wp2_with fail
  refine (unhide H).mono ?_
  rintro e w1 ⟨rfl, hw⟩; rw [hw]; clear hw w1
  rw [unhide Hd]
  go_wp2_with fail
  go_ret2
  exact ⟨rfl, rfl⟩

set_option maxHeartbeats 400000 in
theorem num_dec (s : ByteArray) (b : Nat) (ov : Bool) (w : World) (ht : Tabs w) (hm : s.size ≤ 40) (h1 : s.data.toList ≠ [110, 97, 110]) (h2 : s.data.toList ≠ [105, 110, 102]) (h3 : s.data.toList ≠ [45, 105, 110, 102]) (hd : isDec s.data.toList = true) (hA : Atof s b ov w) :
    Calls Tryz.prog 18 #[.string s] w fun e w' => e = .returned (.tuple #[.int .u64 b, .int .i64 0]) ∧ Below w.heap.size w w' := by
  have H := hide (isDecimal_any s w hm)
  have HN := hide (nearest_any s b ov w ht hm hA)
  have g1 := ne_list h1
  have g2 := ne_list h2
  have g3 := ne_list h3
  clear h1 h2 h3
  have Hd := hide hd
  clear hd
  have hfb := bits_run
  go_enter Tryz.func18, Tryz.ntmps18
  go_wp2_with fail
  refine (unhide H).mono ?_
  rintro e w1 ⟨rfl, hw⟩; rw [hw]; clear hw w1
  rw [unhide Hd]
  go_wp2_with fail
  refine (unhide HN).mono ?_
  rintro e w1 ⟨rfl, hb⟩
  go_wp2_with fail
  go_ret2
  exact ⟨rfl, hb⟩
end Go.Proofs.YtgekdmjneogdoaaGreatDoor
