import Derived.Test.YtgekdmjneogdoaaGreatDoorXEfg
import Derived.Deep.RegionWith
import Derived.RangeFuncRecord
namespace Go.Proofs.YtgekdmjneogdoaaGreatDoor
open Go.RowKit Go.Sort

theorem ibits_run (n : Nat) (w : World) : Sem.run Tryz.prog (callFunc 219 #[.float .f64 n]) w = .ok (.value (.int .u64 n)) w := by kernel_rfl

theorem trimN_le (f : Nat → UInt8) : ∀ n, trimN f n ≤ n := by
  intro n
  induction n with
  | zero => simp [trimN]
  | succ n ih => unfold trimN; split <;> omega
theorem trimN_pos (f : Nat → UInt8) (h0 : f 0 ≠ 48) : ∀ n, 1 ≤ n → 1 ≤ trimN f n := by
  intro n
  induction n with
  | zero => intro h; omega
  | succ n ih =>
    intro _
    unfold trimN
    split
    · rename_i h
      by_cases hn : n = 0
      · subst hn; exact absurd h h0
      · exact ih (by omega)
    · omega
theorem nDigits_lo : ∀ (k d : Nat), 1 ≤ d → Lib.nDigits d = k + 1 → 10 ^ k ≤ d := by
  intro k
  induction k with
  | zero => intro d h _; simpa using h
  | succ k ih =>
    intro d h1 h
    by_cases hd : d < 10
    · rw [Lib.nDigits_small hd] at h; omega
    · rw [Lib.nDigits_big hd] at h
      have := ih (d / 10) (by omega) (by omega)
      rw [Nat.pow_succ]; omega
theorem lead_ne (d n : Nat) (h1 : 1 ≤ d) (hn : Lib.nDigits d = n) : Lib.dg d (n - 1 - 0) ≠ 48 := by
  have hp := Lib.nDigits_pos d
  have h2 := nDigits_lo (n - 1) d h1 (by omega)
  have h3 := Lib.lt_pow_nDigits d
  rw [hn] at h3
  have e : n = (n - 1) + 1 := by omega
  rw [e, Nat.pow_succ] at h3
  have hq1 : 1 ≤ d / 10 ^ (n - 1) := (Nat.le_div_iff_mul_le (Nat.pow_pos (by omega))).2 (by omega)
  have hq2 : d / 10 ^ (n - 1) < 10 := Nat.div_lt_of_lt_mul (by omega)
  unfold Lib.dg
  rw [Nat.sub_zero, Nat.mod_eq_of_lt hq2]
  intro h
  have := congrArg UInt8.toNat h
  rw [UInt8.toNat_ofNat_of_lt' (by simp [UInt8.size]; omega)] at this
  have h48 : (48 : UInt8).toNat = 48 := rfl
  omega

theorem Row.again {W w : World} {g : Nat} (h : Row W g W []) (hw : w.heap[g]? = W.heap[g]?) : Row w g w [] := by
  refine ⟨?_, World.grownBy.refl _ _⟩
  have h1 := h.own
  unfold World.ownsRow at h1 ⊢
  refine ⟨h1.1, ?_⟩
  rcases h1.2 with h2 | ⟨g', cap, cur, h2, h3, h4, h5⟩
  · exact Or.inl h2
  · right
    have e : g' = g := by
      simp only [Value.slice.injEq, Option.some.injEq, Addr.mk.injEq] at h2
      exact h2.1.1.symm
    subst e
    exact ⟨g', cap, cur, h2, h3, by rw [hw]; exact h4, h5⟩

theorem Row.lift {W w3 w : World} {g : Nat} {l : List UInt8} (h : Row w3 g w l) (hos : w3.os = W.os) (htp : w3.tape = W.tape) (hot : w3.output = W.output) (hsz : W.heap.size ≤ w3.heap.size)
    (hbl : ∀ k, k < W.heap.size → w3.heap[k]? = W.heap[k]?) : Row W g w l :=
  ⟨h.own, ⟨h.grow.os.trans hos, h.grow.tape.trans htp, h.grow.output.trans hot, Nat.le_trans hsz h.grow.size, fun k hk hne => by
    rw [h.grow.block k (by omega) hne]; exact hbl k hk⟩⟩

theorem heap_putRow_other {α : Type} [Inhabited α] (enc : α → Value) (w : World) (blk off : Nat) (d : Array α) (k : Nat) (h : k ≠ blk) : (putRow enc w blk off d).heap[k]? = w.heap[k]? := by
  unfold putRow mapBlock
  simp [Array.getElem?_modify, h.symm]

theorem tab_heap {w w' : World} (h : Tabs w) (hw : w'.heap = w.heap) {n : String} (hn : Tryz.prog.globalNamed n = some 6) : Lib.TabIs Tryz.prog w' n .u64 Lib.pow10Tab := by
  obtain ⟨ty, fz, h1⟩ := h.u64pow
  unfold Lib.TabIs World.var?
  rw [hn, Option.bind_some, hw, h1]

theorem nDigits_le : ∀ (d k : Nat), 1 ≤ k → d < 10 ^ k → Lib.nDigits d ≤ k := by
  intro d k
  induction k generalizing d with
  | zero => intro h; omega
  | succ k ih =>
    intro _ h
    by_cases hd : d < 10
    · rw [Lib.nDigits_small hd]; omega
    · rw [Lib.nDigits_big hd]
      have hk : 1 ≤ k := by
        cases k with
        | zero => simp at h; omega
        | succ k => omega
      have := ih (d / 10) hk (by rw [Nat.pow_succ] at h; omega)
      omega

set_option maxRecDepth 100000 in
set_option maxHeartbeats 1000000 in
theorem ftoa_norm (W : World) (g b e0 fr M L mm d : Nat) (q : Int) (neg : Bool) (prec : Nat) (hopt : W.cell? ⟨5, 0, none⟩ = some (.bool true)) (hprec : prec ≤ 16)
    (hb : b < 18446744073709551616) (hneg : ((b : Int) / 9223372036854775808 != 0) = neg) (he : bits BinOp.and IntKind.i64 ((b : Int) / 4503599627370496) 2047 = (e0 : Int)) (hfr : bits BinOp.and IntKind.u64 (b : Int) 4503599627370495 = (fr : Int))
    (he2 : e0 < 2047) (he3 : 1 ≤ e0) (hM : bits BinOp.or IntKind.u64 (fr : Int) 4503599627370496 = (M : Int)) (hM0 : ((M : Int) == 0) = false) (hMb : M < 18446744073709551616) (hL : Lib.bitLen M = L) (hL1 : 1 ≤ L) (hL2 : L ≤ 64)
    (hmm : IntKind.u64.wrap ((M : Int) * 2 ^ (64 - L)) = (mm : Int))
    (hF : ∀ w', Below W.heap.size W w' → Calls Tryz.prog 227 #[.int .u64 mm, .int .i64 ((e0 : Int) + -1023 - (64 - (L : Int)) - 52), .int .i64 ((prec : Int) + 1), .int .i64 prec, .int .u8 101] w' fun z w'' => z = .returned (.tuple #[.int .u64 d, .int .i64 q]) ∧ Below w'.heap.size w' w'')
    (hd0 : ((d : Int) != 0) = true) (hd1 : 1 ≤ d) (hd18 : d < 1000000000000000000) (hq1 : -380 ≤ q) (hq2 : q ≤ 380) (ht : Tabs W) (hr : Row W g W []) (hg : g < W.heap.size) :
    Calls Tryz.prog 189 #[.slice (some ⟨g, 0, none⟩) 0 24, .float .f64 b, .int .u8 101, .int .i64 prec] W fun e w' => e = .returned (.slice (some ⟨g, 0, none⟩) (efgText neg (fun t => Lib.dg d (Lib.nDigits d - 1 - t)) (trimN (fun t => Lib.dg d (Lib.nDigits d - 1 - t)) (Lib.nDigits d)) prec ((Lib.nDigits d : Int) + q)).length 24) ∧ Row W g w' (efgText neg (fun t => Lib.dg d (Lib.nDigits d - 1 - t)) (trimN (fun t => Lib.dg d (Lib.nDigits d - 1 - t)) (Lib.nDigits d)) prec ((Lib.nDigits d : Int) + q)) := by
  obtain ⟨nD, hnD⟩ : ∃ n, Lib.nDigits d = n := ⟨_, rfl⟩
  rw [hnD]
  obtain ⟨txt, htxt⟩ : ∃ t, efgText neg (fun t => Lib.dg d (nD - 1 - t)) (trimN (fun t => Lib.dg d (nD - 1 - t)) nD) prec ((nD : Int) + q) = t := ⟨_, rfl⟩
  rw [htxt]
  have HTX := hide htxt
  have HND := hide hnD
  clear htxt hnD
  have hfb := ibits_run
  have L1 : ∀ w, Calls Tryz.prog 223 #[.int .u64 (M : Int)] w fun e w' => e = .returned (.int .i64 (L : Int)) ∧ w' = w := fun w => by
    have := Tryz.bits_Len64 (M : Int) w (by omega) (by omega); rw [Int.toNat_natCast, hL] at this; exact this
  have H1 := hide L1
  have HF := hide hF
  have HL := hide hL
  clear L1 hF hL
  go_enter Tryz.func189, Tryz.ntmps189
  go_upto_region 14 with fail
  go_quiet (fail)
  go_wp2_with fail
  refine (unhide H1 _).mono ?_
  rintro x w1 ⟨rfl, hw⟩; rw [hw]; clear hw w1
  go_wp2_with fail
  refine (unhide HF _ ?_).mono ?_
  · exact below_drewN ((Below.refl _ _).alloc (Nat.le_refl _) _) _
  rintro x w2 ⟨rfl, hb2⟩
  have hnD := unhide HND
  have hn1 : 1 ≤ nD := by rw [← hnD]; exact Lib.nDigits_pos d
  have hn2 : nD ≤ 18 := by
    rw [← hnD]
    exact nDigits_le d 18 (by omega) (by omega)
  have hdn : d < 10 ^ nD := by rw [← hnD]; exact Lib.lt_pow_nDigits d
  have hlead := lead_ne d nD hd1 hnD
  have hB2 : Below W.heap.size W w2 := (below_drewN ((Below.refl _ _).alloc (Nat.le_refl _) _) _).trans (hb2.mono (by simp))
  have hblk : ∃ fz ty, w2.heap[W.heap.size]? = some (.cells (Array.replicate 24 (Value.int .u8 0)) ty fz) ∧ fz = (0, 0) := by
    have h := hb2.block W.heap.size (by simp)
    refine ⟨_, _, h.trans (World.alloc_heap_new (W.drewN _) _), rfl⟩
  have HN : Hid (∀ w', w'.heap = w2.heap → Calls Tryz.prog 215 #[.int .u64 d] w' fun e w'' => e = .returned (.int .i64 (nD : Int)) ∧ w'' = w') := by
    intro w' hw
    have h := Tryz.internal_strconv_numDigits d hd1 (by omega) w' (tab_heap (ht.below hB2) hw (by kernel_rfl))
    rw [hnD] at h; exact h
  have hH : ∀ w', w'.heap = w2.heap → Holds encB w' W.heap.size 0 (Array.replicate nD (0 : UInt8)) := by
    intro w' hw j hj
    obtain ⟨fz, ty, h1, h2⟩ := hblk
    rw [Array.size_replicate] at hj
    subst h2
    constructor
    · unfold World.cell?
      rw [hw, h1]
      simp [show j < 24 by omega, hj]
    · unfold World.frozen?
      rw [hw, h1]
      simp
  have HS : Hid (∀ w', w'.heap = w2.heap → Calls Tryz.prog 225 #[.slice (some ⟨W.heap.size, 0, none⟩) 24 24, .int .u64 d, .int .i64 q, .int .i64 (nD : Int)] w' fun e w'' =>
      e = .returned (.tuple #[.int .i64 ((nD : Int) + q), .int .i64 (trimN (fun t => Lib.dg d (nD - 1 - t)) nD)]) ∧ ∃ (k : Nat) (dk : Array UInt8), w'' = (putRow encB w' W.heap.size 0 dk).drewN k ∧ dk.size = nD ∧ ∀ t, t < nD → dk[t]! = Lib.dg d (nD - 1 - t)) := by
    intro w' hw
    exact setDigits_any W.heap.size d nD q w' (hH w' hw) hn1 (by omega) hdn (by omega) (by omega) (by omega)
  have ht1 := trimN_le (fun t => Lib.dg d (nD - 1 - t)) nD
  have ht2 := trimN_pos (fun t => Lib.dg d (nD - 1 - t)) hlead nD hn1
  have HH := hide hH
  have HB2 := hide hB2
  have Hbk := hide hblk
  clear hnD hlead hblk hH hB2 hdn
  go_upto_region 74 with fail
  go_region_with (first | (go_at_call 215; refine (unhide HN _ ?_).mono ?_; exact rfl; rintro x w3 ⟨rfl, rfl⟩) | (go_at_call 225; refine (unhide HS _ ?_).mono ?_; exact rfl; rintro x w3 ⟨rfl, k3, dk, hw3, hds, hdd⟩; have HW3 := hide hw3; clear hw3))
  have hw3 := unhide HW3
  have hg3 : w3.heap[g]? = W.heap[g]? := by
    rw [hw3]
    show (putRow encB w2.drew W.heap.size 0 dk).heap[g]? = _
    rw [heap_putRow_other _ _ _ _ _ _ (by omega)]
    exact (unhide HB2).block g hg
  have hk3 : ∀ k, k < W.heap.size → w3.heap[k]? = W.heap[k]? := by
    intro k hk
    rw [hw3]
    show (putRow encB w2.drew W.heap.size 0 dk).heap[k]? = _
    rw [heap_putRow_other _ _ _ _ _ _ (by omega)]
    exact (unhide HB2).block k hk
  have hcell : ∀ t, t < trimN (fun t => Lib.dg d (nD - 1 - t)) nD → w3.cell? ⟨W.heap.size, t, none⟩ = some (.int .u8 ((Lib.dg d (nD - 1 - t)).toNat : Int)) := by
    intro t htt
    rw [hw3, World.cell?_drewN]
    have h := cell?_putRow encB w2.drew W.heap.size 0 (Array.replicate nD (0 : UInt8)) dk (unhide HH _ rfl) (by simp [hds]) t (by omega)
    rw [Nat.zero_add, hdd t (by omega)] at h
    exact h
  have hs3 : W.heap.size ≤ w3.heap.size := by
    rw [hw3]
    show W.heap.size ≤ (putRow encB w2.drew W.heap.size 0 dk).heap.size
    rw [size_putRow]
    exact (unhide HB2).size
  have ho3 : w3.os = W.os ∧ w3.tape = W.tape ∧ w3.output = W.output := by
    rw [hw3]
    exact ⟨(unhide HB2).os, (unhide HB2).tape, (unhide HB2).output⟩
  have HC := hide hcell
  have HG := hide hg3
  have HK := hide hk3
  have HO := hide ho3
  clear hcell hg3 hk3 ho3 hw3 hdd
  go_wp2_with fail
  refine (efg_any w3 g W.heap.size _ prec neg ((nD : Int) + q) (fun t => Lib.dg d (nD - 1 - t)) (hr.again (unhide HG)) ht2 (by omega) hprec (by omega) (by omega) (by omega) (unhide HC)).mono ?_
  rintro x w4 ⟨rfl, hr4⟩
  rw [unhide HTX] at hr4
  rw [unhide HTX]
  go_wp2_with fail
  go_ret
  exact ⟨rfl, hr4.lift (unhide HO).1 (unhide HO).2.1 (unhide HO).2.2 hs3 (unhide HK)⟩
end Go.Proofs.YtgekdmjneogdoaaGreatDoor

namespace Go.Proofs.YtgekdmjneogdoaaGreatDoor
open Go.RowKit Go.Sort

theorem Row.cells {W w : World} {g : Nat} {l : List UInt8} (h : Row W g w l) : ∀ (j : Nat) (v : Value), (l.map encB)[j]? = some v → w.cell? ((⟨g, 0, none⟩ : Addr).add j) = some v := by
  intro j v hj
  have hl : j < l.length := by
    have := (List.getElem?_eq_some_iff.1 hj).1
    simpa using this
  rcases h.own.2 with ⟨h1, h2⟩ | ⟨g', cap, cur, h1, h2, h3, h4, h5, h6, h7⟩
  · omega
  · have e : g' = g := by
      simp only [Value.slice.injEq, Option.some.injEq, Addr.mk.injEq] at h1
      exact h1.1.1.symm
    subst e
    have e2 : (⟨g', 0, none⟩ : Addr).add j = ⟨g', j, none⟩ := by
      unfold Addr.add
      split
      · rename_i h0; rw [h0]
      · simp
    rw [e2]
    unfold World.cell?
    rw [h3]
    simp only [Option.isSome_none, Bool.false_eq_true, if_false]
    rw [← h7, List.getElem?_take, if_pos (by omega)] at hj
    simpa using hj

theorem push_all : ∀ (l : List UInt8) (s : ByteArray), (l.map fun b => (b.toNat : Int)).foldl (fun r n => r.push (UInt8.ofNat n.toNat)) s = ⟨(s.data.toList ++ l).toArray⟩ := by
  intro l
  induction l with
  | nil => intro s; cases s; simp
  | cons c r ih =>
    intro s
    simp only [List.map_cons, List.foldl_cons]
    rw [ih]
    simp [ByteArray.push]

theorem string_of_row {W w : World} {g : Nat} {l : List UInt8} (h : Row W g w l) : (convert 135 9 (.slice (some ⟨g, 0, none⟩) l.length 24)).run Tryz.prog w = .ok (.string ⟨l.toArray⟩) w := by
  rw [run_convert_bytes_string w _ _ 5 _ _ _ Tryz.underlying135 Tryz.underlying5 Tryz.underlying9]
  have h1 := run_loadCells_list (P := Tryz.prog) (w := w) ⟨g, 0, none⟩ (l.map encB) h.cells
  rw [List.length_map] at h1
  have h2 : l.map encB = (l.map fun b => (b.toNat : Int)).map (Value.int .u8) := by simp
  rw [h2] at h1
  rw [run_bytesToString w _ _ _ _ h1, push_all]
  rfl

set_option maxRecDepth 20000 in
set_option maxHeartbeats 400000 in
theorem format_any (b prec : Nat) (txt : List UInt8) (w : World) (hprec : prec ≤ 16)
    (hA : ∀ w', Below w.heap.size w w' → Row w' w.heap.size w' [] → Calls Tryz.prog 189 #[.slice (some ⟨w.heap.size, 0, none⟩) 0 24, .float .f64 b, .int .u8 101, .int .i64 prec] w' fun e w'' => e = .returned (.slice (some ⟨w.heap.size, 0, none⟩) txt.length 24) ∧ Row w' w.heap.size w'' txt) :
    Calls Tryz.prog 132 #[.float .f64 b, .int .u8 101, .int .i64 prec, .int .i64 64] w fun e w' => e = .returned (.string ⟨txt.toArray⟩) ∧ Below w.heap.size w w' := by
  obtain ⟨i0, hi, hz0, hz1, hz2⟩ := info_parts infoB
  have hmax : max ((prec : Int) + 4) 24 = 24 := by omega
  have HA := hide hA
  clear hA
  go_enter Tryz.func132, Tryz.ntmps132
  go_wp2_with (at_make; refine wpList_make_own _ rfl _ _ 135 rfl w.heap.size 5 i0 (.int .u8 0) 1 Tryz.underlying135 hi hz0 hz1 .i64 .i64 24 24 rfl rfl rfl (by rw [hz2]; omega) (by unfold maxLen; omega) (Nat.le_refl _) ?_; intro w1 hown1 hg1)
  have hb1 : Below w.heap.size w w1 := (Below.refl _ _).grown hg1 (Nat.le_refl _) (fun k hk => by cases hk)
  have hr1 : Row w1 w.heap.size w1 [] := ⟨hown1, World.grownBy.refl _ _⟩
  refine (unhide HA w1 hb1 hr1).mono ?_
  rintro x w2 ⟨rfl, hr2⟩
  have hcv := string_of_row hr2
  have H2 := hide hr2
  clear hr2
  go_wp2_with fail
  go_ret
  exact ⟨rfl, hb1.trans ((Below.refl _ _).grown (unhide H2).grow (by exact hb1.size) (fun k hk => by cases hk; exact Nat.le_refl _))⟩

set_option maxHeartbeats 400000 in
theorem formatFloat_any (b prec : Nat) (txt : List UInt8) (w : World)
    (hA : Calls Tryz.prog 132 #[.float .f64 b, .int .u8 101, .int .i64 prec, .int .i64 64] w fun e w' => e = .returned (.string ⟨txt.toArray⟩) ∧ Below w.heap.size w w') :
    Calls Tryz.prog 75 #[.float .f64 b, .int .u8 101, .int .i64 prec, .int .i64 64] w fun e w' => e = .returned (.string ⟨txt.toArray⟩) ∧ Below w.heap.size w w' := by
  have HA := hide hA
  clear hA
  go_enter Tryz.func75, Tryz.ntmps75
  go_wp2_with fail
  refine (unhide HA).mono ?_
  rintro x w1 ⟨rfl, hb⟩
  go_wp2_with fail
  go_ret
  exact ⟨rfl, hb⟩
end Go.Proofs.YtgekdmjneogdoaaGreatDoor

namespace Go.Proofs.YtgekdmjneogdoaaGreatDoor
open Go.RowKit Go.Sort

set_option maxRecDepth 100000 in
set_option maxHeartbeats 1000000 in
theorem ftoa_sub (W : World) (g b M L mm d : Nat) (q : Int) (neg : Bool) (prec : Nat) (hopt : W.cell? ⟨5, 0, none⟩ = some (.bool true)) (hprec : prec ≤ 16)
    (hb : b < 18446744073709551616) (hneg : ((b : Int) / 9223372036854775808 != 0) = neg) (he : bits BinOp.and IntKind.i64 ((b : Int) / 4503599627370496) 2047 = 0) (hfr : bits BinOp.and IntKind.u64 (b : Int) 4503599627370495 = (M : Int))
    (hM0 : ((M : Int) == 0) = false) (hMb : M < 18446744073709551616) (hL : Lib.bitLen M = L) (hL1 : 1 ≤ L) (hL2 : L ≤ 64)
    (hmm : IntKind.u64.wrap ((M : Int) * 2 ^ (64 - L)) = (mm : Int))
    (hF : ∀ w', Below W.heap.size W w' → Calls Tryz.prog 227 #[.int .u64 mm, .int .i64 (-1022 - (64 - (L : Int)) - 52), .int .i64 ((prec : Int) + 1), .int .i64 prec, .int .u8 101] w' fun z w'' => z = .returned (.tuple #[.int .u64 d, .int .i64 q]) ∧ Below w'.heap.size w' w'')
    (hd0 : ((d : Int) != 0) = true) (hd1 : 1 ≤ d) (hd18 : d < 1000000000000000000) (hq1 : -380 ≤ q) (hq2 : q ≤ 380) (ht : Tabs W) (hr : Row W g W []) (hg : g < W.heap.size) :
    Calls Tryz.prog 189 #[.slice (some ⟨g, 0, none⟩) 0 24, .float .f64 b, .int .u8 101, .int .i64 prec] W fun e w' => e = .returned (.slice (some ⟨g, 0, none⟩) (efgText neg (fun t => Lib.dg d (Lib.nDigits d - 1 - t)) (trimN (fun t => Lib.dg d (Lib.nDigits d - 1 - t)) (Lib.nDigits d)) prec ((Lib.nDigits d : Int) + q)).length 24) ∧ Row W g w' (efgText neg (fun t => Lib.dg d (Lib.nDigits d - 1 - t)) (trimN (fun t => Lib.dg d (Lib.nDigits d - 1 - t)) (Lib.nDigits d)) prec ((Lib.nDigits d : Int) + q)) := by
  obtain ⟨nD, hnD⟩ : ∃ n, Lib.nDigits d = n := ⟨_, rfl⟩
  rw [hnD]
  obtain ⟨txt, htxt⟩ : ∃ t, efgText neg (fun t => Lib.dg d (nD - 1 - t)) (trimN (fun t => Lib.dg d (nD - 1 - t)) nD) prec ((nD : Int) + q) = t := ⟨_, rfl⟩
  rw [htxt]
  have HTX := hide htxt
  have HND := hide hnD
  clear htxt hnD
  have hfb := ibits_run
  have L1 : ∀ w, Calls Tryz.prog 223 #[.int .u64 (M : Int)] w fun e w' => e = .returned (.int .i64 (L : Int)) ∧ w' = w := fun w => by
    have := Tryz.bits_Len64 (M : Int) w (by omega) (by omega); rw [Int.toNat_natCast, hL] at this; exact this
  have H1 := hide L1
  have HF := hide hF
  have HL := hide hL
  clear L1 hF hL
  go_enter Tryz.func189, Tryz.ntmps189
  go_upto_region 14 with fail
  go_quiet (fail)
  go_wp2_with fail
  refine (unhide H1 _).mono ?_
  rintro x w1 ⟨rfl, hw⟩; rw [hw]; clear hw w1
  go_wp2_with fail
  refine (unhide HF _ ?_).mono ?_
  · exact below_drewN ((Below.refl _ _).alloc (Nat.le_refl _) _) _
  rintro x w2 ⟨rfl, hb2⟩
  have hnD := unhide HND
  have hn1 : 1 ≤ nD := by rw [← hnD]; exact Lib.nDigits_pos d
  have hn2 : nD ≤ 18 := by
    rw [← hnD]
    exact nDigits_le d 18 (by omega) (by omega)
  have hdn : d < 10 ^ nD := by rw [← hnD]; exact Lib.lt_pow_nDigits d
  have hlead := lead_ne d nD hd1 hnD
  have hB2 : Below W.heap.size W w2 := (below_drewN ((Below.refl _ _).alloc (Nat.le_refl _) _) _).trans (hb2.mono (by simp))
  have hblk : ∃ fz ty, w2.heap[W.heap.size]? = some (.cells (Array.replicate 24 (Value.int .u8 0)) ty fz) ∧ fz = (0, 0) := by
    have h := hb2.block W.heap.size (by simp)
    refine ⟨_, _, h.trans (World.alloc_heap_new (W.drewN _) _), rfl⟩
  have HN : Hid (∀ w', w'.heap = w2.heap → Calls Tryz.prog 215 #[.int .u64 d] w' fun e w'' => e = .returned (.int .i64 (nD : Int)) ∧ w'' = w') := by
    intro w' hw
    have h := Tryz.internal_strconv_numDigits d hd1 (by omega) w' (tab_heap (ht.below hB2) hw (by kernel_rfl))
    rw [hnD] at h; exact h
  have hH : ∀ w', w'.heap = w2.heap → Holds encB w' W.heap.size 0 (Array.replicate nD (0 : UInt8)) := by
    intro w' hw j hj
    obtain ⟨fz, ty, h1, h2⟩ := hblk
    rw [Array.size_replicate] at hj
    subst h2
    constructor
    · unfold World.cell?
      rw [hw, h1]
      simp [show j < 24 by omega, hj]
    · unfold World.frozen?
      rw [hw, h1]
      simp
  have HS : Hid (∀ w', w'.heap = w2.heap → Calls Tryz.prog 225 #[.slice (some ⟨W.heap.size, 0, none⟩) 24 24, .int .u64 d, .int .i64 q, .int .i64 (nD : Int)] w' fun e w'' =>
      e = .returned (.tuple #[.int .i64 ((nD : Int) + q), .int .i64 (trimN (fun t => Lib.dg d (nD - 1 - t)) nD)]) ∧ ∃ (k : Nat) (dk : Array UInt8), w'' = (putRow encB w' W.heap.size 0 dk).drewN k ∧ dk.size = nD ∧ ∀ t, t < nD → dk[t]! = Lib.dg d (nD - 1 - t)) := by
    intro w' hw
    exact setDigits_any W.heap.size d nD q w' (hH w' hw) hn1 (by omega) hdn (by omega) (by omega) (by omega)
  have ht1 := trimN_le (fun t => Lib.dg d (nD - 1 - t)) nD
  have ht2 := trimN_pos (fun t => Lib.dg d (nD - 1 - t)) hlead nD hn1
  have HH := hide hH
  have HB2 := hide hB2
  have Hbk := hide hblk
  clear hnD hlead hblk hH hB2 hdn
  go_upto_region 74 with fail
  go_region_with (first | (go_at_call 215; refine (unhide HN _ ?_).mono ?_; exact rfl; rintro x w3 ⟨rfl, rfl⟩) | (go_at_call 225; refine (unhide HS _ ?_).mono ?_; exact rfl; rintro x w3 ⟨rfl, k3, dk, hw3, hds, hdd⟩; have HW3 := hide hw3; clear hw3))
  have hw3 := unhide HW3
  have hg3 : w3.heap[g]? = W.heap[g]? := by
    rw [hw3]
    show (putRow encB w2.drew W.heap.size 0 dk).heap[g]? = _
    rw [heap_putRow_other _ _ _ _ _ _ (by omega)]
    exact (unhide HB2).block g hg
  have hk3 : ∀ k, k < W.heap.size → w3.heap[k]? = W.heap[k]? := by
    intro k hk
    rw [hw3]
    show (putRow encB w2.drew W.heap.size 0 dk).heap[k]? = _
    rw [heap_putRow_other _ _ _ _ _ _ (by omega)]
    exact (unhide HB2).block k hk
  have hcell : ∀ t, t < trimN (fun t => Lib.dg d (nD - 1 - t)) nD → w3.cell? ⟨W.heap.size, t, none⟩ = some (.int .u8 ((Lib.dg d (nD - 1 - t)).toNat : Int)) := by
    intro t htt
    rw [hw3, World.cell?_drewN]
    have h := cell?_putRow encB w2.drew W.heap.size 0 (Array.replicate nD (0 : UInt8)) dk (unhide HH _ rfl) (by simp [hds]) t (by omega)
    rw [Nat.zero_add, hdd t (by omega)] at h
    exact h
  have hs3 : W.heap.size ≤ w3.heap.size := by
    rw [hw3]
    show W.heap.size ≤ (putRow encB w2.drew W.heap.size 0 dk).heap.size
    rw [size_putRow]
    exact (unhide HB2).size
  have ho3 : w3.os = W.os ∧ w3.tape = W.tape ∧ w3.output = W.output := by
    rw [hw3]
    exact ⟨(unhide HB2).os, (unhide HB2).tape, (unhide HB2).output⟩
  have HC := hide hcell
  have HG := hide hg3
  have HK := hide hk3
  have HO := hide ho3
  clear hcell hg3 hk3 ho3 hw3 hdd
  go_wp2_with fail
  refine (efg_any w3 g W.heap.size _ prec neg ((nD : Int) + q) (fun t => Lib.dg d (nD - 1 - t)) (hr.again (unhide HG)) ht2 (by omega) hprec (by omega) (by omega) (by omega) (unhide HC)).mono ?_
  rintro x w4 ⟨rfl, hr4⟩
  rw [unhide HTX] at hr4
  rw [unhide HTX]
  go_wp2_with fail
  go_ret
  exact ⟨rfl, hr4.lift (unhide HO).1 (unhide HO).2.1 (unhide HO).2.2 hs3 (unhide HK)⟩
end Go.Proofs.YtgekdmjneogdoaaGreatDoor
