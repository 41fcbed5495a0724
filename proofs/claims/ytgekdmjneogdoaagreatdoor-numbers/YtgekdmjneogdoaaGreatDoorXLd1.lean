import Derived.Test.YtgekdmjneogdoaaGreatDoorXChWr
import Derived.Test.YtgekdmjneogdoaaGreatDoorRows
import Derived.Test.YtgekdmjneogdoaaGreatDoorXTabs
import Derived.Lib.LaidU8
import Derived.Lib.LaidTab
import Derived.Deep.Strs
import Derived.OpenShut
import Derived.Shelf.Vars
import Derived.ProofKit
import Derived.Lay
import Derived.LaidOnce
import Derived.LaidMore
import Derived.Stop.Joined
import Derived.HandedShaped
namespace Go.Proofs.YtgekdmjneogdoaaGreatDoor
open Go.RowKit Go.Lib

/-! what the row's condition says of the tables' cells -/
section
variable {H : Type} {enc : TypeId × Value → H} {P : Program} {w : World} {base : Nat} {sp : Nat → Bool} {held : Bool} {fuel : Nat} {t : TypeId} {cs : List Value} {x : DataW H × List MemPlace}

theorem trod_flt {k : FloatKind} (ht : P.underlying t = some (.float k)) (h : DataW.trod enc P w base sp held fuel t cs = some x) : ∃ b, cs = [.float k b] ∧ x = (.lit (.float k b), []) := by
  cases fuel with
  | zero => simp [DataW.trod] at h
  | succ n =>
    unfold DataW.trod at h
    rw [ht] at h
    split at h <;> simp_all

theorem trod_ifc {ms : Array (String × TypeId)} (ht : P.underlying t = some (.interface ms)) (h : DataW.trod enc P w base sp held fuel t cs = some x) : ∃ v, cs = [v] ∧ (v = .nilIface ∨ ∃ u y, v = .iface u y) := by
  cases fuel with
  | zero => simp [DataW.trod] at h
  | succ n =>
    unfold DataW.trod at h
    rw [ht] at h
    split at h <;> first | (simp_all; done) | exact ⟨_, rfl, Or.inl rfl⟩ | exact ⟨_, rfl, Or.inr ⟨_, _, rfl⟩⟩
end

theorem tab_of_reads {W : World} {name : String} {k : IntKind} {zs : List Int} {g : Nat} {t e : TypeId} {n : Nat}
    (hg : Tryz.prog.globalNamed name = some g) (hty : (Tryz.prog.globals[g]?).map (·.type) = some t) (ht : Tryz.prog.underlying t = some (.array n e)) (he : Tryz.prog.underlying e = some (.int k)) (hce : Tryz.prog.cellsOf e = 1) (hct : Tryz.prog.cellsOf t = n)
    (h : VarReads Tryz.prog W name (tabData k zs)) : TabIs Tryz.prog W name k zs := by
  obtain ⟨g', t', cs, fuel, p, hg', ht', hvar, hd⟩ := h
  obtain rfl := Option.some.inj (hg.symm.trans hg')
  obtain rfl := Option.some.inj (hty.symm.trans ht')
  unfold TabIs
  rw [hvar, ← cells_of_tab ht he hce hct hd]

theorem cw_tab {W : World} (h : VarReads Tryz.prog W "gauge/gauge.changeWidths" Rows.laid_gauge_gauge_changeWidths) : ∀ i, i < 5 → W.cell? ⟨1, i, none⟩ = some (.int .i64 (cw i)) := by
  have h1 := tab_of_reads (k := .i64) (zs := [0, 7, 9, 12, 64]) (g := 1) (by kernel_rfl) (by kernel_rfl) Tryz.underlying202 Tryz.underlying3 (by kernel_rfl) (by kernel_rfl) h
  intro i hi
  rw [h1.cell (by kernel_rfl) i hi]
  have : ∀ i : Fin 5, ([0, 7, 9, 12, 64] : List Int).getD i.val 0 = ((cw i.val : Nat) : Int) := by decide
  rw [this ⟨i, hi⟩]

theorem db_tab {W : World} (h : VarReads Tryz.prog W "math/bits.deBruijn64tab" Rows.laid_math_bits_deBruijn64tab) : ∀ i, i < 64 → W.cell? ⟨9, i, none⟩ = some (.int .u8 (dbTab i)) := by
  have h1 := tab_of_reads (k := .u8) (zs := (List.range 64).map fun i => ((dbTab i : Nat) : Int)) (g := 9) (by kernel_rfl) (by kernel_rfl) Tryz.underlying357 Tryz.underlying5 (by kernel_rfl) (by kernel_rfl) h
  intro i hi
  rw [h1.cell (by kernel_rfl) i (by simpa using hi)]
  simp [List.getD, hi]

theorem u64_tab {W : World} (h : VarReads Tryz.prog W "internal/strconv.uint64pow10" Rows.laid_internal_strconv_uint64pow10) : ∃ ty fz, W.heap[(6 : Nat)]? = some (.cells (Lib.pow10Tab.map fun z => Value.int .u64 z).toArray ty fz) := by
  have h1 := tab_of_reads (k := .u64) (zs := Lib.pow10Tab) (g := 6) (by kernel_rfl) (by kernel_rfl) Tryz.underlying321 Tryz.underlying25 (by kernel_rfl) (by kernel_rfl) h
  unfold TabIs World.var? at h1
  rw [show Tryz.prog.globalNamed "internal/strconv.uint64pow10" = some 6 by kernel_rfl, Option.bind_some] at h1
  cases hb : W.heap[(6 : Nat)]? with
  | none => rw [hb] at h1; cases h1
  | some o =>
    rw [hb] at h1
    cases o with
    | cells c ty fz => cases h1; exact ⟨ty, fz, rfl⟩
    | _ => cases h1

theorem opt_tab {W : World} (h : VarReads Tryz.prog W "internal/strconv.optimize" Rows.laid_internal_strconv_optimize) : W.cell? ⟨5, 0, none⟩ = some (.bool true) := by
  obtain ⟨g', t', cs, fuel, p, hg', ht', hvar, hd⟩ := h
  obtain rfl := Option.some.inj ((show Tryz.prog.globalNamed "internal/strconv.optimize" = some 5 by kernel_rfl).symm.trans hg')
  obtain rfl := Option.some.inj ((show (Tryz.prog.globals[(5 : Nat)]?).map (·.type) = some 4 by kernel_rfl).symm.trans ht')
  obtain ⟨b, hcs, hx⟩ := DataW.trod_bool Tryz.underlying4 hd
  cases hx
  rw [World.var?_cell hg' hvar 0, ← Array.getElem?_toList, hcs]
  rfl

theorem err_tab {W : World} (h : VarReads Tryz.prog W "strconv.ErrRange" Rows.laid_strconv_ErrRange) : ∃ ev, W.cell? ⟨4, 0, none⟩ = some ev ∧ (ev = .nilIface ∨ ∃ te pe, ev = .iface te pe) := by
  obtain ⟨g', t', cs, fuel, p, hg', ht', hvar, hd⟩ := h
  obtain rfl := Option.some.inj ((show Tryz.prog.globalNamed "strconv.ErrRange" = some 4 by kernel_rfl).symm.trans hg')
  obtain rfl := Option.some.inj ((show (Tryz.prog.globals[(4 : Nat)]?).map (·.type) = some 124 by kernel_rfl).symm.trans ht')
  obtain ⟨v, hcs, hv⟩ := trod_ifc Tryz.underlying124 hd
  refine ⟨v, ?_, hv⟩
  rw [World.var?_cell hg' hvar 0, ← Array.getElem?_toList, hcs]
  rfl
end Go.Proofs.YtgekdmjneogdoaaGreatDoor

namespace Go.Proofs.YtgekdmjneogdoaaGreatDoor
open Go.RowKit Go.Lib Go.ChangeShapes Go.WideShapes Go.Deep

theorem lit_u {a b : Int} {k : IntKind} (h : (DataW.lit (.int k a) : DataW Unit) = .lit (.int k b)) : a = b := by
  injection h with h1
  injection h1

theorem agg_inj {a b : List (DataW Unit)} (h : DataW.agg a = .agg b) : a = b := by
  injection h

theorem flt_inj {a b : Nat} (h : (DataW.lit (.float .f64 a) : DataW Unit) = .lit (.float .f64 b)) : a = b := by
  injection h with h1
  injection h1

set_option maxRecDepth 20000 in
theorem info_tab {W : World} (h : VarReads Tryz.prog W "internal/strconv.float64info" Rows.laid_internal_strconv_float64info) :
    W.cell? ⟨8, 0, none⟩ = some (.int .u64 52) ∧ W.cell? ⟨8, 1, none⟩ = some (.int .u64 11) ∧ W.cell? ⟨8, 2, none⟩ = some (.int .i64 (-1023)) := by
  obtain ⟨g', t', cs, fuel, p, hg', ht', hvar, hd⟩ := h
  obtain rfl := Option.some.inj ((show Tryz.prog.globalNamed "internal/strconv.float64info" = some 8 by kernel_rfl).symm.trans hg')
  obtain rfl := Option.some.inj ((show (Tryz.prog.globals[(8 : Nat)]?).map (·.type) = some 344 by kernel_rfl).symm.trans ht')
  obtain ⟨y0, y1, y2, n, hx, hl, h0, h1, h2⟩ := trod_struct3 Tryz.underlying344 hd
  have hc : Tryz.prog.cellsOf 344 = 3 := by kernel_rfl
  rw [hc] at hl
  have cu : Tryz.prog.cellsOf 155 = 1 := by kernel_rfl
  have ci : Tryz.prog.cellsOf 3 = 1 := by kernel_rfl
  obtain ⟨l⟩ := cs
  clear hd
  obtain ⟨a, b, c, rfl⟩ : ∃ a b c, l = [a, b, c] := by
    have hl2 : l.length = 3 := hl
    rcases l with _ | ⟨a, _ | ⟨b, _ | ⟨c, _ | ⟨d, r⟩⟩⟩⟩ <;> simp at hl2
    exact ⟨a, b, c, rfl⟩
  · obtain ⟨z0, e0, r0, _⟩ := DataW.trod_int Tryz.underlying155 h0
    obtain ⟨z1, e1, r1, _⟩ := DataW.trod_int Tryz.underlying155 h1
    obtain ⟨z2, e2, r2, _⟩ := DataW.trod_int Tryz.underlying3 h2
    subst r0 r1 r2
    have hd2 := congrArg Prod.fst hx
    simp only [Rows.laid_internal_strconv_float64info, DataW.agg.injEq, List.cons.injEq, and_true] at hd2
    obtain ⟨q0, q1, q2⟩ := hd2
    have k0 := lit_u q0
    have k1 := lit_u q1
    have k2 := lit_u q2
    subst k0 k1 k2
    simp [cu, ci] at e0 e1 e2
    subst e0 e1 e2
    exact ⟨(World.var?_cell hg' hvar 0).trans rfl, (World.var?_cell hg' hvar 1).trans rfl, (World.var?_cell hg' hvar 2).trans rfl⟩

theorem pow_tab {W : World} (h : VarReads Tryz.prog W "internal/strconv.pow10Tab" Go.Pinned.pow10Tab) :
    ∀ i, i < 696 → W.cell? ⟨10, i * 2, none⟩ = some (.int .u64 (powHi i)) ∧ W.cell? ⟨10, i * 2 + 1, none⟩ = some (.int .u64 (powLo i)) := by
  obtain ⟨g', t', cs, fuel, p, hg', ht', hvar, hd⟩ := h
  obtain rfl := Option.some.inj ((show Tryz.prog.globalNamed "internal/strconv.pow10Tab" = some 10 by kernel_rfl).symm.trans hg')
  obtain rfl := Option.some.inj ((show (Tryz.prog.globals[(10 : Nat)]?).map (·.type) = some 367 by kernel_rfl).symm.trans ht')
  obtain ⟨xs, m, _, hx, hl, hxl, hel⟩ := DataW.trod_array Tryz.underlying367 hd
  have c2 : Tryz.prog.cellsOf 366 = 2 := by kernel_rfl
  have cu : Tryz.prog.cellsOf 25 = 1 := by kernel_rfl
  have hrows : xs.map (·.1) = Go.Pinned.pow10Rows.map fun x => (DataW.agg [.lit (.int .u64 x.1), .lit (.int .u64 x.2)] : DataW Unit) := by
    have := congrArg Prod.fst hx
    exact (agg_inj this).symm
  intro i hi
  have h1 := hel i hi
  rw [c2] at h1
  obtain ⟨b, hb⟩ : ∃ b, xs[i]? = some b := ⟨_, List.getElem?_eq_getElem (by omega)⟩
  rw [hb] at h1
  obtain ⟨y0, y1, n, hy, hyl, k0, k1⟩ := trod_struct2 Tryz.underlying366 h1
  obtain ⟨z0, e0, r0, _⟩ := DataW.trod_int Tryz.underlying25 k0
  obtain ⟨z1, e1, r1, _⟩ := DataW.trod_int Tryz.underlying25 k1
  subst r0 r1
  have hlen : Go.Pinned.pow10Rows.length = 696 := by
    have := congrArg List.length hrows
    simpa [hxl] using this.symm
  have hrow : (DataW.agg [.lit (.int .u64 z0), .lit (.int .u64 z1)] : DataW Unit) = .agg [.lit (.int .u64 (powHi i)), .lit (.int .u64 (powLo i))] := by
    have h3 : (xs.map (·.1))[i]? = some b.1 := by simp [hb]
    rw [hrows, List.getElem?_map, List.getElem?_eq_getElem (by omega)] at h3
    have h4 := Option.some.inj h3
    rw [hy] at h4
    refine Eq.trans h4.symm ?_
    unfold powHi powLo
    rw [List.getD_eq_getElem?_getD, List.getElem?_eq_getElem (by omega), Option.getD_some]
  injection hrow with hrow
  injection hrow with q0 hrow
  injection hrow with q1 _
  have k0 := lit_u q0
  have k1 := lit_u q1
  subst k0 k1
  have hg0 : ∀ j, j < 2 → cs.toList[i * 2 + j]? = ((cs.toList.drop (i * 2)).take 2)[j]? := fun j hj => by
    rw [List.getElem?_take_of_lt hj, List.getElem?_drop]
  constructor
  · rw [World.var?_cell hg' hvar (i * 2), ← Array.getElem?_toList]
    have h5 := hg0 0 (by omega)
    rw [Nat.add_zero] at h5
    rw [h5]
    have h6 := congrArg (·[0]?) e0
    simpa [cu] using h6
  · rw [World.var?_cell hg' hvar (i * 2 + 1), ← Array.getElem?_toList, hg0 1 (by omega)]
    have h6 := congrArg (·[0]?) e1
    simpa [cu] using h6

theorem fpow_tab {W : World} (h : VarReads Tryz.prog W "internal/strconv.float64pow10" Rows.laid_internal_strconv_float64pow10) :
    ∃ B O, W.cell? ⟨14, 0, none⟩ = some (.slice (some ⟨B, O, none⟩) 23 23) ∧ ∀ j, j < 23 → W.cell? ⟨B, O + j, none⟩ = some (.float .f64 (fpow j)) := by
  obtain ⟨g', t', cs, fuel, p, hg', ht', hvar, hd⟩ := h
  obtain rfl := Option.some.inj ((show Tryz.prog.globalNamed "internal/strconv.float64pow10" = some 14 by kernel_rfl).symm.trans hg')
  obtain rfl := Option.some.inj ((show (Tryz.prog.globals[(14 : Nat)]?).map (·.type) = some 378 by kernel_rfl).symm.trans ht')
  have hdat : (Rows.laid_internal_strconv_float64pow10 : DataW Unit) = .slice ((List.range 23).map fun j => .lit (.float .f64 (fpow j))) [] := by kernel_rfl
  rw [hdat] at hd
  have hc : Tryz.prog.cellsOf 79 = 1 := by kernel_rfl
  rcases DataW.trod_slice Tryz.underlying378 hd with ⟨_, hx⟩ | ⟨a, len, cap, el, rs, m, rfl, hcs, hx, _, hlc, _, hel, helem, hsp, _⟩
  · cases hx
  have e0 := congrArg Prod.fst hx
  simp only [DataW.slice.injEq] at e0
  obtain ⟨eE, eR⟩ := e0
  have hlen : len = 23 := by
    have := congrArg List.length eE
    simp at this
    omega
  have hrs : rs = [] := by
    have := eR.symm
    simpa using this
  have hcap : cap = 23 := by
    have := (hsp rfl).1
    rw [hrs] at this
    simp at this
    omega
  subst hlen hcap
  have hcell : ∀ i, i < 23 → W.cell? (a.add i) = some (.float .f64 (fpow i)) := by
    intro i hi
    have h1 := helem i (by omega)
    rw [hc] at h1
    obtain ⟨b, hb⟩ : ∃ b, el[i]? = some b := ⟨el[i]'(by omega), List.getElem?_eq_getElem (by omega)⟩
    rw [hb] at h1
    obtain ⟨ce, hce, hte⟩ := Option.bind_eq_some_iff.1 h1
    obtain ⟨z, hz, hbz⟩ := trod_flt Tryz.underlying79 hte
    have hb1 : b.1 = .lit (.float .f64 (fpow i)) := by
      have := congrArg (·[i]?) eE
      simp [hb, hi] at this
      exact this.symm
    rw [hbz] at hb1
    have hb3 := flt_inj hb1
    obtain ⟨_, _, hcc⟩ := World.cells?_some hce
    have := hcc 0 (by omega)
    rw [hz] at this
    simp only [Nat.mul_one] at this
    have e1 : (a.add i).add 0 = a.add i := by simp [Addr.add]
    rw [e1] at this
    rw [this, ← hb3]
    rfl
  obtain ⟨R, o, sR⟩ := a
  obtain rfl : sR = none := by
    have h00 := hcell 0 (by omega)
    have : (Addr.add ⟨R, o, sR⟩ 0) = ⟨R, o, sR⟩ := by simp [Addr.add]
    rw [this] at h00
    exact Go.Proofs.cell_spot h00
  refine ⟨R, o, ?_, fun j hj => ?_⟩
  · rw [World.var?_cell hg' hvar 0, ← Array.getElem?_toList, hcs]
    rfl
  · have := hcell j hj
    rwa [Addr.add_lit] at this

theorem max_tab {W : World} (h : W.ShapedOpen Tryz.prog) : ∃ m, W.cell? ⟨2, 0, none⟩ = some (.int .i64 m) :=
  cell_of_shapedOpen_int (P := Tryz.prog) (t := 3) (zero := #[.int .i64 0]) h (of_decide_eq_true (by kernel_rfl)) (by kernel_rfl) rfl (by kernel_rfl) (by kernel_rfl) Tryz.underlying3
end Go.Proofs.YtgekdmjneogdoaaGreatDoor

namespace Go.Proofs.YtgekdmjneogdoaaGreatDoor
open Go.RowKit Go.Lib Go.ChangeShapes Go.WideShapes Go.ChangeAt

abbrev laidL : List (String × DataW Unit) := Rows.canonicalRow.laid

theorem tabs_of_laid {W : World} (h : laidMet Tryz.prog laidL W) (hs : W.ShapedOpen Tryz.prog) : Tabs W ∧ CTabs W ∧ GK (Under W) := by
  have r1 := Lib.laidMet.reads h (n := "math/bits.deBruijn64tab") (d := Rows.laid_math_bits_deBruijn64tab) (.tail _ (.head _))
  have r3 := Lib.laidMet.reads h (n := "internal/strconv.float64info") (d := Rows.laid_internal_strconv_float64info) (.tail _ (.tail _ (.tail _ (.head _))))
  have r4 := Lib.laidMet.reads h (n := "internal/strconv.optimize") (d := Rows.laid_internal_strconv_optimize) (.tail _ (.tail _ (.tail _ (.tail _ (.head _)))))
  have r6 := Lib.laidMet.reads h (n := "internal/strconv.float64pow10") (d := Rows.laid_internal_strconv_float64pow10) (.tail _ (.tail _ (.tail _ (.tail _ (.tail _ (.tail _ (.head _)))))))
  have r8 := Lib.laidMet.reads h (n := "internal/strconv.uint64pow10") (d := Rows.laid_internal_strconv_uint64pow10) (.tail _ (.tail _ (.tail _ (.tail _ (.tail _ (.tail _ (.tail _ (.tail _ (.head _)))))))))
  have r9 := Lib.laidMet.reads h (n := "strconv.ErrRange") (d := Rows.laid_strconv_ErrRange) (.tail _ (.tail _ (.tail _ (.tail _ (.tail _ (.tail _ (.tail _ (.tail _ (.tail _ (.head _))))))))))
  have r11 := Lib.laidMet.reads h (n := "gauge/gauge.changeWidths") (d := Rows.laid_gauge_gauge_changeWidths) (.tail _ (.tail _ (.tail _ (.tail _ (.tail _ (.tail _ (.tail _ (.tail _ (.tail _ (.tail _ (.tail _ (.head _))))))))))))
  have r13 := Lib.laidMet.reads h (n := "internal/strconv.pow10Tab") (d := Rows.laid_internal_strconv_pow10Tab) (.tail _ (.tail _ (.tail _ (.tail _ (.tail _ (.tail _ (.tail _ (.tail _ (.tail _ (.tail _ (.tail _ (.tail _ (.tail _ (.head _))))))))))))))
  have hi := info_tab r3
  have hC : CTabs W := ⟨cw_tab r11, db_tab r1⟩
  exact ⟨⟨pow_tab r13, opt_tab r4, hi.1, hi.2.1, hi.2.2, fpow_tab r6, err_tab r9, max_tab hs, u64_tab r8⟩, hC, ⟨lt_of_cell (hC.cwid 0 (by omega)), lt_of_cell (hC.db 0 (by omega))⟩⟩

theorem own : ownKnob Tryz.prog.godebug = none := by kernel_rfl

/-- the wrap, with the variables' condition and the world's shape -/
theorem returns_laid {H : Type} {enc : TypeId × Value → H} {C : Checked} {os : Os} {f : FuncId} {fn : Func} {s : ChangeSpec} {conds : List PathCond} {apart fresh handsOn again : Bool} {a : Assume} {X : World → Array Value → Prop}
    (hX : ∀ (w w' : World) (args : Array Value), w.heap = w'.heap → X w args → X w' args)
    (own : ownKnob C.prog.godebug = none) (started : os.Started) (noInit : C.prog.inits.idxOf? f = none) (hfn : C.prog.funcs[f]? = some fn)
    (witness : ∃ (w : World) (tape : Tape) (i : Input), w.os = os ∧ (w.forCall tape i).Shaped C.prog ∧ i.vars = [] ∧ Input.okWide C.prog (w.forCall tape i) .any w.heap.size f i ∧
      ((s.pre enc C.prog fn conds apart (w.forCall tape i).memory i.args ∧ X (w.forCall tape i).memory i.args) ∧ sizedMet enc C.prog fn (OpenSpec.ofChange s) apart (w.forCall tape i).memory i.args) ∧ a.holds C.prog (lone (Frame.enter C.prog f i.args .normal) [] (w.forCall tape i)))
    (contract : ∀ (W : World) (base : Nat) (args : Array Value) (ds gs : List (DataW H)) (before : List MemPlace),
      (∀ (j : Nat) t v, fn.params[j]? = some t → args[j]? = some v → Value.okWide C.prog W .any base t v) →
      DataW.Whole enc C.prog fn.params.toList s.vars apart W args.toList ds gs before →
      (DataW.weightsEach C.prog (fn.params.toList ++ s.plain.varTypes C.prog) (ds ++ gs)).all (· ≤ reachBytes) = true → X W args → W.ShapedOpen C.prog →
      Calls C.prog f args W fun e W' => ∃ v, e = .returned v ∧ s.post enc C.prog fn apart fresh handsOn again W args v W') :
    ReturnsInHanded a C os f .any (fun w args => (s.pre enc C.prog fn conds apart w args ∧ X w args) ∧ sizedMet enc C.prog fn (OpenSpec.ofChange s) apart w args) (s.post enc C.prog fn apart fresh handsOn again) := by
  refine returnsInHanded_of_calls own started noInit witness ?_
  intro w tape i _ hsh _ hok hpre _
  obtain ⟨_, _, _, fn', hfn', _, _, _, _, hval⟩ := hok
  have e : fn' = fn := Option.some.inj (hfn'.symm.trans hfn)
  subst e
  obtain ⟨⟨⟨ds, gs, before, hw, _⟩, hx⟩, hz⟩ := hpre
  have hw' := DataW.Whole.of_heap (w' := w.forCall tape i) (by rfl) hw
  refine (contract (w.forCall tape i) w.heap.size i.args ds gs before hval hw' (hz.weights hw) (hX _ _ _ (by rfl) hx) hsh).mono fun e W' ⟨v, he, hp⟩ => ?_
  subst he
  exact ChangeSpec.post_blind hp

/-- a start that lays the tables -/
theorem start_met (os : Os) (args : Array Value) : laidMetH Tryz.prog laidL ((World.laidAll Tryz.prog os laidL).forCall (fun _ _ => 0) ⟨#[], args, []⟩).memory := by
  rw [MakeChecks.laidMetH_plain _ _ _ (by kernel_rfl)]
  exact laidMet_laidAll _ (by kernel_rfl) (by kernel_rfl)

theorem start_shaped (os : Os) (args : Array Value) : ((World.laidAll Tryz.prog os laidL).forCall (fun _ _ => 0) ⟨#[], args, []⟩).Shaped Tryz.prog := World.shaped_of_ZipB (by kernel_rfl) (by kernel_rfl)
end Go.Proofs.YtgekdmjneogdoaaGreatDoor
