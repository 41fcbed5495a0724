import Derived.Test.YtgekdmjneogdoaaGreatDoorXDeD
import Derived.Test.YtgekdmjneogdoaaGreatDoorXDeK
import Derived.Test.YtgekdmjneogdoaaGreatDoorXLd1
namespace Go.Proofs.YtgekdmjneogdoaaGreatDoor
open Go.RowKit Go.Lib Go.ChangeShapes Go.WideShapes Go.Deep

/-! the slow road's tables, out of what is laid -/
theorem powt_tab {W : World} (h : VarReads Tryz.prog W "internal/strconv.powtab" Rows.laid_internal_strconv_powtab) :
    ∃ B O, W.cell? ⟨13, 0, none⟩ = some (.slice (some ⟨B, O, none⟩) 9 9) ∧ ∀ j, j < 9 → W.cell? ⟨B, O + j, none⟩ = some (.int .i64 (ptN j : Int)) := by
  obtain ⟨g', t', cs, fuel, p, hg', ht', hvar, hd⟩ := h
  obtain rfl := Option.some.inj ((show Tryz.prog.globalNamed "internal/strconv.powtab" = some 13 by kernel_rfl).symm.trans hg')
  obtain rfl := Option.some.inj ((show (Tryz.prog.globals[(13 : Nat)]?).map (·.type) = some 32 by kernel_rfl).symm.trans ht')
  have hdat : (Rows.laid_internal_strconv_powtab : DataW Unit) = .slice ((List.range 9).map fun j => .lit (.int .i64 (ptN j : Int))) [] := by kernel_rfl
  rw [hdat] at hd
  have hc : Tryz.prog.cellsOf 3 = 1 := by kernel_rfl
  rcases DataW.trod_slice Tryz.underlying32 hd with ⟨_, hx⟩ | ⟨a, len, cap, el, rs, m, rfl, hcs, hx, _, hlc, _, hel, helem, hsp, _⟩
  · cases hx
  have e0 := congrArg Prod.fst hx
  simp only [DataW.slice.injEq] at e0
  obtain ⟨eE, eR⟩ := e0
  have hlen : len = 9 := by
    have := congrArg List.length eE
    simp at this
    omega
  have hrs : rs = [] := by
    have := eR.symm
    simpa using this
  have hcap : cap = 9 := by
    have := (hsp rfl).1
    rw [hrs] at this
    simp at this
    omega
  subst hlen hcap
  have hcell : ∀ i, i < 9 → W.cell? (a.add i) = some (.int .i64 (ptN i : Int)) := by
    intro i hi
    have h1 := helem i (by omega)
    rw [hc] at h1
    obtain ⟨b, hb⟩ : ∃ b, el[i]? = some b := ⟨el[i]'(by omega), List.getElem?_eq_getElem (by omega)⟩
    rw [hb] at h1
    obtain ⟨ce, hce, hte⟩ := Option.bind_eq_some_iff.1 h1
    obtain ⟨z, hz, hbz, _⟩ := DataW.trod_int Tryz.underlying3 hte
    have hb1 : b.1 = .lit (.int .i64 (ptN i : Int)) := by
      have := congrArg (·[i]?) eE
      simp [hb, hi] at this
      exact this.symm
    rw [hbz] at hb1
    have hb3 := lit_u hb1
    obtain ⟨_, _, hcc⟩ := World.cells?_some hce
    have := hcc 0 (by omega)
    rw [hz] at this
    simp only [Nat.mul_one] at this
    have e1 : (a.add i).add 0 = a.add i := by simp [Addr.add]
    rw [e1] at this
    rw [this, ← hb3]
    rfl
  obtain ⟨R, o, sR⟩ := a
  obtain rfl : sR = none := by
    have h00 := hcell 0 (by omega)
    have : (Addr.add ⟨R, o, sR⟩ 0) = ⟨R, o, sR⟩ := by simp [Addr.add]
    rw [this] at h00
    exact Go.Proofs.cell_spot h00
  refine ⟨R, o, ?_, fun j hj => ?_⟩
  · rw [World.var?_cell hg' hvar 0, ← Array.getElem?_toList, hcs]
    rfl
  · have := hcell j hj
    rwa [Addr.add_lit] at this

theorem cheat_rows : Go.Pinned.cheatRows.length = 61 ∧ ((List.range 60).all fun j => decide (Go.Pinned.cheatRows[j + 1]? = some (chD (j + 1), chC (j + 1)))) = true := by
  constructor
  · decide +kernel
  · decide +kernel

theorem str_inj {a b : List UInt8} (h : (DataW.lit (.string a) : DataW Unit) = .lit (.string b)) : a = b := by
  injection h with h1
  injection h1

theorem cheat_tab {W : World} (h : VarReads Tryz.prog W "internal/strconv.leftcheats" Go.Pinned.leftcheats) : Cheat W := by
  obtain ⟨g', t', cs, fuel, p, hg', ht', hvar, hd⟩ := h
  obtain rfl := Option.some.inj ((show Tryz.prog.globalNamed "internal/strconv.leftcheats" = some 11 by kernel_rfl).symm.trans hg')
  obtain rfl := Option.some.inj ((show (Tryz.prog.globals[(11 : Nat)]?).map (·.type) = some 373 by kernel_rfl).symm.trans ht')
  unfold Go.Pinned.leftcheats at hd
  have hc : Tryz.prog.cellsOf 372 = 2 := by kernel_rfl
  have ci : Tryz.prog.cellsOf 3 = 1 := by kernel_rfl
  have cstr : Tryz.prog.cellsOf 9 = 1 := by kernel_rfl
  have c61 := cheat_rows.1
  rcases DataW.trod_slice Tryz.underlying373 hd with ⟨_, hx⟩ | ⟨a, len, cap, el, rs, m, rfl, hcs, hx, _, hlc, _, hel, helem, hsp, _⟩
  · cases hx
  have e0 := congrArg Prod.fst hx
  simp only [DataW.slice.injEq] at e0
  obtain ⟨eE, eR⟩ := e0
  have hlen : len = 61 := by
    have := congrArg List.length eE
    simp at this
    omega
  have hrs : rs = [] := by
    have := eR.symm
    simpa using this
  have hcap : cap = 61 := by
    have := (hsp rfl).1
    rw [hrs] at this
    simp at this
    omega
  subst hlen hcap
  have hcell : ∀ k, k < 61 → ∀ r, Go.Pinned.cheatRows[k]? = some r → W.cell? (a.add (k * 2)) = some (.int .i64 (r.1 : Int)) ∧ W.cell? ((a.add (k * 2)).add 1) = some (.string ⟨r.2.toArray⟩) := by
    intro i hi r hr
    have h1 := helem i (by omega)
    rw [hc] at h1
    obtain ⟨b, hb⟩ : ∃ b, el[i]? = some b := ⟨el[i]'(by omega), List.getElem?_eq_getElem (by omega)⟩
    rw [hb] at h1
    obtain ⟨ce, hce, hte⟩ := Option.bind_eq_some_iff.1 h1
    obtain ⟨y0, y1, n, hy, hyl, k0, k1⟩ := trod_struct2 Tryz.underlying372 hte
    obtain ⟨z, e0, r0, _⟩ := DataW.trod_int Tryz.underlying3 k0
    obtain ⟨s, e1, r1, _⟩ := DataW.trod_string Tryz.underlying9 k1
    subst r0 r1
    have hb1 : b.1 = .agg [.lit (.int .i64 r.1), .lit (.string r.2)] := by
      have := congrArg (·[i]?) eE
      simp [hb, hr] at this
      exact this.symm
    rw [hy] at hb1
    injection hb1 with hb1
    injection hb1 with q0 hb1
    injection hb1 with q1 _
    have z0 := lit_u q0
    have z1 := str_inj q1
    obtain ⟨_, _, hcc⟩ := World.cells?_some hce
    have h0 := hcc 0 (by omega)
    have h1 := hcc 1 (by omega)
    have hl2 : ce.length = 2 := by omega
    obtain ⟨v0, v1, rfl⟩ : ∃ v0 v1, ce = [v0, v1] := by
      rcases ce with _ | ⟨v0, _ | ⟨v1, _ | ⟨v2, r⟩⟩⟩ <;> simp at hl2
      exact ⟨v0, v1, rfl⟩
    simp [ci, cstr] at e0 e1
    subst e0 e1
    rw [show (a.add (i * 2)).add 0 = a.add (i * 2) by simp [Addr.add]] at h0
    refine ⟨by rw [h0, ← z0]; rfl, ?_⟩
    rw [h1, ← z1]
    rfl
  obtain ⟨R, o, sR⟩ := a
  have hrow : ∀ k, 1 ≤ k → k ≤ 60 → Go.Pinned.cheatRows[k]? = some (chD k, chC k) := by
    intro k k1 k2
    have h1 := List.all_eq_true.1 cheat_rows.2 (k - 1) (List.mem_range.2 (by omega))
    rw [show k - 1 + 1 = k by omega] at h1
    exact of_decide_eq_true h1
  obtain rfl : sR = none := by
    have h00 := (hcell 0 (by omega) _ (List.getElem?_eq_getElem (by omega))).1
    have : (Addr.add ⟨R, o, sR⟩ (0 * 2)) = ⟨R, o, sR⟩ := by simp [Addr.add]
    rw [this] at h00
    exact Go.Proofs.cell_spot h00
  refine ⟨R, o, ?_, fun k k1 k2 => ?_⟩
  · rw [World.var?_cell hg' hvar 0, ← Array.getElem?_toList, hcs]
    rfl
  · have := hcell k (by omega) _ (hrow k k1 k2)
    rw [Addr.add_lit, Addr.add_lit] at this
    exact this
end Go.Proofs.YtgekdmjneogdoaaGreatDoor

namespace Go.Proofs.YtgekdmjneogdoaaGreatDoor
open Go.RowKit Go.Lib Go.ChangeShapes Go.WideShapes Go.ChangeAt

theorem slow_of_laid {W : World} (h : laidMet Tryz.prog laidL W) : SlowW W := by
  have r3 := Lib.laidMet.reads h (n := "internal/strconv.float64info") (d := Rows.laid_internal_strconv_float64info) (.tail _ (.tail _ (.tail _ (.head _))))
  have r5 := Lib.laidMet.reads h (n := "internal/strconv.powtab") (d := Rows.laid_internal_strconv_powtab) (.tail _ (.tail _ (.tail _ (.tail _ (.tail _ (.head _))))))
  have r12 := Lib.laidMet.reads h (n := "internal/strconv.leftcheats") (d := Rows.laid_internal_strconv_leftcheats) (.tail _ (.tail _ (.tail _ (.tail _ (.tail _ (.tail _ (.tail _ (.tail _ (.tail _ (.tail _ (.tail _ (.tail _ (.head _)))))))))))))
  have hi := info_tab r3
  exact ⟨cheat_tab r12, powt_tab r5, hi.1, hi.2.1, hi.2.2⟩
end Go.Proofs.YtgekdmjneogdoaaGreatDoor
