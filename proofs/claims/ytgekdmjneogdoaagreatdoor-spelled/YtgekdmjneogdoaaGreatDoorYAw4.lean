import Derived.Test.YtgekdmjneogdoaaGreatDoorYAw3
namespace Go.Proofs.YtgekdmjneogdoaaGreatDoor
open Go.RowKit

/-- the text that FormatFloat writes of a number's parts -/
def fmtN (mm : Nat) (e : Int) (prec : Nat) : List UInt8 :=
  efgText false (fun t => Lib.dg (fixD mm e (prec + 1)).1 (Lib.nDigits (fixD mm e (prec + 1)).1 - 1 - t)) (trimN (fun t => Lib.dg (fixD mm e (prec + 1)).1 (Lib.nDigits (fixD mm e (prec + 1)).1 - 1 - t)) (Lib.nDigits (fixD mm e (prec + 1)).1)) prec ((Lib.nDigits (fixD mm e (prec + 1)).1 : Int) + (fixD mm e (prec + 1)).2)

def fmtOk (mm : Nat) (e : Int) (prec : Nat) : Bool :=
  fixOk mm e (prec + 1) && decide (prec ≤ 16) && decide (1 ≤ (fixD mm e (prec + 1)).1) && decide ((fixD mm e (prec + 1)).1 < 1000000000000000000) && decide (-380 ≤ (fixD mm e (prec + 1)).2) && decide ((fixD mm e (prec + 1)).2 ≤ 380)

theorem format_at (b e0 fr M mm prec : Nat) (e : Int) (w : World) (ht : Tabs w) (hb : b < 18446744073709551616) (hneg : ((b : Int) / 9223372036854775808 != 0) = false) (he : bits BinOp.and IntKind.i64 ((b : Int) / 4503599627370496) 2047 = (e0 : Int)) (hfr : bits BinOp.and IntKind.u64 (b : Int) 4503599627370495 = (fr : Int))
    (he2 : e0 < 2047) (he3 : 1 ≤ e0) (hM : bits BinOp.or IntKind.u64 (fr : Int) 4503599627370496 = (M : Int)) (hM0 : ((M : Int) == 0) = false) (hMb : M < 18446744073709551616) (hL : Lib.bitLen M = 53) (hmm : IntKind.u64.wrap ((M : Int) * 2 ^ (64 - 53)) = (mm : Int))
    (hee : (e0 : Int) - 1086 = e) (hok : fmtOk mm e prec = true) :
    Calls Tryz.prog 75 #[.float .f64 b, .int .u8 101, .int .i64 prec, .int .i64 64] w fun z w' => z = .returned (.string ⟨(fmtN mm e prec).toArray⟩) ∧ Below w.heap.size w w' := by
  simp only [fmtOk, Bool.and_eq_true, decide_eq_true_eq] at hok
  obtain ⟨⟨⟨⟨⟨h1, h2⟩, h3⟩, h4⟩, h5⟩, h6⟩ := hok
  refine formatFloat_any b prec _ w (format_any b prec _ w h2 ?_)
  intro w' hb' hr
  have ht' := ht.below hb'
  refine ftoa_norm w' w.heap.size b e0 fr M 53 mm (fixD mm e (prec + 1)).1 (fixD mm e (prec + 1)).2 false prec ht'.opt h2 hb hneg he hfr he2 he3 hM hM0 hMb hL (by decide) (by decide) hmm ?_ ?_ h3 h4 h5 h6 ht' hr ?_
  · intro w'' hb''
    have hx := fixed_at mm (prec + 1) e prec w'' (ht'.below hb'') h1
    have e1 : (e0 : Int) + -1023 - (64 - ((53 : Nat) : Int)) - 52 = e := by omega
    have e2 : ((prec + 1 : Nat) : Int) = (prec : Int) + 1 := by omega
    rw [e1, ← e2]
    exact hx
  · rw [bne_iff_ne]; omega
  · exact (hr.own.lt w.heap.size rfl).2

theorem fmt_one0 : fmtN 9223372036854775808 (-63) 0 = [49, 101, 43, 48, 48] := by kernel_rfl
theorem form_one0 (w : World) (ht : Tabs w) : Calls Tryz.prog 75 #[.float .f64 4607182418800017408, .int .u8 101, .int .i64 0, .int .i64 64] w fun z w' => z = .returned (.string ⟨([49, 101, 43, 48, 48] : List UInt8).toArray⟩) ∧ Below w.heap.size w w' := by
  have h := format_at 4607182418800017408 1023 0 4503599627370496 9223372036854775808 0 (-63) w ht (by decide) (by decide) (by kernel_rfl) (by kernel_rfl) (by decide) (by decide) (by kernel_rfl) (by decide) (by decide) (by kernel_rfl) (by kernel_rfl) (by decide) (by kernel_rfl)
  rw [fmt_one0] at h
  exact h
theorem read_one0 : Reads ⟨([49, 101, 43, 48, 48] : List UInt8).toArray⟩ 1 (0) false false := fun w => by
  have hb := bytes_ok ⟨([49, 101, 43, 48, 48] : List UInt8).toArray⟩ (by decide)
  exact readFloat_pos ⟨([49, 101, 43, 48, 48] : List UInt8).toArray⟩ w (⟨1, false, false, true, 1, 1, 0⟩, [101, 43, 48, 48]) (0) (by decide) (by decide) (by decide) (by decide) hb.1 hb.2 (by rfl) (Or.inr ⟨_, rfl⟩) rfl (fun h => by cases h)
    (fun r h => by cases h; exact ⟨1, [48, 48], ⟨Or.inl ⟨rfl, rfl⟩, by decide, by decide, by decide⟩, by decide⟩)
theorem near_one0 (w : World) (ht : Tabs w) : Calls Tryz.prog 49 #[.string ⟨([49, 101, 43, 48, 48] : List UInt8).toArray⟩] w fun e w' => e = .returned (.float .f64 4607182418800017408) ∧ Below w.heap.size w w' := by
  refine nearest_any _ 4607182418800017408 false w ht (by decide) ?_
  refine (atof_exact _ 1 0 (0) false false w (fun w => special_digit _ w (by decide) (by decide) (by decide) (by decide)) read_one0 ht.opt (by decide) (by decide) (by decide) (by decide) rfl 4607182418800017408 ?_).mono ?_
  · exact exact_zero 1 4607182418800017408 13830554455654793216 4607182418800017408 false w ht.mant (by decide) (by kernel_rfl) (by kernel_rfl) rfl
  · rintro e w' ⟨rfl, rfl⟩
    exact ⟨rfl, Below.refl _ _⟩

def txt_one (k : Nat) : List UInt8 := ([[49, 101, 43, 48, 48]] : List (List UInt8)).getD k []
def val_one (k : Nat) : Nat := [4607182418800017408].getD k 0
theorem few_one (w : World) (ht : Tabs w) : Calls Tryz.prog 45 #[.float .f64 4607182418800017408] w fun e w' => e = .returned (.string ⟨([49, 101, 43, 48, 48] : List UInt8).toArray⟩) ∧ Below w.heap.size w w' := by
  refine few_at 4607182418800017408 0 txt_one val_one w (by decide) ?_ ?_ (by decide +kernel) (by kernel_rfl)
  · intro k hk w' hb
    have ht' := ht.below hb
    have hk2 : k = 0 := by omega
    subst hk2
    exact form_one0 w' ht'
  · intro k hk w' hb
    have ht' := ht.below hb
    have hk2 : k = 0 := by omega
    subst hk2
    exact near_one0 w' ht'

theorem short_one (w : World) (ht : Tabs w) : Calls Tryz.prog 17 #[.int .u64 4607182418800017408] w fun e w' => e = .returned (.string ⟨([49, 101, 48] : List UInt8).toArray⟩) ∧ Below w.heap.size w w' := by
  refine (short_fin 4607182418800017408 13830554455654793216 (fun l => l = [49, 101, 43, 48, 48]) (fun _ => [49, 101, 48]) w (by kernel_rfl) (by kernel_rfl) (by kernel_rfl) (by kernel_rfl) (by kernel_rfl) ?_ ?_).mono ?_
  · refine (few_one w ht).mono ?_
    rintro e w' ⟨rfl, hb⟩
    exact ⟨_, rfl, rfl, hb⟩
  · intro l hl w' hb
    subst hl
    have hi : Lib.itoa (0) = [48] := by kernel_rfl
    have h := plain_any [49, 101, 43, 48, 48] [49] [43, 48, 48] true (0) w' (ht.below hb) (by decide) (by decide) (by decide) (by decide) (by decide) (by decide) (by decide) (by rw [hi]; decide)
    rw [hi] at h
    exact h
  · rintro e w' ⟨l, rfl, rfl, hb⟩
    exact ⟨rfl, hb⟩

theorem fmt_tenth0 : fmtN 14757395258967642112 (-67) 0 = [49, 101, 45, 48, 49] := by kernel_rfl
theorem form_tenth0 (w : World) (ht : Tabs w) : Calls Tryz.prog 75 #[.float .f64 4591870180066957722, .int .u8 101, .int .i64 0, .int .i64 64] w fun z w' => z = .returned (.string ⟨([49, 101, 45, 48, 49] : List UInt8).toArray⟩) ∧ Below w.heap.size w w' := by
  have h := format_at 4591870180066957722 1019 2702159776422298 7205759403792794 14757395258967642112 0 (-67) w ht (by decide) (by decide) (by kernel_rfl) (by kernel_rfl) (by decide) (by decide) (by kernel_rfl) (by decide) (by decide) (by kernel_rfl) (by kernel_rfl) (by decide) (by kernel_rfl)
  rw [fmt_tenth0] at h
  exact h
theorem read_tenth0 : Reads ⟨([49, 101, 45, 48, 49] : List UInt8).toArray⟩ 1 (-1) false false := fun w => by
  have hb := bytes_ok ⟨([49, 101, 45, 48, 49] : List UInt8).toArray⟩ (by decide)
  exact readFloat_pos ⟨([49, 101, 45, 48, 49] : List UInt8).toArray⟩ w (⟨1, false, false, true, 1, 1, 0⟩, [101, 45, 48, 49]) (-1) (by decide) (by decide) (by decide) (by decide) hb.1 hb.2 (by rfl) (Or.inr ⟨_, rfl⟩) rfl (fun h => by cases h)
    (fun r h => by cases h; exact ⟨-1, [48, 49], ⟨Or.inr (Or.inl ⟨rfl, rfl⟩), by decide, by decide, by decide⟩, by decide⟩)
theorem near_tenth0 (w : World) (ht : Tabs w) : Calls Tryz.prog 49 #[.string ⟨([49, 101, 45, 48, 49] : List UInt8).toArray⟩] w fun e w' => e = .returned (.float .f64 4591870180066957722) ∧ Below w.heap.size w w' := by
  refine nearest_any _ 4591870180066957722 false w ht (by decide) ?_
  refine (atof_exact _ 1 0 (-1) false false w (fun w => special_digit _ w (by decide) (by decide) (by decide) (by decide)) read_tenth0 ht.opt (by decide) (by decide) (by decide) (by decide) rfl 4591870180066957722 ?_).mono ?_
  · obtain ⟨B, O, h1, h2⟩ := ht.fpow
    exact exact_down 1 4607182418800017408 13830554455654793216 4607182418800017408 false w ht.mant (by decide) (by kernel_rfl) (by kernel_rfl) rfl 1 4621819117588971520 4591870180066957722 (by decide) (by decide) B O h1 (h2 1 (by decide)) (by kernel_rfl)
  · rintro e w' ⟨rfl, rfl⟩
    exact ⟨rfl, Below.refl _ _⟩

def txt_tenth (k : Nat) : List UInt8 := ([[49, 101, 45, 48, 49]] : List (List UInt8)).getD k []
def val_tenth (k : Nat) : Nat := [4591870180066957722].getD k 0
theorem few_tenth (w : World) (ht : Tabs w) : Calls Tryz.prog 45 #[.float .f64 4591870180066957722] w fun e w' => e = .returned (.string ⟨([49, 101, 45, 48, 49] : List UInt8).toArray⟩) ∧ Below w.heap.size w w' := by
  refine few_at 4591870180066957722 0 txt_tenth val_tenth w (by decide) ?_ ?_ (by decide +kernel) (by kernel_rfl)
  · intro k hk w' hb
    have ht' := ht.below hb
    have hk2 : k = 0 := by omega
    subst hk2
    exact form_tenth0 w' ht'
  · intro k hk w' hb
    have ht' := ht.below hb
    have hk2 : k = 0 := by omega
    subst hk2
    exact near_tenth0 w' ht'

theorem short_tenth (w : World) (ht : Tabs w) : Calls Tryz.prog 17 #[.int .u64 4591870180066957722] w fun e w' => e = .returned (.string ⟨([49, 101, 45, 49] : List UInt8).toArray⟩) ∧ Below w.heap.size w w' := by
  refine (short_fin 4591870180066957722 13815242216921733530 (fun l => l = [49, 101, 45, 48, 49]) (fun _ => [49, 101, 45, 49]) w (by kernel_rfl) (by kernel_rfl) (by kernel_rfl) (by kernel_rfl) (by kernel_rfl) ?_ ?_).mono ?_
  · refine (few_tenth w ht).mono ?_
    rintro e w' ⟨rfl, hb⟩
    exact ⟨_, rfl, rfl, hb⟩
  · intro l hl w' hb
    subst hl
    have hi : Lib.itoa (-1) = [45, 49] := by kernel_rfl
    have h := plain_any [49, 101, 45, 48, 49] [49] [45, 48, 49] true (-1) w' (ht.below hb) (by decide) (by decide) (by decide) (by decide) (by decide) (by decide) (by decide) (by rw [hi]; decide)
    rw [hi] at h
    exact h
  · rintro e w' ⟨l, rfl, rfl, hb⟩
    exact ⟨rfl, hb⟩

end Go.Proofs.YtgekdmjneogdoaaGreatDoor

namespace Go.Proofs.YtgekdmjneogdoaaGreatDoor
open Go.RowKit

theorem fmt_pi0 : fmtN 14488038916154245120 (-62) 0 = [51, 101, 43, 48, 48] := by kernel_rfl
theorem form_pi0 (w : World) (ht : Tabs w) : Calls Tryz.prog 75 #[.float .f64 4614256656552045848, .int .u8 101, .int .i64 0, .int .i64 64] w fun z w' => z = .returned (.string ⟨([51, 101, 43, 48, 48] : List UInt8).toArray⟩) ∧ Below w.heap.size w w' := by
  have h := format_at 4614256656552045848 1024 2570638124657944 7074237752028440 14488038916154245120 0 (-62) w ht (by decide) (by decide) (by kernel_rfl) (by kernel_rfl) (by decide) (by decide) (by kernel_rfl) (by decide) (by decide) (by kernel_rfl) (by kernel_rfl) (by decide) (by kernel_rfl)
  rw [fmt_pi0] at h
  exact h
theorem read_pi0 : Reads ⟨([51, 101, 43, 48, 48] : List UInt8).toArray⟩ 3 (0) false false := fun w => by
  have hb := bytes_ok ⟨([51, 101, 43, 48, 48] : List UInt8).toArray⟩ (by decide)
  exact readFloat_pos ⟨([51, 101, 43, 48, 48] : List UInt8).toArray⟩ w (⟨3, false, false, true, 1, 1, 0⟩, [101, 43, 48, 48]) (0) (by decide) (by decide) (by decide) (by decide) hb.1 hb.2 (by rfl) (Or.inr ⟨_, rfl⟩) rfl (fun h => by cases h)
    (fun r h => by cases h; exact ⟨1, [48, 48], ⟨Or.inl ⟨rfl, rfl⟩, by decide, by decide, by decide⟩, by decide⟩)
theorem near_pi0 (w : World) (ht : Tabs w) : Calls Tryz.prog 49 #[.string ⟨([51, 101, 43, 48, 48] : List UInt8).toArray⟩] w fun e w' => e = .returned (.float .f64 4613937818241073152) ∧ Below w.heap.size w w' := by
  refine nearest_any _ 4613937818241073152 false w ht (by decide) ?_
  refine (atof_exact _ 3 0 (0) false false w (fun w => special_digit _ w (by decide) (by decide) (by decide) (by decide)) read_pi0 ht.opt (by decide) (by decide) (by decide) (by decide) rfl 4613937818241073152 ?_).mono ?_
  · exact exact_zero 3 4613937818241073152 13837309855095848960 4613937818241073152 false w ht.mant (by decide) (by kernel_rfl) (by kernel_rfl) rfl
  · rintro e w' ⟨rfl, rfl⟩
    exact ⟨rfl, Below.refl _ _⟩

theorem fmt_pi1 : fmtN 14488038916154245120 (-62) 1 = [51, 46, 49, 101, 43, 48, 48] := by kernel_rfl
theorem form_pi1 (w : World) (ht : Tabs w) : Calls Tryz.prog 75 #[.float .f64 4614256656552045848, .int .u8 101, .int .i64 1, .int .i64 64] w fun z w' => z = .returned (.string ⟨([51, 46, 49, 101, 43, 48, 48] : List UInt8).toArray⟩) ∧ Below w.heap.size w w' := by
  have h := format_at 4614256656552045848 1024 2570638124657944 7074237752028440 14488038916154245120 1 (-62) w ht (by decide) (by decide) (by kernel_rfl) (by kernel_rfl) (by decide) (by decide) (by kernel_rfl) (by decide) (by decide) (by kernel_rfl) (by kernel_rfl) (by decide) (by kernel_rfl)
  rw [fmt_pi1] at h
  exact h
theorem read_pi1 : Reads ⟨([51, 46, 49, 101, 43, 48, 48] : List UInt8).toArray⟩ 31 (-1) false false := fun w => by
  have hb := bytes_ok ⟨([51, 46, 49, 101, 43, 48, 48] : List UInt8).toArray⟩ (by decide)
  exact readFloat_pos ⟨([51, 46, 49, 101, 43, 48, 48] : List UInt8).toArray⟩ w (⟨31, false, true, true, 2, 2, 1⟩, [101, 43, 48, 48]) (0) (by decide) (by decide) (by decide) (by decide) hb.1 hb.2 (by rfl) (Or.inr ⟨_, rfl⟩) rfl (fun h => by cases h)
    (fun r h => by cases h; exact ⟨1, [48, 48], ⟨Or.inl ⟨rfl, rfl⟩, by decide, by decide, by decide⟩, by decide⟩)
theorem near_pi1 (w : World) (ht : Tabs w) : Calls Tryz.prog 49 #[.string ⟨([51, 46, 49, 101, 43, 48, 48] : List UInt8).toArray⟩] w fun e w' => e = .returned (.float .f64 4614162998222441677) ∧ Below w.heap.size w w' := by
  refine nearest_any _ 4614162998222441677 false w ht (by decide) ?_
  refine (atof_exact _ 31 0 (-1) false false w (fun w => special_digit _ w (by decide) (by decide) (by decide) (by decide)) read_pi1 ht.opt (by decide) (by decide) (by decide) (by decide) rfl 4614162998222441677 ?_).mono ?_
  · obtain ⟨B, O, h1, h2⟩ := ht.fpow
    exact exact_down 31 4629418941960159232 13852790978814935040 4629418941960159232 false w ht.mant (by decide) (by kernel_rfl) (by kernel_rfl) rfl 1 4621819117588971520 4614162998222441677 (by decide) (by decide) B O h1 (h2 1 (by decide)) (by kernel_rfl)
  · rintro e w' ⟨rfl, rfl⟩
    exact ⟨rfl, Below.refl _ _⟩

theorem fmt_pi2 : fmtN 14488038916154245120 (-62) 2 = [51, 46, 49, 52, 101, 43, 48, 48] := by kernel_rfl
theorem form_pi2 (w : World) (ht : Tabs w) : Calls Tryz.prog 75 #[.float .f64 4614256656552045848, .int .u8 101, .int .i64 2, .int .i64 64] w fun z w' => z = .returned (.string ⟨([51, 46, 49, 52, 101, 43, 48, 48] : List UInt8).toArray⟩) ∧ Below w.heap.size w w' := by
  have h := format_at 4614256656552045848 1024 2570638124657944 7074237752028440 14488038916154245120 2 (-62) w ht (by decide) (by decide) (by kernel_rfl) (by kernel_rfl) (by decide) (by decide) (by kernel_rfl) (by decide) (by decide) (by kernel_rfl) (by kernel_rfl) (by decide) (by kernel_rfl)
  rw [fmt_pi2] at h
  exact h
theorem read_pi2 : Reads ⟨([51, 46, 49, 52, 101, 43, 48, 48] : List UInt8).toArray⟩ 314 (-2) false false := fun w => by
  have hb := bytes_ok ⟨([51, 46, 49, 52, 101, 43, 48, 48] : List UInt8).toArray⟩ (by decide)
  exact readFloat_pos ⟨([51, 46, 49, 52, 101, 43, 48, 48] : List UInt8).toArray⟩ w (⟨314, false, true, true, 3, 3, 1⟩, [101, 43, 48, 48]) (0) (by decide) (by decide) (by decide) (by decide) hb.1 hb.2 (by rfl) (Or.inr ⟨_, rfl⟩) rfl (fun h => by cases h)
    (fun r h => by cases h; exact ⟨1, [48, 48], ⟨Or.inl ⟨rfl, rfl⟩, by decide, by decide, by decide⟩, by decide⟩)
theorem near_pi2 (w : World) (ht : Tabs w) : Calls Tryz.prog 49 #[.string ⟨([51, 46, 49, 52, 101, 43, 48, 48] : List UInt8).toArray⟩] w fun e w' => e = .returned (.float .f64 4614253070214989087) ∧ Below w.heap.size w w' := by
  refine nearest_any _ 4614253070214989087 false w ht (by decide) ?_
  refine (atof_exact _ 314 0 (-2) false false w (fun w => special_digit _ w (by decide) (by decide) (by decide) (by decide)) read_pi2 ht.opt (by decide) (by decide) (by decide) (by decide) rfl 4614253070214989087 ?_).mono ?_
  · obtain ⟨B, O, h1, h2⟩ := ht.fpow
    exact exact_down 314 4644231562609557504 13867603599464333312 4644231562609557504 false w ht.mant (by decide) (by kernel_rfl) (by kernel_rfl) rfl 2 4636737291354636288 4614253070214989087 (by decide) (by decide) B O h1 (h2 2 (by decide)) (by kernel_rfl)
  · rintro e w' ⟨rfl, rfl⟩
    exact ⟨rfl, Below.refl _ _⟩

theorem fmt_pi3 : fmtN 14488038916154245120 (-62) 3 = [51, 46, 49, 52, 50, 101, 43, 48, 48] := by kernel_rfl
theorem form_pi3 (w : World) (ht : Tabs w) : Calls Tryz.prog 75 #[.float .f64 4614256656552045848, .int .u8 101, .int .i64 3, .int .i64 64] w fun z w' => z = .returned (.string ⟨([51, 46, 49, 52, 50, 101, 43, 48, 48] : List UInt8).toArray⟩) ∧ Below w.heap.size w w' := by
  have h := format_at 4614256656552045848 1024 2570638124657944 7074237752028440 14488038916154245120 3 (-62) w ht (by decide) (by decide) (by kernel_rfl) (by kernel_rfl) (by decide) (by decide) (by kernel_rfl) (by decide) (by decide) (by kernel_rfl) (by kernel_rfl) (by decide) (by kernel_rfl)
  rw [fmt_pi3] at h
  exact h
theorem read_pi3 : Reads ⟨([51, 46, 49, 52, 50, 101, 43, 48, 48] : List UInt8).toArray⟩ 3142 (-3) false false := fun w => by
  have hb := bytes_ok ⟨([51, 46, 49, 52, 50, 101, 43, 48, 48] : List UInt8).toArray⟩ (by decide)
  exact readFloat_pos ⟨([51, 46, 49, 52, 50, 101, 43, 48, 48] : List UInt8).toArray⟩ w (⟨3142, false, true, true, 4, 4, 1⟩, [101, 43, 48, 48]) (0) (by decide) (by decide) (by decide) (by decide) hb.1 hb.2 (by rfl) (Or.inr ⟨_, rfl⟩) rfl (fun h => by cases h)
    (fun r h => by cases h; exact ⟨1, [48, 48], ⟨Or.inl ⟨rfl, rfl⟩, by decide, by decide, by decide⟩, by decide⟩)
theorem near_pi3 (w : World) (ht : Tabs w) : Calls Tryz.prog 49 #[.string ⟨([51, 46, 49, 52, 50, 101, 43, 48, 48] : List UInt8).toArray⟩] w fun e w' => e = .returned (.float .f64 4614257573814616457) ∧ Below w.heap.size w w' := by
  refine nearest_any _ 4614257573814616457 false w ht (by decide) ?_
  refine (atof_exact _ 3142 0 (-3) false false w (fun w => special_digit _ w (by decide) (by decide) (by decide) (by decide)) read_pi3 ht.opt (by decide) (by decide) (by decide) (by decide) rfl 4614257573814616457 ?_).mono ?_
  · obtain ⟨B, O, h1, h2⟩ := ht.fpow
    exact exact_down 3142 4659127746142666752 13882499782997442560 4659127746142666752 false w ht.mant (by decide) (by kernel_rfl) (by kernel_rfl) rfl 3 4652007308841189376 4614257573814616457 (by decide) (by decide) B O h1 (h2 3 (by decide)) (by kernel_rfl)
  · rintro e w' ⟨rfl, rfl⟩
    exact ⟨rfl, Below.refl _ _⟩

theorem fmt_pi4 : fmtN 14488038916154245120 (-62) 4 = [51, 46, 49, 52, 49, 54, 101, 43, 48, 48] := by kernel_rfl
theorem form_pi4 (w : World) (ht : Tabs w) : Calls Tryz.prog 75 #[.float .f64 4614256656552045848, .int .u8 101, .int .i64 4, .int .i64 64] w fun z w' => z = .returned (.string ⟨([51, 46, 49, 52, 49, 54, 101, 43, 48, 48] : List UInt8).toArray⟩) ∧ Below w.heap.size w w' := by
  have h := format_at 4614256656552045848 1024 2570638124657944 7074237752028440 14488038916154245120 4 (-62) w ht (by decide) (by decide) (by kernel_rfl) (by kernel_rfl) (by decide) (by decide) (by kernel_rfl) (by decide) (by decide) (by kernel_rfl) (by kernel_rfl) (by decide) (by kernel_rfl)
  rw [fmt_pi4] at h
  exact h
theorem read_pi4 : Reads ⟨([51, 46, 49, 52, 49, 54, 101, 43, 48, 48] : List UInt8).toArray⟩ 31416 (-4) false false := fun w => by
  have hb := bytes_ok ⟨([51, 46, 49, 52, 49, 54, 101, 43, 48, 48] : List UInt8).toArray⟩ (by decide)
  exact readFloat_pos ⟨([51, 46, 49, 52, 49, 54, 101, 43, 48, 48] : List UInt8).toArray⟩ w (⟨31416, false, true, true, 5, 5, 1⟩, [101, 43, 48, 48]) (0) (by decide) (by decide) (by decide) (by decide) hb.1 hb.2 (by rfl) (Or.inr ⟨_, rfl⟩) rfl (fun h => by cases h)
    (fun r h => by cases h; exact ⟨1, [48, 48], ⟨Or.inl ⟨rfl, rfl⟩, by decide, by decide, by decide⟩, by decide⟩)
theorem near_pi4 (w : World) (ht : Tabs w) : Calls Tryz.prog 49 #[.string ⟨([51, 46, 49, 52, 49, 54, 101, 43, 48, 48] : List UInt8).toArray⟩] w fun e w' => e = .returned (.float .f64 4614256673094690983) ∧ Below w.heap.size w w' := by
  refine nearest_any _ 4614256673094690983 false w ht (by decide) ?_
  refine (atof_exact _ 31416 0 (-4) false false w (fun w => special_digit _ w (by decide) (by decide) (by decide) (by decide)) read_pi4 ht.opt (by decide) (by decide) (by decide) (by decide) rfl 4614256673094690983 ?_).mono ?_
  · obtain ⟨B, O, h1, h2⟩ := ht.fpow
    exact exact_down 31416 4674364778280386560 13897736815135162368 4674364778280386560 false w ht.mant (by decide) (by kernel_rfl) (by kernel_rfl) rfl 4 4666723172467343360 4614256673094690983 (by decide) (by decide) B O h1 (h2 4 (by decide)) (by kernel_rfl)
  · rintro e w' ⟨rfl, rfl⟩
    exact ⟨rfl, Below.refl _ _⟩

theorem fmt_pi5 : fmtN 14488038916154245120 (-62) 5 = [51, 46, 49, 52, 49, 53, 57, 101, 43, 48, 48] := by kernel_rfl
theorem form_pi5 (w : World) (ht : Tabs w) : Calls Tryz.prog 75 #[.float .f64 4614256656552045848, .int .u8 101, .int .i64 5, .int .i64 64] w fun z w' => z = .returned (.string ⟨([51, 46, 49, 52, 49, 53, 57, 101, 43, 48, 48] : List UInt8).toArray⟩) ∧ Below w.heap.size w w' := by
  have h := format_at 4614256656552045848 1024 2570638124657944 7074237752028440 14488038916154245120 5 (-62) w ht (by decide) (by decide) (by kernel_rfl) (by kernel_rfl) (by decide) (by decide) (by kernel_rfl) (by decide) (by decide) (by kernel_rfl) (by kernel_rfl) (by decide) (by kernel_rfl)
  rw [fmt_pi5] at h
  exact h
theorem read_pi5 : Reads ⟨([51, 46, 49, 52, 49, 53, 57, 101, 43, 48, 48] : List UInt8).toArray⟩ 314159 (-5) false false := fun w => by
  have hb := bytes_ok ⟨([51, 46, 49, 52, 49, 53, 57, 101, 43, 48, 48] : List UInt8).toArray⟩ (by decide)
  exact readFloat_pos ⟨([51, 46, 49, 52, 49, 53, 57, 101, 43, 48, 48] : List UInt8).toArray⟩ w (⟨314159, false, true, true, 6, 6, 1⟩, [101, 43, 48, 48]) (0) (by decide) (by decide) (by decide) (by decide) hb.1 hb.2 (by rfl) (Or.inr ⟨_, rfl⟩) rfl (fun h => by cases h)
    (fun r h => by cases h; exact ⟨1, [48, 48], ⟨Or.inl ⟨rfl, rfl⟩, by decide, by decide, by decide⟩, by decide⟩)
theorem near_pi5 (w : World) (ht : Tabs w) : Calls Tryz.prog 49 #[.string ⟨([51, 46, 49, 52, 49, 53, 57, 101, 43, 48, 48] : List UInt8).toArray⟩] w fun e w' => e = .returned (.float .f64 4614256650576692846) ∧ Below w.heap.size w w' := by
  refine nearest_any _ 4614256650576692846 false w ht (by decide) ?_
  refine (atof_exact _ 314159 0 (-5) false false w (fun w => special_digit _ w (by decide) (by decide) (by decide) (by decide)) read_pi5 ht.opt (by decide) (by decide) (by decide) (by decide) rfl 4614256650576692846 ?_).mono ?_
  · obtain ⟨B, O, h1, h2⟩ := ht.fpow
    exact exact_down 314159 4689140822988292096 13912512859843067904 4689140822988292096 false w ht.mant (by decide) (by kernel_rfl) (by kernel_rfl) rfl 5 4681608360884174848 4614256650576692846 (by decide) (by decide) B O h1 (h2 5 (by decide)) (by kernel_rfl)
  · rintro e w' ⟨rfl, rfl⟩
    exact ⟨rfl, Below.refl _ _⟩

theorem fmt_pi6 : fmtN 14488038916154245120 (-62) 6 = [51, 46, 49, 52, 49, 53, 57, 51, 101, 43, 48, 48] := by kernel_rfl
theorem form_pi6 (w : World) (ht : Tabs w) : Calls Tryz.prog 75 #[.float .f64 4614256656552045848, .int .u8 101, .int .i64 6, .int .i64 64] w fun z w' => z = .returned (.string ⟨([51, 46, 49, 52, 49, 53, 57, 51, 101, 43, 48, 48] : List UInt8).toArray⟩) ∧ Below w.heap.size w w' := by
  have h := format_at 4614256656552045848 1024 2570638124657944 7074237752028440 14488038916154245120 6 (-62) w ht (by decide) (by decide) (by kernel_rfl) (by kernel_rfl) (by decide) (by decide) (by kernel_rfl) (by decide) (by decide) (by kernel_rfl) (by kernel_rfl) (by decide) (by kernel_rfl)
  rw [fmt_pi6] at h
  exact h
theorem read_pi6 : Reads ⟨([51, 46, 49, 52, 49, 53, 57, 51, 101, 43, 48, 48] : List UInt8).toArray⟩ 3141593 (-6) false false := fun w => by
  have hb := bytes_ok ⟨([51, 46, 49, 52, 49, 53, 57, 51, 101, 43, 48, 48] : List UInt8).toArray⟩ (by decide)
  exact readFloat_pos ⟨([51, 46, 49, 52, 49, 53, 57, 51, 101, 43, 48, 48] : List UInt8).toArray⟩ w (⟨3141593, false, true, true, 7, 7, 1⟩, [101, 43, 48, 48]) (0) (by decide) (by decide) (by decide) (by decide) hb.1 hb.2 (by rfl) (Or.inr ⟨_, rfl⟩) rfl (fun h => by cases h)
    (fun r h => by cases h; exact ⟨1, [48, 48], ⟨Or.inl ⟨rfl, rfl⟩, by decide, by decide, by decide⟩, by decide⟩)
theorem near_pi6 (w : World) (ht : Tabs w) : Calls Tryz.prog 49 #[.string ⟨([51, 46, 49, 52, 49, 53, 57, 51, 101, 43, 48, 48] : List UInt8).toArray⟩] w fun e w' => e = .returned (.float .f64 4614256657332092287) ∧ Below w.heap.size w w' := by
  refine nearest_any _ 4614256657332092287 false w ht (by decide) ?_
  refine (atof_exact _ 3141593 0 (-6) false false w (fun w => special_digit _ w (by decide) (by decide) (by decide) (by decide)) read_pi6 ht.opt (by decide) (by decide) (by decide) (by decide) rfl 4614256657332092287 ?_).mono ?_
  · obtain ⟨B, O, h1, h2⟩ := ht.fpow
    exact exact_down 3141593 4704000930943598592 13927372967798374400 4704000930943598592 false w ht.mant (by decide) (by kernel_rfl) (by kernel_rfl) rfl 6 4696837146684686336 4614256657332092287 (by decide) (by decide) B O h1 (h2 6 (by decide)) (by kernel_rfl)
  · rintro e w' ⟨rfl, rfl⟩
    exact ⟨rfl, Below.refl _ _⟩

theorem fmt_pi7 : fmtN 14488038916154245120 (-62) 7 = [51, 46, 49, 52, 49, 53, 57, 50, 55, 101, 43, 48, 48] := by kernel_rfl
theorem form_pi7 (w : World) (ht : Tabs w) : Calls Tryz.prog 75 #[.float .f64 4614256656552045848, .int .u8 101, .int .i64 7, .int .i64 64] w fun z w' => z = .returned (.string ⟨([51, 46, 49, 52, 49, 53, 57, 50, 55, 101, 43, 48, 48] : List UInt8).toArray⟩) ∧ Below w.heap.size w w' := by
  have h := format_at 4614256656552045848 1024 2570638124657944 7074237752028440 14488038916154245120 7 (-62) w ht (by decide) (by decide) (by kernel_rfl) (by kernel_rfl) (by decide) (by decide) (by kernel_rfl) (by decide) (by decide) (by kernel_rfl) (by kernel_rfl) (by decide) (by kernel_rfl)
  rw [fmt_pi7] at h
  exact h
theorem read_pi7 : Reads ⟨([51, 46, 49, 52, 49, 53, 57, 50, 55, 101, 43, 48, 48] : List UInt8).toArray⟩ 31415927 (-7) false false := fun w => by
  have hb := bytes_ok ⟨([51, 46, 49, 52, 49, 53, 57, 50, 55, 101, 43, 48, 48] : List UInt8).toArray⟩ (by decide)
  exact readFloat_pos ⟨([51, 46, 49, 52, 49, 53, 57, 50, 55, 101, 43, 48, 48] : List UInt8).toArray⟩ w (⟨31415927, false, true, true, 8, 8, 1⟩, [101, 43, 48, 48]) (0) (by decide) (by decide) (by decide) (by decide) hb.1 hb.2 (by rfl) (Or.inr ⟨_, rfl⟩) rfl (fun h => by cases h)
    (fun r h => by cases h; exact ⟨1, [48, 48], ⟨Or.inl ⟨rfl, rfl⟩, by decide, by decide, by decide⟩, by decide⟩)
theorem near_pi7 (w : World) (ht : Tabs w) : Calls Tryz.prog 49 #[.string ⟨([51, 46, 49, 52, 49, 53, 57, 50, 55, 101, 43, 48, 48] : List UInt8).toArray⟩] w fun e w' => e = .returned (.float .f64 4614256656656552343) ∧ Below w.heap.size w w' := by
  refine nearest_any _ 4614256656656552343 false w ht (by decide) ?_
  refine (atof_exact _ 31415927 0 (-7) false false w (fun w => special_digit _ w (by decide) (by decide) (by decide) (by decide)) read_pi7 ht.opt (by decide) (by decide) (by decide) (by decide) rfl 4614256656656552343 ?_).mono ?_
  · obtain ⟨B, O, h1, h2⟩ := ht.fpow
    exact exact_down 31415927 4719198358919446528 13942570395774222336 4719198358919446528 false w ht.mant (by decide) (by kernel_rfl) (by kernel_rfl) rfl 7 4711630319722168320 4614256656656552343 (by decide) (by decide) B O h1 (h2 7 (by decide)) (by kernel_rfl)
  · rintro e w' ⟨rfl, rfl⟩
    exact ⟨rfl, Below.refl _ _⟩

theorem fmt_pi8 : fmtN 14488038916154245120 (-62) 8 = [51, 46, 49, 52, 49, 53, 57, 50, 54, 53, 101, 43, 48, 48] := by kernel_rfl
theorem form_pi8 (w : World) (ht : Tabs w) : Calls Tryz.prog 75 #[.float .f64 4614256656552045848, .int .u8 101, .int .i64 8, .int .i64 64] w fun z w' => z = .returned (.string ⟨([51, 46, 49, 52, 49, 53, 57, 50, 54, 53, 101, 43, 48, 48] : List UInt8).toArray⟩) ∧ Below w.heap.size w w' := by
  have h := format_at 4614256656552045848 1024 2570638124657944 7074237752028440 14488038916154245120 8 (-62) w ht (by decide) (by decide) (by kernel_rfl) (by kernel_rfl) (by decide) (by decide) (by kernel_rfl) (by decide) (by decide) (by kernel_rfl) (by kernel_rfl) (by decide) (by kernel_rfl)
  rw [fmt_pi8] at h
  exact h
theorem read_pi8 : Reads ⟨([51, 46, 49, 52, 49, 53, 57, 50, 54, 53, 101, 43, 48, 48] : List UInt8).toArray⟩ 314159265 (-8) false false := fun w => by
  have hb := bytes_ok ⟨([51, 46, 49, 52, 49, 53, 57, 50, 54, 53, 101, 43, 48, 48] : List UInt8).toArray⟩ (by decide)
  exact readFloat_pos ⟨([51, 46, 49, 52, 49, 53, 57, 50, 54, 53, 101, 43, 48, 48] : List UInt8).toArray⟩ w (⟨314159265, false, true, true, 9, 9, 1⟩, [101, 43, 48, 48]) (0) (by decide) (by decide) (by decide) (by decide) hb.1 hb.2 (by rfl) (Or.inr ⟨_, rfl⟩) rfl (fun h => by cases h)
    (fun r h => by cases h; exact ⟨1, [48, 48], ⟨Or.inl ⟨rfl, rfl⟩, by decide, by decide, by decide⟩, by decide⟩)
theorem near_pi8 (w : World) (ht : Tabs w) : Calls Tryz.prog 49 #[.string ⟨([51, 46, 49, 52, 49, 53, 57, 50, 54, 53, 101, 43, 48, 48] : List UInt8).toArray⟩] w fun e w' => e = .returned (.float .f64 4614256656543962353) ∧ Below w.heap.size w w' := by
  refine nearest_any _ 4614256656543962353 false w ht (by decide) ?_
  refine (atof_exact _ 314159265 0 (-8) false false w (fun w => special_digit _ w (by decide) (by decide) (by decide) (by decide)) read_pi8 ht.opt (by decide) (by decide) (by decide) (by decide) rfl 4614256656543962353 ?_).mono ?_
  · obtain ⟨B, O, h1, h2⟩ := ht.fpow
    exact exact_down 314159265 4734050326586327040 13957422363441102848 4734050326586327040 false w ht.mant (by decide) (by kernel_rfl) (by kernel_rfl) rfl 8 4726483295884279808 4614256656543962353 (by decide) (by decide) B O h1 (h2 8 (by decide)) (by kernel_rfl)
  · rintro e w' ⟨rfl, rfl⟩
    exact ⟨rfl, Below.refl _ _⟩

theorem fmt_pi9 : fmtN 14488038916154245120 (-62) 9 = [51, 46, 49, 52, 49, 53, 57, 50, 54, 53, 52, 101, 43, 48, 48] := by kernel_rfl
theorem form_pi9 (w : World) (ht : Tabs w) : Calls Tryz.prog 75 #[.float .f64 4614256656552045848, .int .u8 101, .int .i64 9, .int .i64 64] w fun z w' => z = .returned (.string ⟨([51, 46, 49, 52, 49, 53, 57, 50, 54, 53, 52, 101, 43, 48, 48] : List UInt8).toArray⟩) ∧ Below w.heap.size w w' := by
  have h := format_at 4614256656552045848 1024 2570638124657944 7074237752028440 14488038916154245120 9 (-62) w ht (by decide) (by decide) (by kernel_rfl) (by kernel_rfl) (by decide) (by decide) (by kernel_rfl) (by decide) (by decide) (by kernel_rfl) (by kernel_rfl) (by decide) (by kernel_rfl)
  rw [fmt_pi9] at h
  exact h
theorem read_pi9 : Reads ⟨([51, 46, 49, 52, 49, 53, 57, 50, 54, 53, 52, 101, 43, 48, 48] : List UInt8).toArray⟩ 3141592654 (-9) false false := fun w => by
  have hb := bytes_ok ⟨([51, 46, 49, 52, 49, 53, 57, 50, 54, 53, 52, 101, 43, 48, 48] : List UInt8).toArray⟩ (by decide)
  exact readFloat_pos ⟨([51, 46, 49, 52, 49, 53, 57, 50, 54, 53, 52, 101, 43, 48, 48] : List UInt8).toArray⟩ w (⟨3141592654, false, true, true, 10, 10, 1⟩, [101, 43, 48, 48]) (0) (by decide) (by decide) (by decide) (by decide) hb.1 hb.2 (by rfl) (Or.inr ⟨_, rfl⟩) rfl (fun h => by cases h)
    (fun r h => by cases h; exact ⟨1, [48, 48], ⟨Or.inl ⟨rfl, rfl⟩, by decide, by decide, by decide⟩, by decide⟩)
theorem near_pi9 (w : World) (ht : Tabs w) : Calls Tryz.prog 49 #[.string ⟨([51, 46, 49, 52, 49, 53, 57, 50, 54, 53, 52, 101, 43, 48, 48] : List UInt8).toArray⟩] w fun e w' => e = .returned (.float .f64 4614256656552969552) ∧ Below w.heap.size w w' := by
  refine nearest_any _ 4614256656552969552 false w ht (by decide) ?_
  refine (atof_exact _ 3141592654 0 (-9) false false w (fun w => special_digit _ w (by decide) (by decide) (by decide) (by decide)) read_pi9 ht.opt (by decide) (by decide) (by decide) (by decide) rfl 4614256656552969552 ?_).mono ?_
  · obtain ⟨B, O, h1, h2⟩ := ht.fpow
    exact exact_down 3141592654 4748878804938653696 13972250841793429504 4748878804938653696 false w ht.mant (by decide) (by kernel_rfl) (by kernel_rfl) rfl 9 4741671816366391296 4614256656552969552 (by decide) (by decide) B O h1 (h2 9 (by decide)) (by kernel_rfl)
  · rintro e w' ⟨rfl, rfl⟩
    exact ⟨rfl, Below.refl _ _⟩

theorem fmt_pi10 : fmtN 14488038916154245120 (-62) 10 = [51, 46, 49, 52, 49, 53, 57, 50, 54, 53, 51, 54, 101, 43, 48, 48] := by kernel_rfl
theorem form_pi10 (w : World) (ht : Tabs w) : Calls Tryz.prog 75 #[.float .f64 4614256656552045848, .int .u8 101, .int .i64 10, .int .i64 64] w fun z w' => z = .returned (.string ⟨([51, 46, 49, 52, 49, 53, 57, 50, 54, 53, 51, 54, 101, 43, 48, 48] : List UInt8).toArray⟩) ∧ Below w.heap.size w w' := by
  have h := format_at 4614256656552045848 1024 2570638124657944 7074237752028440 14488038916154245120 10 (-62) w ht (by decide) (by decide) (by kernel_rfl) (by kernel_rfl) (by decide) (by decide) (by kernel_rfl) (by decide) (by decide) (by kernel_rfl) (by kernel_rfl) (by decide) (by kernel_rfl)
  rw [fmt_pi10] at h
  exact h
theorem read_pi10 : Reads ⟨([51, 46, 49, 52, 49, 53, 57, 50, 54, 53, 51, 54, 101, 43, 48, 48] : List UInt8).toArray⟩ 31415926536 (-10) false false := fun w => by
  have hb := bytes_ok ⟨([51, 46, 49, 52, 49, 53, 57, 50, 54, 53, 51, 54, 101, 43, 48, 48] : List UInt8).toArray⟩ (by decide)
  exact readFloat_pos ⟨([51, 46, 49, 52, 49, 53, 57, 50, 54, 53, 51, 54, 101, 43, 48, 48] : List UInt8).toArray⟩ w (⟨31415926536, false, true, true, 11, 11, 1⟩, [101, 43, 48, 48]) (0) (by decide) (by decide) (by decide) (by decide) hb.1 hb.2 (by rfl) (Or.inr ⟨_, rfl⟩) rfl (fun h => by cases h)
    (fun r h => by cases h; exact ⟨1, [48, 48], ⟨Or.inl ⟨rfl, rfl⟩, by decide, by decide, by decide⟩, by decide⟩)
theorem near_pi10 (w : World) (ht : Tabs w) : Calls Tryz.prog 49 #[.string ⟨([51, 46, 49, 52, 49, 53, 57, 50, 54, 53, 51, 54, 101, 43, 48, 48] : List UInt8).toArray⟩] w fun e w' => e = .returned (.float .f64 4614256656552068832) ∧ Below w.heap.size w w' := by
  refine nearest_any _ 4614256656552068832 false w ht (by decide) ?_
  refine (atof_exact _ 31415926536 0 (-10) false false w (fun w => special_digit _ w (by decide) (by decide) (by decide) (by decide)) read_pi10 ht.opt (by decide) (by decide) (by decide) (by decide) rfl 4614256656552068832 ?_).mono ?_
  · obtain ⟨B, O, h1, h2⟩ := ht.fpow
    exact exact_down 31415926536 4764036703149096960 13987408740003872768 4764036703149096960 false w ht.mant (by decide) (by kernel_rfl) (by kernel_rfl) rfl 10 4756540486875873280 4614256656552068832 (by decide) (by decide) B O h1 (h2 10 (by decide)) (by kernel_rfl)
  · rintro e w' ⟨rfl, rfl⟩
    exact ⟨rfl, Below.refl _ _⟩

theorem fmt_pi11 : fmtN 14488038916154245120 (-62) 11 = [51, 46, 49, 52, 49, 53, 57, 50, 54, 53, 51, 53, 57, 101, 43, 48, 48] := by kernel_rfl
theorem form_pi11 (w : World) (ht : Tabs w) : Calls Tryz.prog 75 #[.float .f64 4614256656552045848, .int .u8 101, .int .i64 11, .int .i64 64] w fun z w' => z = .returned (.string ⟨([51, 46, 49, 52, 49, 53, 57, 50, 54, 53, 51, 53, 57, 101, 43, 48, 48] : List UInt8).toArray⟩) ∧ Below w.heap.size w w' := by
  have h := format_at 4614256656552045848 1024 2570638124657944 7074237752028440 14488038916154245120 11 (-62) w ht (by decide) (by decide) (by kernel_rfl) (by kernel_rfl) (by decide) (by decide) (by kernel_rfl) (by decide) (by decide) (by kernel_rfl) (by kernel_rfl) (by decide) (by kernel_rfl)
  rw [fmt_pi11] at h
  exact h
theorem read_pi11 : Reads ⟨([51, 46, 49, 52, 49, 53, 57, 50, 54, 53, 51, 53, 57, 101, 43, 48, 48] : List UInt8).toArray⟩ 314159265359 (-11) false false := fun w => by
  have hb := bytes_ok ⟨([51, 46, 49, 52, 49, 53, 57, 50, 54, 53, 51, 53, 57, 101, 43, 48, 48] : List UInt8).toArray⟩ (by decide)
  exact readFloat_pos ⟨([51, 46, 49, 52, 49, 53, 57, 50, 54, 53, 51, 53, 57, 101, 43, 48, 48] : List UInt8).toArray⟩ w (⟨314159265359, false, true, true, 12, 12, 1⟩, [101, 43, 48, 48]) (0) (by decide) (by decide) (by decide) (by decide) hb.1 hb.2 (by rfl) (Or.inr ⟨_, rfl⟩) rfl (fun h => by cases h)
    (fun r h => by cases h; exact ⟨1, [48, 48], ⟨Or.inl ⟨rfl, rfl⟩, by decide, by decide, by decide⟩, by decide⟩)
theorem near_pi11 (w : World) (ht : Tabs w) : Calls Tryz.prog 49 #[.string ⟨([51, 46, 49, 52, 49, 53, 57, 50, 54, 53, 51, 53, 57, 101, 43, 48, 48] : List UInt8).toArray⟩] w fun e w' => e = .returned (.float .f64 4614256656552046314) ∧ Below w.heap.size w w' := by
  refine nearest_any _ 4614256656552046314 false w ht (by decide) ?_
  refine (atof_exact _ 314159265359 0 (-11) false false w (fun w => special_digit _ w (by decide) (by decide) (by decide) (by decide)) read_pi11 ht.opt (by decide) (by decide) (by decide) (by decide) rfl 4614256656552046314 ?_).mono ?_
  · obtain ⟨B, O, h1, h2⟩ := ht.fpow
    exact exact_down 314159265359 4778962790416367616 14002334827271143424 4778962790416367616 false w ht.mant (by decide) (by kernel_rfl) (by kernel_rfl) rfl 11 4771362005757984768 4614256656552046314 (by decide) (by decide) B O h1 (h2 11 (by decide)) (by kernel_rfl)
  · rintro e w' ⟨rfl, rfl⟩
    exact ⟨rfl, Below.refl _ _⟩

theorem fmt_pi12 : fmtN 14488038916154245120 (-62) 12 = [51, 46, 49, 52, 49, 53, 57, 50, 54, 53, 51, 53, 57, 48, 101, 43, 48, 48] := by kernel_rfl
theorem form_pi12 (w : World) (ht : Tabs w) : Calls Tryz.prog 75 #[.float .f64 4614256656552045848, .int .u8 101, .int .i64 12, .int .i64 64] w fun z w' => z = .returned (.string ⟨([51, 46, 49, 52, 49, 53, 57, 50, 54, 53, 51, 53, 57, 48, 101, 43, 48, 48] : List UInt8).toArray⟩) ∧ Below w.heap.size w w' := by
  have h := format_at 4614256656552045848 1024 2570638124657944 7074237752028440 14488038916154245120 12 (-62) w ht (by decide) (by decide) (by kernel_rfl) (by kernel_rfl) (by decide) (by decide) (by kernel_rfl) (by decide) (by decide) (by kernel_rfl) (by kernel_rfl) (by decide) (by kernel_rfl)
  rw [fmt_pi12] at h
  exact h
theorem read_pi12 : Reads ⟨([51, 46, 49, 52, 49, 53, 57, 50, 54, 53, 51, 53, 57, 48, 101, 43, 48, 48] : List UInt8).toArray⟩ 3141592653590 (-12) false false := fun w => by
  have hb := bytes_ok ⟨([51, 46, 49, 52, 49, 53, 57, 50, 54, 53, 51, 53, 57, 48, 101, 43, 48, 48] : List UInt8).toArray⟩ (by decide)
  exact readFloat_pos ⟨([51, 46, 49, 52, 49, 53, 57, 50, 54, 53, 51, 53, 57, 48, 101, 43, 48, 48] : List UInt8).toArray⟩ w (⟨3141592653590, false, true, true, 13, 13, 1⟩, [101, 43, 48, 48]) (0) (by decide) (by decide) (by decide) (by decide) hb.1 hb.2 (by rfl) (Or.inr ⟨_, rfl⟩) rfl (fun h => by cases h)
    (fun r h => by cases h; exact ⟨1, [48, 48], ⟨Or.inl ⟨rfl, rfl⟩, by decide, by decide, by decide⟩, by decide⟩)
theorem near_pi12 (w : World) (ht : Tabs w) : Calls Tryz.prog 49 #[.string ⟨([51, 46, 49, 52, 49, 53, 57, 50, 54, 53, 51, 53, 57, 48, 101, 43, 48, 48] : List UInt8).toArray⟩] w fun e w' => e = .returned (.float .f64 4614256656552046314) ∧ Below w.heap.size w w' := by
  refine nearest_any _ 4614256656552046314 false w ht (by decide) ?_
  refine (atof_exact _ 3141592653590 0 (-12) false false w (fun w => special_digit _ w (by decide) (by decide) (by decide) (by decide)) read_pi12 ht.opt (by decide) (by decide) (by decide) (by decide) rfl 4614256656552046314 ?_).mono ?_
  · obtain ⟨B, O, h1, h2⟩ := ht.fpow
    exact exact_down 3141592653590 4793760385649389568 14017132422504165376 4793760385649389568 false w ht.mant (by decide) (by kernel_rfl) (by kernel_rfl) rfl 12 4786511204640096256 4614256656552046314 (by decide) (by decide) B O h1 (h2 12 (by decide)) (by kernel_rfl)
  · rintro e w' ⟨rfl, rfl⟩
    exact ⟨rfl, Below.refl _ _⟩

theorem fmt_pi13 : fmtN 14488038916154245120 (-62) 13 = [51, 46, 49, 52, 49, 53, 57, 50, 54, 53, 51, 53, 56, 57, 56, 101, 43, 48, 48] := by kernel_rfl
theorem form_pi13 (w : World) (ht : Tabs w) : Calls Tryz.prog 75 #[.float .f64 4614256656552045848, .int .u8 101, .int .i64 13, .int .i64 64] w fun z w' => z = .returned (.string ⟨([51, 46, 49, 52, 49, 53, 57, 50, 54, 53, 51, 53, 56, 57, 56, 101, 43, 48, 48] : List UInt8).toArray⟩) ∧ Below w.heap.size w w' := by
  have h := format_at 4614256656552045848 1024 2570638124657944 7074237752028440 14488038916154245120 13 (-62) w ht (by decide) (by decide) (by kernel_rfl) (by kernel_rfl) (by decide) (by decide) (by kernel_rfl) (by decide) (by decide) (by kernel_rfl) (by kernel_rfl) (by decide) (by kernel_rfl)
  rw [fmt_pi13] at h
  exact h
theorem read_pi13 : Reads ⟨([51, 46, 49, 52, 49, 53, 57, 50, 54, 53, 51, 53, 56, 57, 56, 101, 43, 48, 48] : List UInt8).toArray⟩ 31415926535898 (-13) false false := fun w => by
  have hb := bytes_ok ⟨([51, 46, 49, 52, 49, 53, 57, 50, 54, 53, 51, 53, 56, 57, 56, 101, 43, 48, 48] : List UInt8).toArray⟩ (by decide)
  exact readFloat_pos ⟨([51, 46, 49, 52, 49, 53, 57, 50, 54, 53, 51, 53, 56, 57, 56, 101, 43, 48, 48] : List UInt8).toArray⟩ w (⟨31415926535898, false, true, true, 14, 14, 1⟩, [101, 43, 48, 48]) (0) (by decide) (by decide) (by decide) (by decide) hb.1 hb.2 (by rfl) (Or.inr ⟨_, rfl⟩) rfl (fun h => by cases h)
    (fun r h => by cases h; exact ⟨1, [48, 48], ⟨Or.inl ⟨rfl, rfl⟩, by decide, by decide, by decide⟩, by decide⟩)
theorem near_pi13 (w : World) (ht : Tabs w) : Calls Tryz.prog 49 #[.string ⟨([51, 46, 49, 52, 49, 53, 57, 50, 54, 53, 51, 53, 56, 57, 56, 101, 43, 48, 48] : List UInt8).toArray⟩] w fun e w' => e = .returned (.float .f64 4614256656552045864) ∧ Below w.heap.size w w' := by
  refine nearest_any _ 4614256656552045864 false w ht (by decide) ?_
  refine (atof_exact _ 31415926535898 0 (-13) false false w (fun w => special_digit _ w (by decide) (by decide) (by decide) (by decide)) read_pi13 ht.opt (by decide) (by decide) (by decide) (by decide) rfl 4614256656552045864 ?_).mono ?_
  · obtain ⟨B, O, h1, h2⟩ := ht.fpow
    exact exact_down 31415926535898 4808879679970138624 14032251716824914432 4808879679970138624 false w ht.mant (by decide) (by kernel_rfl) (by kernel_rfl) rfl 13 4801453603149578240 4614256656552045864 (by decide) (by decide) B O h1 (h2 13 (by decide)) (by kernel_rfl)
  · rintro e w' ⟨rfl, rfl⟩
    exact ⟨rfl, Below.refl _ _⟩

theorem fmt_pi14 : fmtN 14488038916154245120 (-62) 14 = [51, 46, 49, 52, 49, 53, 57, 50, 54, 53, 51, 53, 56, 57, 55, 57, 101, 43, 48, 48] := by kernel_rfl
theorem form_pi14 (w : World) (ht : Tabs w) : Calls Tryz.prog 75 #[.float .f64 4614256656552045848, .int .u8 101, .int .i64 14, .int .i64 64] w fun z w' => z = .returned (.string ⟨([51, 46, 49, 52, 49, 53, 57, 50, 54, 53, 51, 53, 56, 57, 55, 57, 101, 43, 48, 48] : List UInt8).toArray⟩) ∧ Below w.heap.size w w' := by
  have h := format_at 4614256656552045848 1024 2570638124657944 7074237752028440 14488038916154245120 14 (-62) w ht (by decide) (by decide) (by kernel_rfl) (by kernel_rfl) (by decide) (by decide) (by kernel_rfl) (by decide) (by decide) (by kernel_rfl) (by kernel_rfl) (by decide) (by kernel_rfl)
  rw [fmt_pi14] at h
  exact h
theorem read_pi14 : Reads ⟨([51, 46, 49, 52, 49, 53, 57, 50, 54, 53, 51, 53, 56, 57, 55, 57, 101, 43, 48, 48] : List UInt8).toArray⟩ 314159265358979 (-14) false false := fun w => by
  have hb := bytes_ok ⟨([51, 46, 49, 52, 49, 53, 57, 50, 54, 53, 51, 53, 56, 57, 55, 57, 101, 43, 48, 48] : List UInt8).toArray⟩ (by decide)
  exact readFloat_pos ⟨([51, 46, 49, 52, 49, 53, 57, 50, 54, 53, 51, 53, 56, 57, 55, 57, 101, 43, 48, 48] : List UInt8).toArray⟩ w (⟨314159265358979, false, true, true, 15, 15, 1⟩, [101, 43, 48, 48]) (0) (by decide) (by decide) (by decide) (by decide) hb.1 hb.2 (by rfl) (Or.inr ⟨_, rfl⟩) rfl (fun h => by cases h)
    (fun r h => by cases h; exact ⟨1, [48, 48], ⟨Or.inl ⟨rfl, rfl⟩, by decide, by decide, by decide⟩, by decide⟩)
theorem near_pi14 (w : World) (ht : Tabs w) : Calls Tryz.prog 49 #[.string ⟨([51, 46, 49, 52, 49, 53, 57, 50, 54, 53, 51, 53, 56, 57, 55, 57, 101, 43, 48, 48] : List UInt8).toArray⟩] w fun e w' => e = .returned (.float .f64 4614256656552045841) ∧ Below w.heap.size w w' := by
  refine nearest_any _ 4614256656552045841 false w ht (by decide) ?_
  refine (atof_exact _ 314159265358979 0 (-14) false false w (fun w => special_digit _ w (by decide) (by decide) (by decide) (by decide)) read_pi14 ht.opt (by decide) (by decide) (by decide) (by decide) rfl 4614256656552045841 ?_).mono ?_
  · obtain ⟨B, O, h1, h2⟩ := ht.fpow
    exact exact_down 314159265358979 4823878149532174384 14047250186386950192 4823878149532174384 false w ht.mant (by decide) (by kernel_rfl) (by kernel_rfl) rfl 14 4816244402031689728 4614256656552045841 (by decide) (by decide) B O h1 (h2 14 (by decide)) (by kernel_rfl)
  · rintro e w' ⟨rfl, rfl⟩
    exact ⟨rfl, Below.refl _ _⟩

theorem fmt_pi15 : fmtN 14488038916154245120 (-62) 15 = [51, 46, 49, 52, 49, 53, 57, 50, 54, 53, 51, 53, 56, 57, 55, 57, 51, 101, 43, 48, 48] := by kernel_rfl
theorem form_pi15 (w : World) (ht : Tabs w) : Calls Tryz.prog 75 #[.float .f64 4614256656552045848, .int .u8 101, .int .i64 15, .int .i64 64] w fun z w' => z = .returned (.string ⟨([51, 46, 49, 52, 49, 53, 57, 50, 54, 53, 51, 53, 56, 57, 55, 57, 51, 101, 43, 48, 48] : List UInt8).toArray⟩) ∧ Below w.heap.size w w' := by
  have h := format_at 4614256656552045848 1024 2570638124657944 7074237752028440 14488038916154245120 15 (-62) w ht (by decide) (by decide) (by kernel_rfl) (by kernel_rfl) (by decide) (by decide) (by kernel_rfl) (by decide) (by decide) (by kernel_rfl) (by kernel_rfl) (by decide) (by kernel_rfl)
  rw [fmt_pi15] at h
  exact h
theorem read_pi15 : Reads ⟨([51, 46, 49, 52, 49, 53, 57, 50, 54, 53, 51, 53, 56, 57, 55, 57, 51, 101, 43, 48, 48] : List UInt8).toArray⟩ 3141592653589793 (-15) false false := fun w => by
  have hb := bytes_ok ⟨([51, 46, 49, 52, 49, 53, 57, 50, 54, 53, 51, 53, 56, 57, 55, 57, 51, 101, 43, 48, 48] : List UInt8).toArray⟩ (by decide)
  exact readFloat_pos ⟨([51, 46, 49, 52, 49, 53, 57, 50, 54, 53, 51, 53, 56, 57, 55, 57, 51, 101, 43, 48, 48] : List UInt8).toArray⟩ w (⟨3141592653589793, false, true, true, 16, 16, 1⟩, [101, 43, 48, 48]) (0) (by decide) (by decide) (by decide) (by decide) hb.1 hb.2 (by rfl) (Or.inr ⟨_, rfl⟩) rfl (fun h => by cases h)
    (fun r h => by cases h; exact ⟨1, [48, 48], ⟨Or.inl ⟨rfl, rfl⟩, by decide, by decide, by decide⟩, by decide⟩)
theorem near_pi15 (w : World) (ht : Tabs w) : Calls Tryz.prog 49 #[.string ⟨([51, 46, 49, 52, 49, 53, 57, 50, 54, 53, 51, 53, 56, 57, 55, 57, 51, 101, 43, 48, 48] : List UInt8).toArray⟩] w fun e w' => e = .returned (.float .f64 4614256656552045848) ∧ Below w.heap.size w w' := by
  refine nearest_any _ 4614256656552045848 false w ht (by decide) ?_
  refine (atof_exact _ 3141592653589793 0 (-15) false false w (fun w => special_digit _ w (by decide) (by decide) (by decide) (by decide)) read_pi15 ht.opt (by decide) (by decide) (by decide) (by decide) rfl 4614256656552045848 ?_).mono ?_
  · obtain ⟨B, O, h1, h2⟩ := ht.fpow
    exact exact_down 3141592653589793 4838645585475721794 14062017622330497602 4838645585475721794 false w ht.mant (by decide) (by kernel_rfl) (by kernel_rfl) rfl 15 4831355200913801216 4614256656552045848 (by decide) (by decide) B O h1 (h2 15 (by decide)) (by kernel_rfl)
  · rintro e w' ⟨rfl, rfl⟩
    exact ⟨rfl, Below.refl _ _⟩

def txt_pi (k : Nat) : List UInt8 := ([[51, 101, 43, 48, 48], [51, 46, 49, 101, 43, 48, 48], [51, 46, 49, 52, 101, 43, 48, 48], [51, 46, 49, 52, 50, 101, 43, 48, 48], [51, 46, 49, 52, 49, 54, 101, 43, 48, 48], [51, 46, 49, 52, 49, 53, 57, 101, 43, 48, 48], [51, 46, 49, 52, 49, 53, 57, 51, 101, 43, 48, 48], [51, 46, 49, 52, 49, 53, 57, 50, 55, 101, 43, 48, 48], [51, 46, 49, 52, 49, 53, 57, 50, 54, 53, 101, 43, 48, 48], [51, 46, 49, 52, 49, 53, 57, 50, 54, 53, 52, 101, 43, 48, 48], [51, 46, 49, 52, 49, 53, 57, 50, 54, 53, 51, 54, 101, 43, 48, 48], [51, 46, 49, 52, 49, 53, 57, 50, 54, 53, 51, 53, 57, 101, 43, 48, 48], [51, 46, 49, 52, 49, 53, 57, 50, 54, 53, 51, 53, 57, 48, 101, 43, 48, 48], [51, 46, 49, 52, 49, 53, 57, 50, 54, 53, 51, 53, 56, 57, 56, 101, 43, 48, 48], [51, 46, 49, 52, 49, 53, 57, 50, 54, 53, 51, 53, 56, 57, 55, 57, 101, 43, 48, 48], [51, 46, 49, 52, 49, 53, 57, 50, 54, 53, 51, 53, 56, 57, 55, 57, 51, 101, 43, 48, 48]] : List (List UInt8)).getD k []
def val_pi (k : Nat) : Nat := [4613937818241073152, 4614162998222441677, 4614253070214989087, 4614257573814616457, 4614256673094690983, 4614256650576692846, 4614256657332092287, 4614256656656552343, 4614256656543962353, 4614256656552969552, 4614256656552068832, 4614256656552046314, 4614256656552046314, 4614256656552045864, 4614256656552045841, 4614256656552045848].getD k 0
theorem few_pi (w : World) (ht : Tabs w) : Calls Tryz.prog 45 #[.float .f64 4614256656552045848] w fun e w' => e = .returned (.string ⟨([51, 46, 49, 52, 49, 53, 57, 50, 54, 53, 51, 53, 56, 57, 55, 57, 51, 101, 43, 48, 48] : List UInt8).toArray⟩) ∧ Below w.heap.size w w' := by
  refine few_at 4614256656552045848 15 txt_pi val_pi w (by decide) ?_ ?_ (by decide +kernel) (by kernel_rfl)
  · intro k hk w' hb
    have ht' := ht.below hb
    have hk2 : k = 0 ∨ k = 1 ∨ k = 2 ∨ k = 3 ∨ k = 4 ∨ k = 5 ∨ k = 6 ∨ k = 7 ∨ k = 8 ∨ k = 9 ∨ k = 10 ∨ k = 11 ∨ k = 12 ∨ k = 13 ∨ k = 14 ∨ k = 15 := by omega
    rcases hk2 with rfl | rfl | rfl | rfl | rfl | rfl | rfl | rfl | rfl | rfl | rfl | rfl | rfl | rfl | rfl | rfl
    · exact form_pi0 w' ht'
    · exact form_pi1 w' ht'
    · exact form_pi2 w' ht'
    · exact form_pi3 w' ht'
    · exact form_pi4 w' ht'
    · exact form_pi5 w' ht'
    · exact form_pi6 w' ht'
    · exact form_pi7 w' ht'
    · exact form_pi8 w' ht'
    · exact form_pi9 w' ht'
    · exact form_pi10 w' ht'
    · exact form_pi11 w' ht'
    · exact form_pi12 w' ht'
    · exact form_pi13 w' ht'
    · exact form_pi14 w' ht'
    · exact form_pi15 w' ht'
  · intro k hk w' hb
    have ht' := ht.below hb
    have hk2 : k = 0 ∨ k = 1 ∨ k = 2 ∨ k = 3 ∨ k = 4 ∨ k = 5 ∨ k = 6 ∨ k = 7 ∨ k = 8 ∨ k = 9 ∨ k = 10 ∨ k = 11 ∨ k = 12 ∨ k = 13 ∨ k = 14 ∨ k = 15 := by omega
    rcases hk2 with rfl | rfl | rfl | rfl | rfl | rfl | rfl | rfl | rfl | rfl | rfl | rfl | rfl | rfl | rfl | rfl
    · exact near_pi0 w' ht'
    · exact near_pi1 w' ht'
    · exact near_pi2 w' ht'
    · exact near_pi3 w' ht'
    · exact near_pi4 w' ht'
    · exact near_pi5 w' ht'
    · exact near_pi6 w' ht'
    · exact near_pi7 w' ht'
    · exact near_pi8 w' ht'
    · exact near_pi9 w' ht'
    · exact near_pi10 w' ht'
    · exact near_pi11 w' ht'
    · exact near_pi12 w' ht'
    · exact near_pi13 w' ht'
    · exact near_pi14 w' ht'
    · exact near_pi15 w' ht'

theorem short_pi (w : World) (ht : Tabs w) : Calls Tryz.prog 17 #[.int .u64 4614256656552045848] w fun e w' => e = .returned (.string ⟨([51, 46, 49, 52, 49, 53, 57, 50, 54, 53, 51, 53, 56, 57, 55, 57, 51, 101, 48] : List UInt8).toArray⟩) ∧ Below w.heap.size w w' := by
  refine (short_fin 4614256656552045848 13837628693406821656 (fun l => l = [51, 46, 49, 52, 49, 53, 57, 50, 54, 53, 51, 53, 56, 57, 55, 57, 51, 101, 43, 48, 48]) (fun _ => [51, 46, 49, 52, 49, 53, 57, 50, 54, 53, 51, 53, 56, 57, 55, 57, 51, 101, 48]) w (by kernel_rfl) (by kernel_rfl) (by kernel_rfl) (by kernel_rfl) (by kernel_rfl) ?_ ?_).mono ?_
  · refine (few_pi w ht).mono ?_
    rintro e w' ⟨rfl, hb⟩
    exact ⟨_, rfl, rfl, hb⟩
  · intro l hl w' hb
    subst hl
    have hi : Lib.itoa (0) = [48] := by kernel_rfl
    have h := plain_any [51, 46, 49, 52, 49, 53, 57, 50, 54, 53, 51, 53, 56, 57, 55, 57, 51, 101, 43, 48, 48] [51, 46, 49, 52, 49, 53, 57, 50, 54, 53, 51, 53, 56, 57, 55, 57, 51] [43, 48, 48] true (0) w' (ht.below hb) (by decide) (by decide) (by decide) (by decide) (by decide) (by decide) (by decide) (by rw [hi]; decide)
    rw [hi] at h
    exact h
  · rintro e w' ⟨l, rfl, rfl, hb⟩
    exact ⟨rfl, hb⟩

end Go.Proofs.YtgekdmjneogdoaaGreatDoor
