import Derived.Test.YtgekdmjneogdoaaGreatDoorYExact
import Derived.Test.YtgekdmjneogdoaaGreatDoorYNear
import Derived.Test.YtgekdmjneogdoaaGreatDoorYParse2
import Derived.Test.YtgekdmjneogdoaaGreatDoorYReadNeg
import Derived.Test.YtgekdmjneogdoaaGreatDoorYReadPos
namespace Go.Proofs.YtgekdmjneogdoaaGreatDoor
open Go.RowKit

theorem bytes_ok (s : ByteArray) (h : (s.data.toList.all fun c => (bits BinOp.or IntKind.u8 (c.toNat : Int) 32 == 120) == false && c.toNat != 95) = true) :
    (∀ (i : Nat) (h : i < s.size), (bits BinOp.or IntKind.u8 (s[i].toNat : Int) 32 == 120) = false) ∧ (∀ (i : Nat) (h : i < s.size), (s[i].toNat : Int) ≠ 95) := by
  have key : ∀ (i : Nat) (hi : i < s.size), ((bits BinOp.or IntKind.u8 (s[i].toNat : Int) 32 == 120) == false && s[i].toNat != 95) = true := by
    intro i hi
    have hm : s[i] ∈ s.data.toList := by
      have : s[i] = s.data[i]'hi := rfl
      rw [this]
      exact Array.getElem_mem_toList hi
    exact List.all_eq_true.1 h _ hm
  constructor
  · intro i hi
    have := key i hi
    simp only [Bool.and_eq_true, beq_iff_eq] at this
    exact this.1
  · intro i hi
    have := key i hi
    simp only [Bool.and_eq_true, bne_iff_ne] at this
    omega

/-! the document's examples, of Number -/
abbrev tOne : ByteArray := ⟨#[49]⟩
abbrev tTenth : ByteArray := ⟨#[48, 46, 49]⟩
abbrev tMinus : ByteArray := ⟨#[45, 48]⟩
abbrev tHuge : ByteArray := ⟨#[49, 101, 52, 48, 48]⟩
abbrev tLeast : ByteArray := ⟨#[53, 101, 45, 51, 50, 52]⟩
abbrev tBelow : ByteArray := ⟨#[50, 101, 45, 51, 50, 52]⟩
abbrev tEven : ByteArray := ⟨#[57, 48, 48, 55, 49, 57, 57, 50, 53, 52, 55, 52, 48, 57, 57, 51]⟩

theorem reads_one : Reads tOne 1 0 false false := fun w => by
  have hb := bytes_ok tOne (by decide)
  exact readFloat_pos tOne w (⟨1, false, false, true, 1, 1, 0⟩, []) 0 (by decide) (by decide) (by decide) (by decide) hb.1 hb.2 (by rfl) (Or.inl rfl) rfl (fun _ => rfl) (fun r h => by cases h)

theorem reads_tenth : Reads tTenth 1 (-1) false false := fun w => by
  have hb := bytes_ok tTenth (by decide)
  exact readFloat_pos tTenth w (⟨1, false, true, true, 1, 1, 0⟩, []) 0 (by decide) (by decide) (by decide) (by decide) hb.1 hb.2 (by rfl) (Or.inl rfl) rfl (fun _ => rfl) (fun r h => by cases h)

theorem reads_minus : Reads tMinus 0 0 true false := fun w => by
  have hb := bytes_ok tMinus (by decide)
  exact readFloat_neg tMinus w (⟨0, false, false, true, 0, 0, -1⟩, []) 0 (by decide) (by decide) (by decide) hb.1 hb.2 (by rfl) (Or.inl rfl) rfl (fun _ => rfl) (fun r h => by cases h)

theorem reads_huge : Reads tHuge 1 400 false false := fun w => by
  have hb := bytes_ok tHuge (by decide)
  exact readFloat_pos tHuge w (⟨1, false, false, true, 1, 1, 0⟩, [101, 52, 48, 48]) 400 (by decide) (by decide) (by decide) (by decide) hb.1 hb.2 (by rfl) (Or.inr ⟨_, rfl⟩) rfl (fun h => by cases h)
    (fun r h => by cases h; exact ⟨1, [52, 48, 48], ⟨Or.inr (Or.inr ⟨rfl, rfl⟩), by decide, by decide, by decide⟩, by decide⟩)

theorem reads_least : Reads tLeast 5 (-324) false false := fun w => by
  have hb := bytes_ok tLeast (by decide)
  exact readFloat_pos tLeast w (⟨5, false, false, true, 1, 1, 0⟩, [101, 45, 51, 50, 52]) (-324) (by decide) (by decide) (by decide) (by decide) hb.1 hb.2 (by rfl) (Or.inr ⟨_, rfl⟩) rfl (fun h => by cases h)
    (fun r h => by cases h; exact ⟨-1, [51, 50, 52], ⟨Or.inr (Or.inl ⟨rfl, rfl⟩), by decide, by decide, by decide⟩, by decide⟩)

theorem reads_below : Reads tBelow 2 (-324) false false := fun w => by
  have hb := bytes_ok tBelow (by decide)
  exact readFloat_pos tBelow w (⟨2, false, false, true, 1, 1, 0⟩, [101, 45, 51, 50, 52]) (-324) (by decide) (by decide) (by decide) (by decide) hb.1 hb.2 (by rfl) (Or.inr ⟨_, rfl⟩) rfl (fun h => by cases h)
    (fun r h => by cases h; exact ⟨-1, [51, 50, 52], ⟨Or.inr (Or.inl ⟨rfl, rfl⟩), by decide, by decide, by decide⟩, by decide⟩)

theorem reads_even : Reads tEven 9007199254740993 0 false false := fun w => by
  have hb := bytes_ok tEven (by decide)
  exact readFloat_pos tEven w (⟨9007199254740993, false, false, true, 16, 16, 0⟩, []) 0 (by decide) (by decide) (by decide) (by decide) hb.1 hb.2 (by rfl) (Or.inl rfl) rfl (fun _ => rfl) (fun r h => by cases h)

theorem number_one (w : World) (hT : Tabs w) : Calls Tryz.prog 18 #[.string tOne] w fun e w' => e = .returned (.tuple #[.int .u64 4607182418800017408, .int .i64 0]) ∧ Below w.heap.size w w' := by
  refine num_dec tOne 4607182418800017408 false w hT (by decide) (by decide) (by decide) (by decide) (by decide) ?_
  refine (atof_exact tOne 1 0 0 false false w (fun w => special_digit tOne w (by decide) (by decide) (by decide) (by decide)) reads_one hT.opt (by decide) (by decide) (by decide) (by decide) rfl 4607182418800017408 ?_).mono ?_
  · exact exact_zero 1 4607182418800017408 13830554455654793216 4607182418800017408 false w hT.mant (by decide) (by kernel_rfl) (by kernel_rfl) rfl
  · rintro e w' ⟨rfl, rfl⟩
    exact ⟨rfl, Below.refl _ _⟩

theorem number_tenth (w : World) (hT : Tabs w) : Calls Tryz.prog 18 #[.string tTenth] w fun e w' => e = .returned (.tuple #[.int .u64 4591870180066957722, .int .i64 0]) ∧ Below w.heap.size w w' := by
  refine num_dec tTenth 4591870180066957722 false w hT (by decide) (by decide) (by decide) (by decide) (by decide) ?_
  refine (atof_exact tTenth 1 0 (-1) false false w (fun w => special_digit tTenth w (by decide) (by decide) (by decide) (by decide)) reads_tenth hT.opt (by decide) (by decide) (by decide) (by decide) rfl 4591870180066957722 ?_).mono ?_
  · obtain ⟨B, O, h1, h2⟩ := hT.fpow
    exact exact_down 1 4607182418800017408 13830554455654793216 4607182418800017408 false w hT.mant (by decide) (by kernel_rfl) (by kernel_rfl) rfl 1 4621819117588971520 4591870180066957722 (by decide) (by decide) B O h1 (h2 1 (by decide)) (by kernel_rfl)
  · rintro e w' ⟨rfl, rfl⟩
    exact ⟨rfl, Below.refl _ _⟩

theorem number_minus (w : World) (hT : Tabs w) : Calls Tryz.prog 18 #[.string tMinus] w fun e w' => e = .returned (.tuple #[.int .u64 9223372036854775808, .int .i64 0]) ∧ Below w.heap.size w w' := by
  refine num_dec tMinus 9223372036854775808 false w hT (by decide) (by decide) (by decide) (by decide) (by decide) ?_
  refine (atof_zero tMinus 0 9223372036854775808 0 true false w (fun w => special_minus tMinus w (by decide) (by decide) (by decide) (by decide) (by decide)) reads_minus hT.opt (by decide) (by decide) (or0 _ (by decide))).mono ?_
  rintro e w' ⟨rfl, rfl⟩
  exact ⟨rfl, Below.refl _ _⟩

theorem number_huge (w : World) (hT : Tabs w) : Calls Tryz.prog 18 #[.string tHuge] w fun e w' => e = .returned (.tuple #[.int .u64 9218868437227405312, .int .i64 0]) ∧ Below w.heap.size w w' := by
  refine num_dec tHuge 9218868437227405312 true w hT (by decide) (by decide) (by decide) (by decide) (by decide) ?_
  refine (atof_over tHuge 1 0 400 false false w (fun w => special_digit tHuge w (by decide) (by decide) (by decide) (by decide)) reads_huge hT.opt (by decide) 9218868437227405312 (by decide) (by decide) (by kernel_rfl)).mono ?_
  rintro e w' ⟨rfl, rfl⟩
  exact ⟨rfl, Below.refl _ _⟩
end Go.Proofs.YtgekdmjneogdoaaGreatDoor

namespace Go.Proofs.YtgekdmjneogdoaaGreatDoor
open Go.RowKit

theorem pn_least : parseN 5 (-324) 0 = (1, false) := by kernel_rfl
theorem pn_below : parseN 2 (-324) 0 = (0, false) := by kernel_rfl
theorem pn_even : parseN 9007199254740993 0 0 = (4845873199050653696, false) := by kernel_rfl

theorem number_least (w : World) (hT : Tabs w) : Calls Tryz.prog 18 #[.string tLeast] w fun e w' => e = .returned (.tuple #[.int .u64 1, .int .i64 0]) ∧ Below w.heap.size w w' := by
  refine num_dec tLeast 1 false w hT (by decide) (by decide) (by decide) (by decide) (by decide) ?_
  have hp := parse64_any 5 0 (-324) w hT (by decide) (by decide) (by decide) (by decide) (by decide)
  rw [pn_least] at hp
  exact atof_parse tLeast 5 0 (-324) false false w (fun w => special_digit tLeast w (by decide) (by decide) (by decide) (by decide)) reads_least hT.opt (by decide) (by decide) (by decide) (by decide) rfl 4617315517961601024
    (exact_far 5 4617315517961601024 13840687554816376832 4617315517961601024 false w hT.mant (by decide) (by kernel_rfl) (by kernel_rfl) rfl (-324) (Or.inr (by decide))) 1 _ hp

theorem number_below (w : World) (hT : Tabs w) : Calls Tryz.prog 18 #[.string tBelow] w fun e w' => e = .returned (.tuple #[.int .u64 0, .int .i64 0]) ∧ Below w.heap.size w w' := by
  refine num_dec tBelow 0 false w hT (by decide) (by decide) (by decide) (by decide) (by decide) ?_
  have hp := parse64_any 2 0 (-324) w hT (by decide) (by decide) (by decide) (by decide) (by decide)
  rw [pn_below] at hp
  exact atof_parse tBelow 2 0 (-324) false false w (fun w => special_digit tBelow w (by decide) (by decide) (by decide) (by decide)) reads_below hT.opt (by decide) (by decide) (by decide) (by decide) rfl 4611686018427387904
    (exact_far 2 4611686018427387904 13835058055282163712 4611686018427387904 false w hT.mant (by decide) (by kernel_rfl) (by kernel_rfl) rfl (-324) (Or.inr (by decide))) 0 _ hp

theorem number_even (w : World) (hT : Tabs w) : Calls Tryz.prog 18 #[.string tEven] w fun e w' => e = .returned (.tuple #[.int .u64 4845873199050653696, .int .i64 0]) ∧ Below w.heap.size w w' := by
  refine num_dec tEven 4845873199050653696 false w hT (by decide) (by decide) (by decide) (by decide) (by decide) ?_
  have hp := parse64_any 9007199254740993 0 0 w hT (by decide) (by decide) (by decide) (by decide) (by decide)
  rw [pn_even] at hp
  exact atof_parse tEven 9007199254740993 0 0 false false w (fun w => special_digit tEven w (by decide) (by decide) (by decide) (by decide)) reads_even hT.opt (by decide) (by decide) (by decide) (by decide) rfl 0
    (exact_big 9007199254740993 0 false w hT.mant (by decide)) 4845873199050653696 _ hp
end Go.Proofs.YtgekdmjneogdoaaGreatDoor
