import Derived.Test.YtgekdmjneogdoaaGreatDoorXBig
import Derived.Test.YtgekdmjneogdoaaGreatDoorXNy1
namespace Go.Proofs.YtgekdmjneogdoaaGreatDoor
open Go.RowKit

/-! numeral, in plain words: what each of its loops has read -/
def Ph (L : List UInt8) (i q N0 N : Nat) : Prop := i ≤ q ∧ ∃ D, L.drop i = D ++ L.drop q ∧ Digs D ∧ D.length = q - i ∧ N = expVal N0 D
def EndD (L : List UInt8) (q : Nat) : Prop := ∀ c r, L.drop q = c :: r → isDig c = false
def NotAt (L : List UInt8) (q : Nat) (d : UInt8) : Prop := ∀ c r, L.drop q = c :: r → c ≠ d
def Sg (L : List UInt8) (minus : Bool) (i0 : Nat) : Prop := (minus = true ∧ L = 45 :: L.drop 1 ∧ i0 = 1) ∨ (minus = false ∧ i0 = 0 ∧ NotAt L 0 45)
def expE (r : List UInt8) : Bool := match decExp r with | none => false | some r => r.isEmpty
def fracE (r : List UInt8) : Bool := match decFrac r with | none => false | some r => expE r
/-- all that stands ahead of an exponent -/
def Pre (L : List UInt8) (minus : Bool) (N : Nat) (p : Int) (i : Nat) : Prop :=
  isDec L = expE (L.drop i) ∧ ∃ A B, L = (if minus then [45] else []) ++ (A ++ (if B = [] then [] else 46 :: B) ++ L.drop i) ∧ Digs A ∧ A ≠ [] ∧ Digs B ∧ N = expVal 0 (A ++ B) ∧ p = -(B.length : Int)
def NumRes (L : List UInt8) (minus : Bool) (N : Nat) (p : Int) (ok : Bool) : Prop :=
  ok = isDec L ∧ (ok = true → ∃ A B T x, L = (if minus then [45] else []) ++ decBody A B T ∧ Digs A ∧ A ≠ [] ∧ Digs B ∧ TailOk T x ∧ N = expVal 0 (A ++ B) ∧ p = x - (B.length : Int))

theorem Ph.start (L : List UInt8) (i N : Nat) : Ph L i i N N := ⟨Nat.le_refl _, [], rfl, (fun c h => by cases h), by simp, rfl⟩
theorem Ph.step {L : List UInt8} {i q N0 N : Nat} {c : UInt8} (h : Ph L i q N0 N) (hc : L.drop q = c :: L.drop (q + 1)) (h1 : 48 ≤ c.toNat) (h2 : c.toNat ≤ 57) : Ph L i (q + 1) N0 (N * 10 + (c.toNat - 48)) := by
  obtain ⟨h0, D, e1, e2, e3, e4⟩ := h
  refine ⟨by omega, D ++ [c], ?_, ?_, ?_, ?_⟩
  · rw [e1, hc, List.append_assoc]; rfl
  · intro d hd
    rcases List.mem_append.1 hd with hd | hd
    · exact e2 d hd
    · simp only [List.mem_cons, List.not_mem_nil, or_false] at hd
      subst hd; exact ⟨h1, h2⟩
  · rw [List.length_append, e3]; simp; omega
  · rw [expVal_app, ← e4]; rfl

theorem Ph.lt {L : List UInt8} {i q N0 N : Nat} (h : Ph L i q N0 N) : N < (N0 + 1) * 10 ^ (q - i) := by
  obtain ⟨_, D, _, e2, e3, e4⟩ := h
  have := expVal_lt D N0 (fun c hc => (e2 c hc).2)
  rw [e3, ← e4] at this
  exact this

theorem Ph.digLen {L : List UInt8} {i q N0 N : Nat} (h : Ph L i q N0 N) (he : EndD L q) : digLen (L.drop i) = q - i ∧ (L.drop i).drop (q - i) = L.drop q := by
  obtain ⟨h0, D, e1, e2, e3, _⟩ := h
  constructor
  · rw [e1, digLen_app D (L.drop q) e2 he, e3]
  · rw [List.drop_drop]; congr 1; omega

theorem Sg.trim {L : List UInt8} {minus : Bool} {i0 : Nat} (h : Sg L minus i0) : Lib.trimPrefix L [45] = L.drop i0 := by
  rcases h with ⟨_, h1, rfl⟩ | ⟨_, rfl, h2⟩
  · obtain ⟨c, hc⟩ : ∃ c, L.drop 1 = c := ⟨_, rfl⟩
    rw [hc] at h1 ⊢
    rw [h1]
    exact (hasPre_yes 45 c).2
  · exact (hasPre_no 45 L h2).2

theorem isDec_cut {L : List UInt8} {minus : Bool} {i0 i1 N : Nat} (h : Sg L minus i0) (hp : Ph L i0 i1 0 N) (he : EndD L i1) : isDec L = if i1 = i0 then false else fracE (L.drop i1) := by
  obtain ⟨d1, d2⟩ := hp.digLen he
  have hle := hp.1
  unfold isDec
  simp only [h.trim, d1, d2]
  by_cases e : i1 = i0
  · rw [if_pos e, if_pos (by omega)]
  · rw [if_neg e, if_neg (by omega)]
    rfl

theorem pre_noA {L : List UInt8} {minus : Bool} {i0 N : Nat} (h : Sg L minus i0) (hp : Ph L i0 i0 0 N) (he : EndD L i0) : isDec L = false := by
  rw [isDec_cut h hp he, if_pos rfl]

theorem Sg.eq {L : List UInt8} {minus : Bool} {i0 : Nat} (h : Sg L minus i0) : L = (if minus then [45] else []) ++ L.drop i0 := by
  rcases h with ⟨rfl, h1, rfl⟩ | ⟨rfl, rfl, _⟩
  · exact h1
  · rfl

theorem pre_none {L : List UInt8} {minus : Bool} {i0 i1 N : Nat} (h : Sg L minus i0) (hp : Ph L i0 i1 0 N) (he : EndD L i1) (hn : i1 ≠ i0) (h46 : NotAt L i1 46) : Pre L minus N 0 i1 := by
  refine ⟨?_, ?_⟩
  · rw [isDec_cut h hp he, if_neg hn]
    unfold fracE decFrac
    rw [(hasPre_no 46 _ h46).1]
    rfl
  · obtain ⟨h0, D, e1, e2, e3, e4⟩ := hp
    refine ⟨D, [], ?_, e2, ?_, (fun c hc => by cases hc), by rw [List.append_nil]; exact e4, by simp⟩
    · have := h.eq
      rw [e1] at this
      simpa using this
    · intro q; rw [q] at e3; simp at e3; omega

theorem frac_cut {L : List UInt8} {i1 i2 N1 N : Nat} (h46 : L.drop i1 = 46 :: L.drop (i1 + 1)) (hp : Ph L (i1 + 1) i2 N1 N) (he : EndD L i2) : fracE (L.drop i1) = if i2 = i1 + 1 then false else expE (L.drop i2) := by
  obtain ⟨d1, d2⟩ := hp.digLen he
  have hle := hp.1
  obtain ⟨p1, p2⟩ := hasPre_yes 46 (L.drop (i1 + 1))
  unfold fracE decFrac
  rw [h46, if_pos p1]
  simp only [p2, d1, d2]
  by_cases e : i2 = i1 + 1
  · rw [if_pos e, if_pos (by omega)]
  · rw [if_neg e, if_neg (by omega)]

theorem pre_noB {L : List UInt8} {minus : Bool} {i0 i1 N N1 : Nat} (h : Sg L minus i0) (hp : Ph L i0 i1 0 N) (he : EndD L i1) (h46 : L.drop i1 = 46 :: L.drop (i1 + 1)) (hp2 : Ph L (i1 + 1) (i1 + 1) N N1) (he2 : EndD L (i1 + 1)) : isDec L = false := by
  rw [isDec_cut h hp he, frac_cut h46 hp2 he2, if_pos rfl]
  split <;> rfl

theorem pre_frac {L : List UInt8} {minus : Bool} {i0 i1 i2 N N1 : Nat} (h : Sg L minus i0) (hp : Ph L i0 i1 0 N) (he : EndD L i1) (hn : i1 ≠ i0) (h46 : L.drop i1 = 46 :: L.drop (i1 + 1)) (hp2 : Ph L (i1 + 1) i2 N N1) (he2 : EndD L i2) (hn2 : i2 ≠ i1 + 1) : Pre L minus N1 (-((i2 - (i1 + 1) : Nat) : Int)) i2 := by
  refine ⟨?_, ?_⟩
  · rw [isDec_cut h hp he, if_neg hn, frac_cut h46 hp2 he2, if_neg hn2]
  · obtain ⟨h0, D, e1, e2, e3, e4⟩ := hp
    obtain ⟨k0, F, f1, f2, f3, f4⟩ := hp2
    have hF : F ≠ [] := by intro q; rw [q] at f3; simp at f3; omega
    refine ⟨D, F, ?_, e2, ?_, f2, ?_, by rw [f3]⟩
    · have := h.eq
      rw [e1, h46, f1] at this
      rw [if_neg hF]
      simpa using this
    · intro q; rw [q] at e3; simp at e3; omega
    · rw [expVal_app, ← e4]; exact f4

theorem drop_end {L : List UInt8} {i : Nat} (h : i ≤ L.length) : (L.drop i).isEmpty = decide (i = L.length) := by
  by_cases e : i = L.length
  · rw [decide_eq_true e, List.drop_of_length_le (by omega)]; rfl
  · rw [decide_eq_false e, List.drop_eq_getElem_cons (by omega)]; rfl

theorem res_plain {L : List UInt8} {minus : Bool} {N i : Nat} {p : Int} (h : Pre L minus N p i) (hi : i ≤ L.length) (h101 : NotAt L i 101) : NumRes L minus N p (decide (i = L.length)) := by
  obtain ⟨h1, A, B, e1, e2, e3, e4, e5, e6⟩ := h
  have hd : isDec L = decide (i = L.length) := by
    rw [h1]
    unfold expE decExp
    rw [(hasPre_no 101 _ h101).1]
    exact drop_end hi
  refine ⟨hd.symm, fun ok => ⟨A, B, [], 0, ?_, e2, e3, e4, Or.inl ⟨rfl, rfl⟩, e5, by omega⟩⟩
  have : L.drop i = [] := List.drop_of_length_le (by have := of_decide_eq_true ok; omega)
  rw [this] at e1
  unfold decBody
  exact e1

/-- a sign behind the e -/
def Un (L : List UInt8) (i i3 : Nat) (turn : Int) : Prop := (L.drop i = 45 :: L.drop i3 ∧ turn = -1 ∧ i3 = i + 1) ∨ (L.drop i = 43 :: L.drop i3 ∧ turn = 1 ∧ i3 = i + 1) ∨ (i3 = i ∧ turn = 1 ∧ NotAt L i 45 ∧ NotAt L i 43)

theorem Un.cut {L : List UInt8} {i i3 : Nat} {turn : Int} (h : Un L i i3 turn) : unsign (L.drop i) = L.drop i3 := by
  rcases h with ⟨h, _, _⟩ | ⟨h, _, _⟩ | ⟨rfl, _, h1, h2⟩
  · rw [h]; exact unsign_yes (Or.inl (by decide))
  · rw [h]; exact unsign_yes (Or.inr (by decide))
  · cases hd : L.drop i3 with
    | nil => rfl
    | cons c r =>
      have g1 := h1 c r hd
      have g2 := h2 c r hd
      refine unsign_no (fun q => g1 ?_) (fun q => g2 ?_)
      · exact UInt8.toNat_inj.1 (by have : c.toNat = 45 := by omega
                                    exact this)
      · exact UInt8.toNat_inj.1 (by have : c.toNat = 43 := by omega
                                    exact this)

theorem exp_cut {L : List UInt8} {i i3 : Nat} {turn : Int} (h101 : L.drop i = 101 :: L.drop (i + 1)) (hu : Un L (i + 1) i3 turn) : expE (L.drop i) = if digLen (L.drop i3) = 0 ∨ 4 < digLen (L.drop i3) then false else ((L.drop i3).drop (digLen (L.drop i3))).isEmpty := by
  obtain ⟨p1, p2⟩ := hasPre_yes 101 (L.drop (i + 1))
  unfold expE decExp
  rw [h101, if_pos p1]
  simp only [p2, hu.cut]
  split <;> rename_i h
  · split at h
    · rename_i g; rw [if_pos g]
    · cases h
  · split at h
    · cases h
    · rename_i g
      rw [if_neg g]
      cases h
      rfl

theorem res_noexp {L : List UInt8} {minus : Bool} {N i i3 : Nat} {p turn : Int} (h : Pre L minus N p i) (h101 : L.drop i = 101 :: L.drop (i + 1)) (hu : Un L (i + 1) i3 turn) (he : EndD L i3) : isDec L = false := by
  have hp := (Ph.start L i3 0).digLen he
  rw [h.1, exp_cut h101 hu, if_pos (Or.inl (by rw [hp.1]; omega))]

theorem dig_more : ∀ (D R : List UInt8), Digs D → D.length ≤ digLen (D ++ R) := by
  intro D R h
  induction D with
  | nil => simp
  | cons c D ih =>
    obtain ⟨a, b⟩ := h c List.mem_cons_self
    rw [List.cons_append, digLen_dig (by omega) (by omega), List.length_cons]
    have := ih (fun d hd => h d (List.mem_cons_of_mem _ hd))
    omega

theorem res_exp {L : List UInt8} {minus : Bool} {N i i3 q e : Nat} {p turn : Int} (h : Pre L minus N p i) (h101 : L.drop i = 101 :: L.drop (i + 1)) (hu : Un L (i + 1) i3 turn) (hp : Ph L i3 q 0 e) (hn : q ≠ i3) (hq : q ≤ i3 + 4) (hl : q ≤ L.length) (he : q = i3 + 4 ∨ EndD L q) : NumRes L minus N (p + turn * (e : Int)) (decide (q = L.length)) := by
  have hd : isDec L = decide (q = L.length) := by
    rw [h.1, exp_cut h101 hu]
    by_cases hE : EndD L q
    · obtain ⟨d1, d2⟩ := hp.digLen hE
      have := hp.1
      rw [d1, d2, if_neg (by omega)]
      exact drop_end hl
    · have hq4 : q = i3 + 4 := by rcases he with h | h; exact h; exact absurd h hE
      obtain ⟨h0, D, e1, e2, e3, e4⟩ := hp
      have hlt : q ≠ L.length := by
        intro hh
        apply hE
        intro c r hr
        rw [List.drop_of_length_le (by omega)] at hr
        cases hr
      rw [decide_eq_false hlt]
      refine if_pos (Or.inr ?_)
      have hx : ∃ c r, L.drop q = c :: r ∧ isDig c = true := by
        cases hr : L.drop q with
        | nil => exact absurd (by intro c r hr'; rw [hr] at hr'; cases hr') hE
        | cons c r =>
          refine ⟨c, r, rfl, ?_⟩
          cases hc : isDig c
          · exact absurd (by intro c' r' hr'; rw [hr] at hr'; cases hr'; exact hc) hE
          · rfl
      obtain ⟨c, r, hr, hc⟩ := hx
      simp only [isDig, Bool.and_eq_true, decide_eq_true_eq] at hc
      have := dig_more (D ++ [c]) r (by
        intro d hd
        rcases List.mem_append.1 hd with hd | hd
        · exact e2 d hd
        · simp only [List.mem_cons, List.not_mem_nil, or_false] at hd
          subst hd; exact hc)
      rw [List.append_assoc, List.length_append, e3] at this
      rw [e1, hr]
      simp only [List.length_cons, List.length_nil, List.cons_append, List.nil_append] at this
      omega
  refine ⟨hd.symm, fun ok => ?_⟩
  obtain ⟨_, A, B, e1, e2, e3, e4, e5, e6⟩ := h
  obtain ⟨h0, D, f1, f2, f3, f4⟩ := hp
  have hnil : L.drop q = [] := List.drop_of_length_le (by have := of_decide_eq_true ok; omega)
  rw [hnil, List.append_nil] at f1
  have hD : D ≠ [] := by intro q; rw [q] at f3; simp at f3; omega
  refine ⟨A, B, 101 :: L.drop (i + 1), turn * (e : Int), ?_, e2, e3, e4, Or.inr ⟨L.drop (i + 1), turn, D, rfl, ⟨?_, hD, by rw [f3]; omega, f2⟩, by rw [f4]⟩, e5, by omega⟩
  · rw [h101] at e1
    unfold decBody
    exact e1
  · rw [← f1]
    rcases hu with ⟨a, b, _⟩ | ⟨a, b, _⟩ | ⟨a, b, _, _⟩
    · exact Or.inr (Or.inl ⟨a, b⟩)
    · exact Or.inl ⟨a, b⟩
    · exact Or.inr (Or.inr ⟨by rw [a], b⟩)
/-- what numeral has read, in memory too -/
def NumB (w : World) (K : World) (v : Value) (N : Nat) : Prop := Rd w v (digs N) ∧ Below K.heap.size K w

theorem rd_nil (w : World) : Rd w (.slice none 0 0) (digs 0) := by
  rw [digs_zero]
  exact ⟨none, 0, rfl, fun h => by simp at h⟩

theorem lim_ten {N : Nat} (h : N < 10 ^ 50) : Lim N := Nat.le_trans (digs_len_lt 10 N (Nat.lt_trans h (by decide))) (by omega)

theorem byte_end {s : ByteArray} {q : Nat} (hq : q < s.size) (h : ¬ (48 ≤ (s[q].toNat : Int) ∧ (s[q].toNat : Int) ≤ 57)) : EndD s.data.toList q := by
  intro c r hr
  rw [drop_byte s q hq] at hr
  cases hr
  cases hc : isDig s[q]
  · rfl
  · simp only [isDig, Bool.and_eq_true, decide_eq_true_eq] at hc
    exact absurd (by omega) h
theorem size_end {s : ByteArray} {q : Nat} (hq : ¬ q < s.size) : EndD s.data.toList q := by
  intro c r hr
  rw [List.drop_of_length_le (by simp; omega)] at hr
  cases hr
theorem byte_not {s : ByteArray} {q : Nat} {d : UInt8} (hq : q < s.size) (h : ¬ (s[q].toNat : Int) = (d.toNat : Int)) : NotAt s.data.toList q d := by
  intro c r hr
  rw [drop_byte s q hq] at hr
  cases hr
  intro e
  exact h (by rw [e])
theorem size_not {s : ByteArray} {q : Nat} {d : UInt8} (hq : ¬ q < s.size) : NotAt s.data.toList q d := by
  intro c r hr
  rw [List.drop_of_length_le (by simp; omega)] at hr
  cases hr
theorem nbyte_at {s : ByteArray} {q : Nat} {d : UInt8} (hq : q < s.size) (h : (s[q].toNat : Int) = (d.toNat : Int)) : s.data.toList.drop q = d :: s.data.toList.drop (q + 1) := by
  rw [drop_byte s q hq]
  congr 1
  exact UInt8.toNat_inj.1 (by omega)

theorem len_s (s : ByteArray) : s.data.toList.length = s.size := Array.length_toList

def NumPost (s : ByteArray) (w : World) (e : Ending) (w' : World) : Prop :=
  ∃ (minus : Bool) (v : Value) (p : Int) (ok : Bool) (N : Nat), e = .returned (.tuple #[.bool minus, v, .int .i64 p, .bool ok]) ∧ NumB w' w v N ∧ NumRes s.data.toList minus N p ok

theorem results_tmp4 {fn : Func} {t u v x : Tmp} (h : fn.results = #[.tmp t, .tmp u, .tmp v, .tmp x]) (tmps : Array Value) (P : Program) (w : World) :
    (results fn tmps).run P w = .ok (.tuple #[tmps.getD t undef, tmps.getD u undef, tmps.getD v undef, tmps.getD x undef]) w := by
  simp [results, h]

theorem lim_ph {L : List UInt8} {i q N : Nat} (h : Ph L i q 0 N) (hq : q ≤ 50) (hi : i ≤ q) : Lim N := by
  have h3 := h.lt
  rw [Nat.zero_add, Nat.one_mul] at h3
  exact lim_ten (Nat.lt_of_lt_of_le h3 (Nat.pow_le_pow_right (by omega) (by omega)))


theorem NumRes.cast {L : List UInt8} {m : Bool} {N : Nat} {p p' : Int} {ok : Bool} (h : NumRes L m N p ok) (e : p = p') : NumRes L m N p' ok := by rw [← e]; exact h
theorem four_digits {L : List UInt8} {i q e : Nat} (h : Ph L i q 0 e) (hq : q ≤ i + 4) : e ≤ 9999 := by
  have h3 := h.lt
  have h4 : 10 ^ (q - i) ≤ 10 ^ 4 := Nat.pow_le_pow_right (by omega) (by omega)
  omega
theorem lim_ph2 {L : List UInt8} {i0 q i t N N2 : Nat} (h : Ph L i0 q 0 N) (h2 : Ph L i t N N2) (ht : q + t ≤ 50 + i) : Lim N2 := by
  have h3 := h.lt
  have h4 := h2.lt
  rw [Nat.zero_add, Nat.one_mul] at h3
  have h5 : (N + 1) * 10 ^ (t - i) ≤ 10 ^ (q - i0) * 10 ^ (t - i) := Nat.mul_le_mul_right _ h3
  rw [← Nat.pow_add] at h5
  exact lim_ten (Nat.lt_of_lt_of_le h4 (Nat.le_trans h5 (Nat.pow_le_pow_right (by omega) (by have := h2.1; omega))))

end Go.Proofs.YtgekdmjneogdoaaGreatDoor
