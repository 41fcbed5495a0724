namespace Go.Proofs.YtgekdmjneogdoaaGreatDoor

/-- what readFloat has gathered -/
structure RF where
  m : Nat
  tr : Bool
  sd : Bool
  sg : Bool
  nd : Nat
  nm : Nat
  dp : Int

def RF.digit (st : RF) (c : Nat) : RF :=
  if c = 48 ∧ st.nd = 0 then { st with sg := true, dp := st.dp - 1 }
  else if st.nm < 19 then { st with sg := true, nd := st.nd + 1, nm := st.nm + 1, m := st.m * 10 + (c - 48) }
  else { st with sg := true, nd := st.nd + 1, tr := st.tr || decide (c ≠ 48) }

def RF.step (st : RF) (c : Nat) : Option RF :=
  if c = 46 then (if st.sd then none else some { st with sd := true, dp := st.nd })
  else if 48 ≤ c ∧ c ≤ 57 then some (st.digit c)
  else none

/-- what holds of it behind k bytes -/
structure RF.Ok (st : RF) (k : Nat) : Prop where
  nm : st.nm ≤ 19
  nd : st.nd ≤ k
  lo : -(k : Int) ≤ st.dp
  hi : st.dp ≤ k
  m : st.m < 10 ^ st.nm

/-- a power's digits -/
def expVal : Nat → List UInt8 → Nat
  | e, [] => e
  | e, c :: r => expVal (e * 10 + (c.toNat - 48)) r

/-- what stands behind the e: perhaps a sign, one to four digits -/
structure ExpOk (r : List UInt8) (es : Int) (ds : List UInt8) : Prop where
  form : (r = 43 :: ds ∧ es = 1) ∨ (r = 45 :: ds ∧ es = -1) ∨ (r = ds ∧ es = 1)
  some : ds ≠ []
  len : ds.length ≤ 4
  dig : ∀ c, c ∈ ds → 48 ≤ c.toNat ∧ c.toNat ≤ 57

theorem expVal_lt : ∀ (l : List UInt8) (v : Nat), (∀ c, c ∈ l → c.toNat ≤ 57) → expVal v l < (v + 1) * 10 ^ l.length := by
  intro l
  induction l with
  | nil =>
    intro v _
    show v < (v + 1) * 1
    omega
  | cons c r ih =>
    intro v h
    have h1 := ih (v * 10 + (c.toNat - 48)) (fun c hc => h c (List.mem_cons_of_mem _ hc))
    have h2 := h c List.mem_cons_self
    show expVal (v * 10 + (c.toNat - 48)) r < (v + 1) * 10 ^ (r.length + 1)
    have h3 : (v * 10 + (c.toNat - 48) + 1) * 10 ^ r.length ≤ ((v + 1) * 10) * 10 ^ r.length := Nat.mul_le_mul_right _ (by omega)
    have h4 : (v + 1) * 10 ^ (r.length + 1) = ((v + 1) * 10) * 10 ^ r.length := by rw [Nat.pow_succ, Nat.mul_assoc, Nat.mul_comm (10 ^ r.length) 10]
    rw [h4]; exact Nat.lt_of_lt_of_le h1 h3

theorem ExpOk.bound {r : List UInt8} {es x : Int} {ds : List UInt8} (h : ExpOk r es ds) (hx : x = es * (expVal 0 ds : Int)) : -9999 ≤ x ∧ x ≤ 9999 := by
  have h1 := expVal_lt ds 0 (fun c hc => (h.dig c hc).2)
  have h2 : 10 ^ ds.length ≤ 10 ^ 4 := Nat.pow_le_pow_right (by omega) h.len
  rw [Nat.zero_add, Nat.one_mul] at h1
  have h3 : expVal 0 ds ≤ 9999 := by
    generalize 10 ^ ds.length = P at *
    omega
  have h4 : es = 1 ∨ es = -1 := by
    rcases h.form with ⟨_, h⟩ | ⟨_, h⟩ | ⟨_, h⟩
    · exact Or.inl h
    · exact Or.inr h
    · exact Or.inl h
  rcases h4 with rfl | rfl <;> omega

end Go.Proofs.YtgekdmjneogdoaaGreatDoor
