/- Plain facts on bounded rational numbers, by Lean's own rational numbers: reducing, sums, products. No program is named here. -/
namespace Go.Proofs.YtggiljlndenjoaaDoor.RatM
/-- error numbers -/
abbrev Res := Int × Int × Int
def validR (n d : Int) : Bool := decide (1 ≤ d ∧ d ≤ 2147483647 ∧ -2147483647 ≤ n ∧ n ≤ 2147483647 ∧ Nat.gcd n.natAbs d.natAbs = 1)
def repr (q : Rat) : Res := if q.num.natAbs ≤ 2147483647 ∧ q.den ≤ 2147483647 then (q.num, (q.den : Int), 0) else (0, 0, 2)
def makeZ (n d : Int) : Res := if d = 0 then (0, 0, 10) else repr (Rat.divInt n d)

theorem den_eq {n d : Int} (hd : d ≠ 0) : (Rat.divInt n d).den = d.natAbs / Nat.gcd n.natAbs d.natAbs := by
  rw [Rat.den_divInt, if_neg hd, Int.gcd, Nat.gcd_comm]

theorem gcd_pos {n d : Int} (hd : d ≠ 0) : 0 < Nat.gcd n.natAbs d.natAbs := Nat.gcd_pos_of_pos_right _ (by omega)

theorem num_eq {n d : Int} (hd : d ≠ 0) : (Rat.divInt n d).num = if (decide (n < 0) = decide (d < 0)) then ((n.natAbs / Nat.gcd n.natAbs d.natAbs : Nat) : Int) else -((n.natAbs / Nat.gcd n.natAbs d.natAbs : Nat) : Int) := by
  rw [Rat.num_divInt, Int.gcd, Nat.gcd_comm]
  have hg : ((Nat.gcd n.natAbs d.natAbs : Nat) : Int) ≠ 0 := by have := gcd_pos (n := n) hd; omega
  have hdv : ((Nat.gcd n.natAbs d.natAbs : Nat) : Int) ∣ n := Int.ofNat_dvd_left.2 (Nat.gcd_dvd_left _ _)
  generalize Nat.gcd n.natAbs d.natAbs = g at *
  have hnn : ((n.natAbs / g : Nat) : Int) = (n.natAbs : Int) / (g : Int) := Int.natCast_ediv _ _
  rw [hnn]
  rcases Int.lt_or_gt_of_ne hd with h | h
  · rw [Int.sign_eq_neg_one_of_neg h]
    rcases Int.lt_or_le n 0 with hn | hn
    · rw [if_pos (by simp [h, hn]), show (n.natAbs : Int) = -n by omega]; simp
    · rw [if_neg (by simp [h]; omega), show (n.natAbs : Int) = n by omega]
      rw [Int.neg_one_mul, Int.neg_ediv_of_dvd hdv]
  · rw [Int.sign_eq_one_of_pos h, Int.one_mul]
    rcases Int.lt_or_le n 0 with hn | hn
    · rw [if_neg (by simp [hn]; omega), show (n.natAbs : Int) = -n by omega, Int.neg_ediv_of_dvd hdv]; simp
    · rw [if_pos (by simp; omega), show (n.natAbs : Int) = n by omega]

theorem num_abs {n d : Int} (hd : d ≠ 0) : (Rat.divInt n d).num.natAbs = n.natAbs / Nat.gcd n.natAbs d.natAbs := by
  rw [num_eq hd]; split
  · exact Int.natAbs_natCast _
  · rw [Int.natAbs_neg]; exact Int.natAbs_natCast _

/-- reducing -/
theorem repr_range {n d : Int} (hd : d ≠ 0) (h : 2147483647 < n.natAbs / Nat.gcd n.natAbs d.natAbs ∨ 2147483647 < d.natAbs / Nat.gcd n.natAbs d.natAbs) : repr (Rat.divInt n d) = (0, 0, 2) := by
  rw [repr, if_neg]
  rw [num_abs hd, den_eq hd]; omega
theorem repr_in {n d : Int} (hd : d ≠ 0) (h1 : n.natAbs / Nat.gcd n.natAbs d.natAbs ≤ 2147483647) (h2 : d.natAbs / Nat.gcd n.natAbs d.natAbs ≤ 2147483647) :
    repr (Rat.divInt n d) = (if (decide (n < 0) = decide (d < 0)) then ((n.natAbs / Nat.gcd n.natAbs d.natAbs : Nat) : Int) else -((n.natAbs / Nat.gcd n.natAbs d.natAbs : Nat) : Int), ((d.natAbs / Nat.gcd n.natAbs d.natAbs : Nat) : Int), 0) := by
  rw [repr, if_pos ⟨by rw [num_abs hd]; exact h1, by rw [den_eq hd]; exact h2⟩, num_eq hd, den_eq hd]

theorem valid_parts {n d : Int} (h : validR n d = true) : 1 ≤ d ∧ d ≤ 2147483647 ∧ -2147483647 ≤ n ∧ n ≤ 2147483647 ∧ Nat.gcd n.natAbs d.natAbs = 1 := of_decide_eq_true h
theorem val_num {n d : Int} (h : validR n d = true) : (Rat.divInt n d).num = n := by
  obtain ⟨h1, _, _, _, hg⟩ := valid_parts h
  rw [num_eq (by omega), hg, Nat.div_one]
  by_cases hn : n < 0
  · rw [if_neg (by simp [hn]; omega)]; omega
  · rw [if_pos (by simp [hn]; omega)]; omega
theorem val_den {n d : Int} (h : validR n d = true) : ((Rat.divInt n d).den : Int) = d := by
  obtain ⟨h1, _, _, _, hg⟩ := valid_parts h
  rw [den_eq (by omega), hg, Nat.div_one]; omega
/-- a number that is valid represents itself -/
theorem repr_val {n d : Int} (h : validR n d = true) : repr (Rat.divInt n d) = (n, d, 0) := by
  have a := val_num h
  have b := val_den h
  obtain ⟨h1, h2, h3, h4, _⟩ := valid_parts h
  rw [repr, if_pos ⟨by rw [a]; omega, by omega⟩, a, b]

/-- what repr returns without error is valid and stands for the number -/
theorem repr_ok {q : Rat} (h : (repr q).2.2 = 0) : validR (repr q).1 (repr q).2.1 = true ∧ Rat.divInt (repr q).1 (repr q).2.1 = q := by
  unfold repr at *
  split at h
  · next hc =>
    rw [if_pos hc]
    refine ⟨decide_eq_true ⟨?_, ?_, ?_, ?_, ?_⟩, Rat.num_divInt_den q⟩
    · have := q.den_nz; show (1 : Int) ≤ (q.den : Int); omega
    · show (q.den : Int) ≤ _; omega
    · show _ ≤ q.num; omega
    · show q.num ≤ _; omega
    · show Nat.gcd q.num.natAbs ((q.den : Int)).natAbs = 1; exact q.reduced
  · cases h
theorem repr_errs (q : Rat) : (repr q).2.2 = 0 ∨ repr q = (0, 0, 2) := by
  unfold repr; split
  · exact .inl rfl
  · exact .inr rfl
theorem repr_inj {p q : Rat} (hp : (repr p).2.2 = 0) (h : repr p = repr q) : p = q := by
  rw [← (repr_ok hp).2, h, (repr_ok (h ▸ hp)).2]

/-- sum, difference, product, quotient, negation -/
def addZ (a b c d : Int) : Res := if validR a b = true ∧ validR c d = true then repr (Rat.divInt a b + Rat.divInt c d) else (0, 0, 1)
def subZ (a b c d : Int) : Res := if validR a b = true ∧ validR c d = true then repr (Rat.divInt a b - Rat.divInt c d) else (0, 0, 1)
def mulZ (a b c d : Int) : Res := if validR a b = true ∧ validR c d = true then repr (Rat.divInt a b * Rat.divInt c d) else (0, 0, 1)
def divZ (a b c d : Int) : Res := if validR a b = true ∧ validR c d = true then (if c = 0 then (0, 0, 10) else repr (Rat.divInt a b / Rat.divInt c d)) else (0, 0, 1)
def negZ (a b : Int) : Res := if validR a b = true then (-a, b, 0) else (0, 0, 1)

theorem add_make {a b c d : Int} (h : validR a b = true) (k : validR c d = true) : addZ a b c d = repr (Rat.divInt (a * d + c * b) (b * d)) := by
  obtain ⟨h1, _⟩ := valid_parts h
  obtain ⟨k1, _⟩ := valid_parts k
  rw [addZ, if_pos ⟨h, k⟩, Rat.divInt_add_divInt _ _ (by omega) (by omega)]
theorem sub_make {a b c d : Int} (h : validR a b = true) (k : validR c d = true) : subZ a b c d = repr (Rat.divInt (a * d - c * b) (b * d)) := by
  obtain ⟨h1, _⟩ := valid_parts h
  obtain ⟨k1, _⟩ := valid_parts k
  rw [subZ, if_pos ⟨h, k⟩, Rat.divInt_sub_divInt _ _ (by omega) (by omega)]
theorem mul_make {a b c d : Int} (h : validR a b = true) (k : validR c d = true) : mulZ a b c d = repr (Rat.divInt (a * c) (b * d)) := by
  rw [mulZ, if_pos ⟨h, k⟩, Rat.divInt_mul_divInt]
theorem div_make {a b c d : Int} (h : validR a b = true) (k : validR c d = true) (hc : c ≠ 0) : divZ a b c d = repr (Rat.divInt (a * d) (b * c)) := by
  rw [divZ, if_pos ⟨h, k⟩, if_neg hc, Rat.div_def, Rat.inv_divInt, Rat.divInt_mul_divInt]
theorem div_zero {a b d : Int} (h : validR a b = true) (k : validR 0 d = true) : divZ a b 0 d = (0, 0, 10) := by
  rw [divZ, if_pos ⟨h, k⟩, if_pos rfl]

/-- products stay in an int -/
theorem prod_bd {a d : Int} (h1 : -2147483647 ≤ a) (h2 : a ≤ 2147483647) (k1 : -2147483647 ≤ d) (k2 : d ≤ 2147483647) : -4611686014132420609 ≤ a * d ∧ a * d ≤ 4611686014132420609 := by
  have h : (a * d).natAbs ≤ 2147483647 * 2147483647 := by
    rw [Int.natAbs_mul]; exact Nat.mul_le_mul (by omega) (by omega)
  omega
theorem pos_prod {b d : Int} (h : 1 ≤ b) (k : 1 ≤ d) : 1 ≤ b * d := by
  have : 0 < b * d := Int.mul_pos (by omega) (by omega)
  omega
end Go.Proofs.YtggiljlndenjoaaDoor.RatM
