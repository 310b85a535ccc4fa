/- Plain integer facts for layer 1 (length): what rounding to the nearest integer computes. No program is named here. -/
namespace Go.Proofs.Ytjhpajdkklklhaa.Len

def absZ (n : Int) : Int := if n < 0 then -n else n

/-- The quotient of two integers, rounded to the nearest one, halves away from zero. -/
def rnd (p q : Int) : Int := if (decide (p < 0)) = (decide (q < 0)) then (2 * absZ p + absZ q) / (2 * absZ q) else -((2 * absZ p + absZ q) / (2 * absZ q))

theorem near (a b : Int) (hb : 0 < b) : (2 * a + b) / (2 * b) = if 2 * (a % b) < b then a / b else a / b + 1 := by
  have h1 := Int.emod_nonneg a (Int.ne_of_gt hb)
  have h2 := Int.emod_lt_of_pos a hb
  have h3 := Int.mul_ediv_add_emod a b
  generalize a % b = r at *
  generalize a / b = k at *
  subst h3
  have e : 2 * (b * k + r) + b = (2 * r + b) + 2 * b * k := by rw [Int.mul_add, ← Int.mul_assoc]; omega
  rw [e, Int.add_mul_ediv_left _ _ (by omega)]
  split
  · rw [Int.ediv_eq_zero_of_lt (by omega) (by omega)]; omega
  · have : (2 * r + b) / (2 * b) = 1 := by
      have hr : 2 * r + b = (2 * r - b) + 2 * b * 1 := by omega
      rw [hr, Int.add_mul_ediv_left _ _ (by omega), Int.ediv_eq_zero_of_lt (by omega) (by omega)]; rfl
    omega

theorem rnd_pp {p q : Int} (hp : 0 ≤ p) (hq : 0 < q) : rnd p q = if 2 * (p % q) < q then p / q else p / q + 1 := by
  unfold rnd absZ
  rw [if_pos (by simp; omega), if_neg (by omega), if_neg (by omega), near p q hq]
theorem rnd_np {p q : Int} (hp : p < 0) (hq : 0 < q) : rnd p q = -(if 2 * ((-p) % q) < q then (-p) / q else (-p) / q + 1) := by
  unfold rnd absZ
  rw [if_neg (by simp; omega), if_pos (by omega), if_neg (by omega), near (-p) q hq]
theorem rnd_pn {p q : Int} (hp : 0 ≤ p) (hq : q < 0) : rnd p q = -(if 2 * (p % (-q)) < -q then p / (-q) else p / (-q) + 1) := by
  unfold rnd absZ
  rw [if_neg (by simp; omega), if_neg (by omega), if_pos (by omega), near p (-q) (by omega)]
theorem rnd_nn {p q : Int} (hp : p < 0) (hq : q < 0) : rnd p q = if 2 * ((-p) % (-q)) < -q then (-p) / (-q) else (-p) / (-q) + 1 := by
  unfold rnd absZ
  rw [if_pos (by simp; omega), if_pos (by omega), if_pos (by omega), near (-p) (-q) (by omega)]

/-! What Go's own quotient and remainder are, by the signs. -/
theorem td_pp {p q : Int} (hp : 0 ≤ p) : p.tdiv q = p / q := Int.tdiv_eq_ediv_of_nonneg hp
theorem tm_pp {p q : Int} (hp : 0 ≤ p) : p.tmod q = p % q := Int.tmod_eq_emod_of_nonneg hp
theorem td_np {p q : Int} (hp : p < 0) : p.tdiv q = -((-p) / q) := by
  have := Int.neg_tdiv (-p) q
  rw [Int.neg_neg] at this
  rw [this, Int.tdiv_eq_ediv_of_nonneg (by omega)]
theorem tm_np {p q : Int} (hp : p < 0) : p.tmod q = -((-p) % q) := by
  have := Int.neg_tmod (-p) q
  rw [Int.neg_neg] at this
  rw [this, Int.tmod_eq_emod_of_nonneg (by omega)]

theorem rnd_neg (p q : Int) (hq : q ≠ 0) : rnd (-p) q = -rnd p q := by
  by_cases h0 : p = 0
  · subst h0
    rcases Int.lt_or_gt_of_ne hq with h | h
    · rw [show (-0 : Int) = 0 from rfl, rnd_pn (Int.le_refl 0) h]; simp; omega
    · rw [show (-0 : Int) = 0 from rfl, rnd_pp (Int.le_refl 0) h]; simp; omega
  · rcases Int.lt_or_gt_of_ne h0 with hp | hp <;> rcases Int.lt_or_gt_of_ne hq with h | h
    · rw [rnd_pn (by omega) h, rnd_nn hp h]
    · rw [rnd_pp (by omega) h, rnd_np hp h, Int.neg_neg]
    · rw [rnd_nn (by omega) h, rnd_pn (by omega) h, Int.neg_neg, Int.neg_neg]
    · rw [rnd_np (by omega) h, rnd_pp (by omega) h, Int.neg_neg]

/-- What the two tests of the Go text lead to. -/
theorem rnd_small {p q : Int} (hq : q ≠ 0) (h : 2 * absZ (p.tmod q) < absZ q) : rnd p q = p.tdiv q := by
  by_cases hp : p < 0 <;> rcases Int.lt_or_gt_of_ne hq with g | g
  · rw [td_np hp, rnd_nn hp g]; rw [tm_np hp] at h; unfold absZ at h
    have e : (-p) % (-q) = (-p) % q := Int.emod_neg ..
    have e2 : (-p) / (-q) = -((-p) / q) := Int.ediv_neg ..
    have := Int.emod_nonneg (-p) hq
    rw [if_pos g] at h
    rw [e, if_pos (by split at h <;> omega), e2]
  · rw [td_np hp, rnd_np hp g]; rw [tm_np hp] at h; unfold absZ at h
    have := Int.emod_nonneg (-p) hq
    rw [if_neg (show ¬ q < 0 by omega)] at h
    rw [if_pos (by split at h <;> omega)]
  · rw [td_pp (by omega), rnd_pn (by omega) g]; rw [tm_pp (by omega)] at h; unfold absZ at h
    have e : p % (-q) = p % q := Int.emod_neg ..
    have e2 : p / (-q) = -(p / q) := Int.ediv_neg ..
    have := Int.emod_nonneg p hq
    rw [if_pos g] at h
    rw [e, if_pos (by split at h <;> omega), e2, Int.neg_neg]
  · rw [td_pp (by omega), rnd_pp (by omega) g]; rw [tm_pp (by omega)] at h; unfold absZ at h
    have := Int.emod_nonneg p hq
    rw [if_neg (show ¬ q < 0 by omega)] at h
    rw [if_pos (by split at h <;> omega)]
theorem rnd_big {p q : Int} (hq : q ≠ 0) (h : ¬ 2 * absZ (p.tmod q) < absZ q) : rnd p q = if (decide (p < 0)) = (decide (q < 0)) then p.tdiv q + 1 else p.tdiv q - 1 := by
  by_cases hp : p < 0 <;> rcases Int.lt_or_gt_of_ne hq with g | g
  · rw [td_np hp, rnd_nn hp g]; rw [tm_np hp] at h; unfold absZ at h
    have e : (-p) % (-q) = (-p) % q := Int.emod_neg ..
    have e2 : (-p) / (-q) = -((-p) / q) := Int.ediv_neg ..
    have := Int.emod_nonneg (-p) hq
    rw [if_pos g] at h
    rw [e, if_neg (by split at h <;> omega), e2, if_pos (by simp; omega)]
  · rw [td_np hp, rnd_np hp g]; rw [tm_np hp] at h; unfold absZ at h
    have := Int.emod_nonneg (-p) hq
    rw [if_neg (show ¬ q < 0 by omega)] at h
    rw [if_neg (by split at h <;> omega), if_neg (by simp; omega)]; omega
  · rw [td_pp (by omega), rnd_pn (by omega) g]; rw [tm_pp (by omega)] at h; unfold absZ at h
    have e : p % (-q) = p % q := Int.emod_neg ..
    have e2 : p / (-q) = -(p / q) := Int.ediv_neg ..
    have := Int.emod_nonneg p hq
    rw [if_pos g] at h
    rw [e, if_neg (by split at h <;> omega), e2, if_neg (by simp; omega)]; omega
  · rw [td_pp (by omega), rnd_pp (by omega) g]; rw [tm_pp (by omega)] at h; unfold absZ at h
    have := Int.emod_nonneg p hq
    rw [if_neg (show ¬ q < 0 by omega)] at h
    rw [if_neg (by split at h <;> omega), if_pos (by simp; omega)]

theorem absZ_le {n b : Int} (h1 : -b ≤ n) (h2 : n ≤ b) : 0 ≤ absZ n ∧ absZ n ≤ b := by unfold absZ; split <;> omega
theorem absZ_pos {n : Int} (h : n ≠ 0) : 1 ≤ absZ n := by unfold absZ; split <;> omega
/-- The quotient is not greater than the dividend, the remainder less than the divisor. -/
theorem tdiv_bd {p q b : Int} (h1 : -b ≤ p) (h2 : p ≤ b) : -b ≤ p.tdiv q ∧ p.tdiv q ≤ b := by
  have h : (p.tdiv q).natAbs ≤ p.natAbs := by rw [Int.natAbs_tdiv]; exact Nat.div_le_self ..
  omega
theorem tmod_bd {p q b : Int} (h1 : -b ≤ q) (h2 : q ≤ b) (hq : q ≠ 0) : -b ≤ p.tmod q ∧ p.tmod q ≤ b := by
  have h : (p.tmod q).natAbs < q.natAbs := by rw [Int.natAbs_tmod]; exact Nat.mod_lt _ (by omega)
  omega
theorem rnd_bd {p q b : Int} (h1 : -b ≤ p) (h2 : p ≤ b) (hq : q ≠ 0) : -b - 1 ≤ rnd p q ∧ rnd p q ≤ b + 1 := by
  have := tdiv_bd (q := q) h1 h2
  by_cases h : 2 * absZ (p.tmod q) < absZ q
  · rw [rnd_small hq h]; omega
  · rw [rnd_big hq h]; split <;> omega
/-- Products of bounded integers are bounded. -/
theorem mul_bd {a b A B : Int} (ha1 : -A ≤ a) (ha2 : a ≤ A) (hb1 : -B ≤ b) (hb2 : b ≤ B) : -(A * B) ≤ a * b ∧ a * b ≤ A * B := by
  have h : a.natAbs * b.natAbs ≤ A.natAbs * B.natAbs := Nat.mul_le_mul (by omega) (by omega)
  rw [← Int.natAbs_mul, ← Int.natAbs_mul] at h
  have : 0 ≤ A * B := Int.mul_nonneg (by omega) (by omega)
  omega

/-! What the functions of the layer return. -/
def validZ (n : Int) : Bool := decide (-1073741824 ≤ n ∧ n ≤ 1073741824)
def halfZ (n : Int) : Int := if validZ n = true then rnd n 2 else 0
def scaleZ (n p : Int) : Int := if validZ n = true ∧ 0 ≤ p ∧ p ≤ 10000 then rnd (n * p) 100 else 0
def mulDivZ (n a b : Int) : Int := if validZ n = true ∧ validZ a = true ∧ validZ b = true ∧ b ≠ 0 then rnd (n * a) b else 0
theorem valid_bd {n : Int} (h : validZ n = true) : -1073741824 ≤ n ∧ n ≤ 1073741824 := by simpa [validZ] using h
theorem valid_of {n : Int} (h1 : -1073741824 ≤ n) (h2 : n ≤ 1073741824) : validZ n = true := by simp [validZ, h1, h2]
theorem invalid_of {n : Int} (h : n < -1073741824 ∨ 1073741824 < n) : validZ n = false := by simp [validZ]; omega
end Go.Proofs.Ytjhpajdkklklhaa.Len
