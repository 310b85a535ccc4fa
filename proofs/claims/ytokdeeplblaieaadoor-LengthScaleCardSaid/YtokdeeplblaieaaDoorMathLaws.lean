/- Plain integer facts for the laws of layer 1: the error of a rounded quotient is at most a half; rounding never decreases; a common factor changes nothing. No program is named here. -/
import Derived.Test.YtokdeeplblaieaaDoorMath
namespace Go.Proofs.YtokdeeplblaieaaDoor.Len

theorem rnd_zero {q : Int} (hq : q ≠ 0) : rnd 0 q = 0 := by
  have := rnd_neg 0 q hq
  rw [Int.neg_zero] at this
  omega
/-- The defining bounds, for a positive divisor. -/
theorem rnd_err {p q : Int} (hq : 0 < q) : -q ≤ 2 * (q * rnd p q - p) ∧ 2 * (q * rnd p q - p) ≤ q := by
  by_cases hp : p < 0
  · have h1 := Int.emod_nonneg (-p) (Int.ne_of_gt hq)
    have h2 := Int.emod_lt_of_pos (-p) hq
    have h3 := Int.mul_ediv_add_emod (-p) q
    rw [rnd_np hp hq]
    generalize (-p) % q = r at *
    generalize (-p) / q = k at *
    split
    · rw [Int.mul_neg]; omega
    · rw [Int.mul_neg, Int.mul_add]; omega
  · have h1 := Int.emod_nonneg p (Int.ne_of_gt hq)
    have h2 := Int.emod_lt_of_pos p hq
    have h3 := Int.mul_ediv_add_emod p q
    rw [rnd_pp (by omega) hq]
    generalize p % q = r at *
    generalize p / q = k at *
    split
    · omega
    · rw [Int.mul_add]; omega
theorem rnd_nonneg {p q : Int} (hp : 0 ≤ p) (hq : 0 < q) : 0 ≤ rnd p q := by
  have := Int.ediv_nonneg hp (Int.le_of_lt hq)
  rw [rnd_pp hp hq]; split <;> omega
theorem rnd_pos {p q : Int} (hp : 0 ≤ p) (hq : 0 < q) : rnd p q = (2 * p + q) / (2 * q) := by
  unfold rnd absZ
  have h1 : ¬ p < 0 := by omega
  have h2 : ¬ q < 0 := by omega
  simp [h1, h2]
theorem rnd_mono_pos {p p' q : Int} (hp : 0 ≤ p) (h : p ≤ p') (hq : 0 < q) : rnd p q ≤ rnd p' q := by
  rw [rnd_pos hp hq, rnd_pos (by omega) hq]
  exact Int.ediv_le_ediv (by omega) (by omega)
theorem rnd_mono {p p' q : Int} (h : p ≤ p') (hq : 0 < q) : rnd p q ≤ rnd p' q := by
  by_cases hp : 0 ≤ p
  · exact rnd_mono_pos hp h hq
  · have e : rnd p q = -rnd (-p) q := by rw [rnd_neg p q (by omega), Int.neg_neg]
    have h0 := rnd_nonneg (p := -p) (q := q) (by omega) hq
    by_cases hp' : 0 ≤ p'
    · have := rnd_nonneg hp' hq
      omega
    · have e' : rnd p' q = -rnd (-p') q := by rw [rnd_neg p' q (by omega), Int.neg_neg]
      have := rnd_mono_pos (p := -p') (p' := -p) (by omega) (by omega) hq
      omega

theorem absZ_mul (k a : Int) : absZ (k * a) = absZ k * absZ a := by
  have h : ∀ n : Int, absZ n = n.natAbs := fun n => by unfold absZ; split <;> omega
  rw [h, h, h, Int.natAbs_mul, Int.natCast_mul]
theorem rnd_factor {k a b : Int} (hk : k ≠ 0) (hb : b ≠ 0) : rnd (k * a) (k * b) = rnd a b := by
  by_cases ha : a = 0
  · subst ha
    rw [Int.mul_zero, rnd_zero (Int.mul_ne_zero hk hb), rnd_zero hb]
  have hk1 := absZ_pos hk
  have hb1 := absZ_pos hb
  have e : (2 * absZ (k * a) + absZ (k * b)) / (2 * absZ (k * b)) = (2 * absZ a + absZ b) / (2 * absZ b) := by
    rw [absZ_mul, absZ_mul, show 2 * (absZ k * absZ a) + absZ k * absZ b = absZ k * (2 * absZ a + absZ b) by rw [Int.mul_add, Int.mul_left_comm],
      show 2 * (absZ k * absZ b) = absZ k * (2 * absZ b) by rw [Int.mul_left_comm], Int.mul_ediv_mul_of_pos _ _ (by omega)]
  have hs : (decide (k * a < 0) = decide (k * b < 0)) ↔ (decide (a < 0) = decide (b < 0)) := by
    rw [decide_eq_decide, decide_eq_decide]
    rcases Int.lt_or_gt_of_ne hk with h | h <;> rcases Int.lt_or_gt_of_ne ha with ha' | ha' <;> rcases Int.lt_or_gt_of_ne hb with hb' | hb'
    all_goals
      first
        | have x1 := Int.mul_pos_of_neg_of_neg h ha'
        | have x1 := Int.mul_neg_of_neg_of_pos h ha'
        | have x1 := Int.mul_neg_of_pos_of_neg h ha'
        | have x1 := Int.mul_pos h ha'
      first
        | have x2 := Int.mul_pos_of_neg_of_neg h hb'
        | have x2 := Int.mul_neg_of_neg_of_pos h hb'
        | have x2 := Int.mul_neg_of_pos_of_neg h hb'
        | have x2 := Int.mul_pos h hb'
      omega
  unfold rnd
  rw [e]
  by_cases hd : decide (a < 0) = decide (b < 0)
  · rw [if_pos hd, if_pos (hs.2 hd)]
  · rw [if_neg hd, if_neg (fun h => hd (hs.1 h))]

theorem valid_neg (n : Int) : validZ (-n) = validZ n := by
  unfold validZ
  rw [decide_eq_decide]; omega
theorem half_neg (n : Int) : halfZ (-n) = -halfZ n := by
  unfold halfZ
  rw [valid_neg]
  split
  · exact rnd_neg n 2 (by omega)
  · rfl
theorem scale_neg (n p : Int) : scaleZ (-n) p = -scaleZ n p := by
  unfold scaleZ
  rw [valid_neg]
  split
  · rw [Int.neg_mul]; exact rnd_neg _ 100 (by omega)
  · rfl
theorem muldiv_neg (n a b : Int) : mulDivZ (-n) a b = -mulDivZ n a b := by
  unfold mulDivZ
  rw [valid_neg]
  split
  · rename_i h; rw [Int.neg_mul]; exact rnd_neg _ b h.2.2.2
  · rfl
theorem muldiv_factor {n a b k : Int} (hk : k ≠ 0) (ha : validZ a = true) (hb : validZ b = true) (hka : validZ (k * a) = true) (hkb : validZ (k * b) = true) : mulDivZ n (k * a) (k * b) = mulDivZ n a b := by
  unfold mulDivZ
  by_cases h0 : b = 0
  · subst h0
    rw [if_neg (by simp), if_neg (by simp)]
  · have : k * b ≠ 0 := Int.mul_ne_zero hk h0
    simp only [ha, hb, hka, hkb, h0, this, ne_eq, not_false_eq_true, and_true]
    split
    · rw [Int.mul_left_comm]; exact rnd_factor hk h0
    · rfl

/-- The law LengthError's two parts. -/
theorem scale_err {n p : Int} (hn : validZ n = true) (h0 : 0 ≤ p) (h1 : p ≤ 10000) : -100 ≤ 2 * (100 * scaleZ n p - n * p) ∧ 2 * (100 * scaleZ n p - n * p) ≤ 100 := by
  rw [scaleZ, if_pos ⟨hn, h0, h1⟩]; exact rnd_err (by omega)
theorem half_err {n : Int} (hn : validZ n = true) : -1 ≤ 2 * halfZ n - n ∧ 2 * halfZ n - n ≤ 1 := by
  rw [halfZ, if_pos hn]
  have := rnd_err (p := n) (q := 2) (by omega)
  omega
theorem scale_mono {n m p : Int} (hn : validZ n = true) (hm : validZ m = true) (h : n ≤ m) (h0 : 0 ≤ p) (h1 : p ≤ 10000) : scaleZ n p ≤ scaleZ m p := by
  rw [scaleZ, scaleZ, if_pos ⟨hn, h0, h1⟩, if_pos ⟨hm, h0, h1⟩]
  exact rnd_mono (Int.mul_le_mul_of_nonneg_right h h0) (by omega)
theorem half_mono {n m : Int} (hn : validZ n = true) (hm : validZ m = true) (h : n ≤ m) : halfZ n ≤ halfZ m := by
  rw [halfZ, halfZ, if_pos hn, if_pos hm]
  exact rnd_mono h (by omega)
theorem scale_bd (n p : Int) : -10737418240001 ≤ scaleZ n p ∧ scaleZ n p ≤ 10737418240001 := by
  unfold scaleZ
  split
  · rename_i h
    have hb := valid_bd h.1
    have := mul_bd (A := 1073741824) (B := 10000) hb.1 hb.2 (by omega) h.2.2
    have := rnd_bd (p := n * p) (q := 100) (b := 10737418240000) (by omega) (by omega) (by omega)
    omega
  · omega
theorem half_bd (n : Int) : -1073741825 ≤ halfZ n ∧ halfZ n ≤ 1073741825 := by
  unfold halfZ
  split
  · rename_i h
    have hb := valid_bd h
    have := rnd_bd (p := n) (q := 2) (b := 1073741824) (by omega) (by omega) (by omega)
    omega
  · omega
theorem muldiv_bd (n a b : Int) : -1152921504606846977 ≤ mulDivZ n a b ∧ mulDivZ n a b ≤ 1152921504606846977 := by
  unfold mulDivZ
  split
  · rename_i h
    have hb := valid_bd h.1
    have ha := valid_bd h.2.1
    have := mul_bd (A := 1073741824) (B := 1073741824) hb.1 hb.2 ha.1 ha.2
    have := rnd_bd (p := n * a) (q := b) (b := 1152921504606846976) (by omega) (by omega) h.2.2.2
    omega
  · omega
end Go.Proofs.YtokdeeplblaieaaDoor.Len
