/- Plain facts on powers and roots of bounded rational numbers. -/
import Derived.Test.YtggiljlndenjoaaDoorRatLaws
namespace Go.Proofs.YtggiljlndenjoaaDoor.RatM
theorem rpow_add (q : Rat) (m n : Nat) : q ^ (m + n) = q ^ m * q ^ n := by
  induction n with
  | zero => rw [Nat.add_zero, Rat.pow_zero, Rat.mul_one]
  | succ n ih => rw [← Nat.add_assoc, Rat.pow_succ, ih, Rat.pow_succ, Rat.mul_assoc]
theorem inv_pow (q : Rat) (n : Nat) : q⁻¹ ^ n = (q ^ n)⁻¹ := by
  induction n with
  | zero => rw [Rat.pow_zero, Rat.pow_zero]; exact (Rat.inv_eq_of_mul_eq_one (Rat.one_mul 1)).symm
  | succ n ih => rw [Rat.pow_succ, ih, Rat.pow_succ, Rat.inv_mul_rev, Rat.mul_comm]
theorem one_pow (n : Nat) : (1 : Rat) ^ n = 1 := by
  induction n with
  | zero => rw [Rat.pow_zero]
  | succ n ih => rw [Rat.pow_succ, ih, Rat.mul_one]
theorem zero_pow {n : Nat} (h : 0 < n) : (0 : Rat) ^ n = 0 := by
  obtain ⟨k, rfl⟩ : ∃ k, n = k + 1 := ⟨n - 1, by omega⟩
  rw [Rat.pow_succ, Rat.mul_zero]

theorem powN_zero (a b : Int) : powN a b 0 = (1, 1, 0) := by rw [powN, Rat.pow_zero]; rfl
theorem powN_ok {a b : Int} {k : Nat} (h : (powN a b k).2.2 = 0) : validR (powN a b k).1 (powN a b k).2.1 = true ∧ Rat.divInt (powN a b k).1 (powN a b k).2.1 = Rat.divInt a b ^ k := repr_ok h
theorem powN_errs (a b : Int) (k : Nat) : (powN a b k).2.2 = 0 ∨ powN a b k = (0, 0, 2) := repr_errs _
theorem pow_sq {a b : Int} {k : Nat} (h : (powN a b k).2.2 = 0) : mulZ (powN a b k).1 (powN a b k).2.1 (powN a b k).1 (powN a b k).2.1 = powN a b (k + k) := by
  obtain ⟨v, e⟩ := powN_ok h
  rw [mulZ, if_pos ⟨v, v⟩, e, powN, rpow_add]
theorem pow_step {a b : Int} {k : Nat} (hv : validR a b = true) (h : (powN a b k).2.2 = 0) : mulZ (powN a b k).1 (powN a b k).2.1 a b = powN a b (k + 1) := by
  obtain ⟨v, e⟩ := powN_ok h
  rw [mulZ, if_pos ⟨v, hv⟩, e, powN, Rat.pow_succ]
theorem pow_stop {a b : Int} {m n : Nat} (hmn : m ≤ n) (h : (powN a b m).2.2 ≠ 0) : powN a b n = (0, 0, 2) := by
  refine repr_of_not (rep_mono_no hmn ?_)
  cases hb : repB (Rat.divInt a b ^ m) with
  | false => rfl
  | true => exact absurd ((rep_iff _).2 hb) h

/-- the inverse of a valid number -/
def invZ (a b : Int) : Res := repr (Rat.divInt b a)
theorem inv_ok {a b : Int} (h : validR a b = true) (ha : a ≠ 0) : (invZ a b).2.2 = 0 ∧ validR (invZ a b).1 (invZ a b).2.1 = true ∧ Rat.divInt (invZ a b).1 (invZ a b).2.1 = Rat.divInt b a := by
  obtain ⟨h1, h2, h3, h4, _⟩ := valid_parts h
  have e : (invZ a b).2.2 = 0 := repr_small ha (by omega) (by omega)
  exact ⟨e, repr_ok e⟩
theorem inv_powN {a b : Int} (h : validR a b = true) (ha : a ≠ 0) (k : Nat) : powN (invZ a b).1 (invZ a b).2.1 k = powN b a k := by
  rw [powN, (inv_ok h ha).2.2, powN]

theorem powZ_nonneg {a b n : Int} (h : validR a b = true) (hn : 0 ≤ n) : powZ a b n = powN a b n.toNat := by rw [powZ, if_pos h, if_pos hn]
theorem powZ_zero {b n : Int} (h : validR 0 b = true) (hn : n < 0) : powZ 0 b n = (0, 0, 10) := by rw [powZ, if_pos h, if_neg (by omega), if_pos rfl]
theorem powZ_neg {a b n : Int} (h : validR a b = true) (hn : n < 0) (ha : a ≠ 0) : powZ a b n = powN (invZ a b).1 (invZ a b).2.1 (-n).toNat := by
  rw [powZ, if_pos h, if_neg (by omega), if_neg ha, inv_powN h ha]
theorem powZ_arg {a b n : Int} (h : validR a b = false) : powZ a b n = (0, 0, 1) := by rw [powZ, if_neg (by simp [h])]

/-! the reference's cases -/
theorem divInt_one : Rat.divInt 1 1 = 1 := by rfl
theorem powZ_one (n : Int) : powZ 1 1 n = (1, 1, 0) := by
  rw [powZ, if_pos (by decide)]
  split
  · rw [powN, divInt_one, one_pow]; rfl
  · rw [if_neg (by decide), powN, divInt_one, one_pow]; rfl
theorem powZ_n0 {a b : Int} (h : validR a b = true) : powZ a b 0 = (1, 1, 0) := by rw [powZ_nonneg h (by omega)]; exact powN_zero a b
theorem zero_den {b : Int} (h : validR 0 b = true) : b = 1 := by
  obtain ⟨h1, _, _, _, hg⟩ := valid_parts h
  rw [show (0 : Int).natAbs = 0 from rfl, Nat.gcd_zero_left] at hg; omega
theorem powZ_base0 {b n : Int} (h : validR 0 b = true) (hn : 0 < n) : powZ 0 b n = (0, b, 0) := by
  obtain rfl := zero_den h
  rw [powZ_nonneg h (by omega), powN, show Rat.divInt 0 1 = 0 from rfl, zero_pow (by omega)]; rfl
theorem neg_one_pow (k : Nat) : (-1 : Rat) ^ k = if k % 2 = 0 then 1 else -1 := by
  induction k with
  | zero => rw [Rat.pow_zero]; rfl
  | succ k ih =>
    rw [Rat.pow_succ, ih]
    rcases Nat.mod_two_eq_zero_or_one k with h | h
    · rw [if_pos h, if_neg (by omega), Rat.one_mul]
    · rw [if_neg (by omega), if_pos (by omega)]; decide +kernel
theorem powZ_m1 (n : Int) : powZ (-1) 1 n = if n % 2 = 0 then (1, 1, 0) else (-1, 1, 0) := by
  rw [powZ, if_pos (by decide)]
  split
  · rw [powN, show Rat.divInt (-1) 1 = -1 from rfl, neg_one_pow]
    by_cases h : n % 2 = 0
    · rw [if_pos h, if_pos (by omega)]; rfl
    · rw [if_neg h, if_neg (by omega)]; rfl
  · rw [if_neg (by decide), powN, show Rat.divInt 1 (-1) = -1 from rfl, neg_one_pow]
    by_cases h : n % 2 = 0
    · rw [if_pos h, if_pos (by omega)]; rfl
    · rw [if_neg h, if_neg (by omega)]; rfl
theorem big32 {x : Nat} (h : 2 ≤ x) : 2147483647 < x ^ 32 := Nat.lt_of_lt_of_le (by decide) (Nat.pow_le_pow_left h 32)
theorem powN_big {a b : Int} {k : Nat} (h : validR a b = true) (hx : 2 ≤ a.natAbs ∨ 2 ≤ b.natAbs) (hk : 31 < k) : powN a b k = (0, 0, 2) := by
  refine repr_of_not (rep_mono_no (m := 32) (by omega) (decide_eq_false ?_))
  rw [Rat.num_pow, Rat.den_pow, Int.natAbs_pow, val_num h]
  have := val_den h
  rcases hx with hx | hx
  · have := big32 hx; omega
  · have hd : 2 ≤ (Rat.divInt a b).den := by omega
    have := big32 hd; omega
theorem inv_big {a b : Int} (h : validR a b = true) (ha : a ≠ 0) (hx : 2 ≤ a.natAbs ∨ 2 ≤ b.natAbs) : 2 ≤ (invZ a b).1.natAbs ∨ 2 ≤ (invZ a b).2.1.natAbs := by
  obtain ⟨h1, h2, h3, h4, hg⟩ := valid_parts h
  have e : invZ a b = _ := repr_in (n := b) (d := a) ha (Nat.le_trans (Nat.div_le_self _ _) (by omega)) (Nat.le_trans (Nat.div_le_self _ _) (by omega))
  rw [Nat.gcd_comm, hg, Nat.div_one, Nat.div_one] at e
  rw [e]
  rcases hx with hx | hx
  · right; show 2 ≤ ((a.natAbs : Nat) : Int).natAbs; omega
  · left
    show 2 ≤ (if decide (b < 0) = decide (a < 0) then ((b.natAbs : Nat) : Int) else -((b.natAbs : Nat) : Int)).natAbs
    split <;> omega
theorem powZ_big {a b n : Int} (h : validR a b = true) (ha : a ≠ 0) (hx : 2 ≤ a.natAbs ∨ 2 ≤ b.natAbs) (hn : n < -31 ∨ 31 < n) : powZ a b n = (0, 0, 2) := by
  rcases hn with hn | hn
  · rw [powZ_neg h (by omega) ha]; exact powN_big (inv_ok h ha).2.1 (inv_big h ha hx) (by omega)
  · rw [powZ_nonneg h (by omega)]; exact powN_big h hx (by omega)

/-! the law of the sum of exponents -/
theorem powZ_ok {a b n : Int} (h : validR a b = true) (e : (powZ a b n).2.2 = 0) : powZ a b n = repr (Rat.divInt a b ^ n) ∧ (a = 0 → 0 ≤ n) := by
  by_cases hn : 0 ≤ n
  · refine ⟨?_, fun _ => hn⟩
    rw [powZ_nonneg h hn, powN]
    obtain ⟨k, rfl⟩ := Int.eq_ofNat_of_zero_le hn
    rfl
  · by_cases ha : a = 0
    · subst ha; rw [powZ_zero h (by omega)] at e; cases e
    · refine ⟨?_, fun x => absurd x ha⟩
      rw [powZ, if_pos h, if_neg hn, if_neg ha, powN]
      obtain ⟨k, hk⟩ := Int.eq_ofNat_of_zero_le (show 0 ≤ -n by omega)
      obtain rfl : n = -(k : Int) := by omega
      rw [Rat.zpow_neg, Rat.zpow_natCast, ← inv_pow, Rat.inv_divInt]; simp
theorem zpow_sum {a b m n : Int} (h : validR a b = true) (hm : a = 0 → 0 ≤ m) (hn : a = 0 → 0 ≤ n) : Rat.divInt a b ^ (m + n) = Rat.divInt a b ^ m * Rat.divInt a b ^ n := by
  by_cases ha : a = 0
  · obtain ⟨i, rfl⟩ := Int.eq_ofNat_of_zero_le (hm ha)
    obtain ⟨j, rfl⟩ := Int.eq_ofNat_of_zero_le (hn ha)
    exact rpow_add _ i j
  · exact Rat.zpow_add (val_ne h ha) m n
theorem pow_sum {a b m n : Int} (h : validR a b = true) : agreeB (opZ 2 (powZ a b m) (powZ a b n)) (powZ a b (m + n)) = true := by
  refine agree_of fun h1 h2 => ?_
  by_cases em : (powZ a b m).2.2 = 0
  · by_cases en : (powZ a b n).2.2 = 0
    · obtain ⟨e1, z1⟩ := powZ_ok h em
      obtain ⟨e2, z2⟩ := powZ_ok h en
      obtain ⟨e3, _⟩ := powZ_ok h h2
      have A := repr_ok (by rw [← e1]; exact em)
      have B := repr_ok (by rw [← e2]; exact en)
      rw [← e1] at A
      rw [← e2] at B
      rw [op_ok (.inr rfl) em en A.1 B.1, A.2, B.2]
      have : repr (ratOp 2 (Rat.divInt a b ^ m) (Rat.divInt a b ^ n)) = powZ a b (m + n) := by
        rw [e3, zpow_sum h z1 z2]; rfl
      rw [this]; exact ⟨rfl, rfl⟩
    · rw [op_no2 en] at h1; cases h1
  · rw [op_no1 em] at h1; cases h1

/-! roots -/
/-- the least number from 0 on whose square is at least n (or 65536) -/
def sqN (n : Int) : Nat := ((List.range 65536).find? fun r : Nat => decide (n ≤ (r : Int) * r)).getD 65536
theorem sq_unique {n : Int} {r : Nat} (h1 : r ≤ 65536) (h2 : r < 65536 → n ≤ (r : Int) * r) (h3 : ∀ j : Nat, j < r → (j : Int) * j < n) : sqN n = r := by
  unfold sqN
  rcases Nat.lt_or_ge r 65536 with h | h
  · have : (List.range 65536).find? (fun r : Nat => decide (n ≤ (r : Int) * r)) = some r := List.find?_range_eq_some.2 ⟨decide_eq_true (h2 h), List.mem_range.2 h, fun j hj => by simpa using h3 j hj⟩
    rw [this]; rfl
  · obtain rfl : r = 65536 := by omega
    have : (List.range 65536).find? (fun r : Nat => decide (n ≤ (r : Int) * r)) = none := by
      rw [List.find?_eq_none]
      intro x hx
      have := h3 x (List.mem_range.1 hx)
      simp; exact this
    rw [this]; rfl
def rootZ (a b : Int) : Res := if validR a b = true then (if (sqN a : Int) * sqN a = a ∧ (sqN b : Int) * sqN b = b then ((sqN a : Int), (sqN b : Int), 0) else (0, 0, 2)) else (0, 0, 1)
theorem sq_square {x : Int} (h : x.natAbs ≤ 65536) : (sqN (x * x) : Int) = x.natAbs := by
  have e : x * x = (x.natAbs : Int) * x.natAbs := (Int.natAbs_mul_self' x).symm
  rw [sq_unique (n := x * x) (r := x.natAbs) h (fun _ => by rw [e]; exact Int.le_refl _) fun j hj => ?_]
  rw [e]
  have := Nat.mul_lt_mul_of_lt_of_lt hj hj
  exact Int.ofNat_lt.2 this
theorem root_of_square {a b : Int} (h : validR a b = true) (ha : a.natAbs ≤ 40000) (hb : b ≤ 40000) :
    (mulZ a b a b).2.2 = 0 ∧ rootZ (mulZ a b a b).1 (mulZ a b a b).2.1 = ((a.natAbs : Int), b, 0) := by
  obtain ⟨h1, h2, h3, h4, hg⟩ := valid_parts h
  have e : mulZ a b a b = (a * a, b * b, 0) := by
    rw [mulZ, if_pos ⟨h, h⟩, show Rat.divInt a b * Rat.divInt a b = Rat.divInt a b ^ 2 by rw [Rat.pow_succ, Rat.pow_one]]
    have hn : ((Rat.divInt a b ^ 2).num : Int) = a * a := by rw [Rat.num_pow, val_num h, Int.pow_succ, Int.pow_succ, Int.pow_zero, Int.one_mul]
    have hd : (((Rat.divInt a b ^ 2).den : Nat) : Int) = b * b := by
      rw [Rat.den_pow, Nat.pow_succ, Nat.pow_succ, Nat.pow_zero, Nat.one_mul, Int.natCast_mul, val_den h]
    have b1 : (a * a).natAbs ≤ 40000 * 40000 := by rw [Int.natAbs_mul]; exact Nat.mul_le_mul ha ha
    have b2 : (b * b).natAbs ≤ 40000 * 40000 := by rw [Int.natAbs_mul]; exact Nat.mul_le_mul (by omega) (by omega)
    rw [repr, if_pos ⟨by rw [hn]; omega, by omega⟩, hn, hd]
  rw [e]
  refine ⟨rfl, ?_⟩
  have v : validR (a * a) (b * b) = true := by
    have := (repr_ok (q := Rat.divInt a b * Rat.divInt a b) (by rw [mulZ, if_pos ⟨h, h⟩] at e; rw [e])).1
    rw [mulZ, if_pos ⟨h, h⟩] at e; rw [e] at this; exact this
  have s1 := sq_square (x := a) (by omega)
  have s2 := sq_square (x := b) (by omega)
  have e2 : (b.natAbs : Int) = b := by omega
  rw [rootZ, if_pos v]
  show (if (sqN (a * a) : Int) * sqN (a * a) = a * a ∧ (sqN (b * b) : Int) * sqN (b * b) = b * b then _ else _) = _
  rw [s1, s2, if_pos ⟨Int.natAbs_mul_self' a, Int.natAbs_mul_self' b⟩, e2]
end Go.Proofs.YtggiljlndenjoaaDoor.RatM
