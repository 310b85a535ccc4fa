/- Plain facts on decimals as bounded rational numbers: digit by digit, and with twos and fives taken out. -/
import Derived.Test.YtggiljlndenjoaaDoorRatPows
namespace Go.Proofs.YtggiljlndenjoaaDoor.RatM
theorem divInt_num_den (q : Rat) : Rat.divInt q.num q.den = q := Rat.num_divInt_den q
theorem cross {n d : Int} (hd : d ≠ 0) : n * ((Rat.divInt n d).den : Int) = (Rat.divInt n d).num * d := by
  have h := divInt_num_den (Rat.divInt n d)
  have hz : (((Rat.divInt n d).den : Nat) : Int) ≠ 0 := by have := (Rat.divInt n d).den_nz; omega
  exact ((Rat.divInt_eq_divInt_iff hz hd).1 h).symm
theorem frac_rep {p q : Int} (hq : 0 < q) (h0 : 0 ≤ p) (h1 : p < q) (h2 : q ≤ 2147483647) : repB (Rat.divInt p q) = true := by
  refine decide_eq_true ⟨?_, ?_⟩
  · rw [num_abs (by omega)]; exact Nat.le_trans (Nat.div_le_self _ _) (by omega)
  · rw [den_eq (by omega)]; exact Nat.le_trans (Nat.div_le_self _ _) (by omega)
theorem part_eq {m s F T : Int} (hT : 0 < T) (hs : 0 < s) : F * ((Rat.divInt (m * T + F) (s * T)).den : Int) = (s * (Rat.divInt (m * T + F) (s * T)).num - m * (Rat.divInt (m * T + F) (s * T)).den) * T := by
  have hsT : s * T ≠ 0 := by have := Int.mul_pos hs hT; omega
  have h := cross (n := m * T + F) hsT
  generalize (Rat.divInt (m * T + F) (s * T)).num = a at *
  generalize ((Rat.divInt (m * T + F) (s * T)).den : Int) = b at *
  rw [Int.add_mul] at h
  rw [Int.sub_mul]
  have e1 : a * (s * T) = s * a * T := by rw [← Int.mul_assoc, Int.mul_comm a s]
  have e2 : m * T * b = m * b * T := by rw [Int.mul_assoc, Int.mul_comm T b, Int.mul_assoc]
  omega
theorem part_rep {m s F T : Int} (hT : 0 < T) (hs : 0 < s) (h0 : 0 ≤ F) (h1 : F < T) (h : repB (Rat.divInt (m * T + F) (s * T)) = true) : repB (Rat.divInt F T) = true := by
  have e := part_eq (m := m) (F := F) hT hs
  have hd : 0 < ((Rat.divInt (m * T + F) (s * T)).den : Int) := by have := (Rat.divInt (m * T + F) (s * T)).den_nz; omega
  have hM := (of_decide_eq_true h).2
  generalize (Rat.divInt (m * T + F) (s * T)).num = a at *
  have hM' : ((Rat.divInt (m * T + F) (s * T)).den : Int) ≤ 2147483647 := by omega
  generalize ((Rat.divInt (m * T + F) (s * T)).den : Int) = b at *
  generalize s * a - m * b = p at *
  have hq : Rat.divInt F T = Rat.divInt p b := (Rat.divInt_eq_divInt_iff (by omega) (by omega)).2 e
  have hp0 : 0 ≤ p := by
    have : 0 ≤ p * T := by rw [← e]; exact Int.mul_nonneg h0 (by omega)
    exact Int.nonneg_of_mul_nonneg_left this hT
  have hp1 : p < b := by
    have : p * T < b * T := by rw [← e, Int.mul_comm b T]; exact Int.mul_lt_mul_of_pos_right h1 hd
    exact Int.lt_of_mul_lt_mul_right this (by omega)
  rw [hq]
  exact frac_rep hd hp0 hp1 hM'
/-- a whole part that is too great -/
theorem whole_big {n F T : Int} (hT : 0 < T) (h0 : 0 ≤ F) (hn : 2147483647 < n) : repr (Rat.divInt (n * T + F) T) = (0, 0, 2) := by
  refine repr_of_not ?_
  cases hb : repB (Rat.divInt (n * T + F) T) with
  | false => rfl
  | true =>
    exfalso
    have h := cross (n := n * T + F) (d := T) (by omega)
    have hd : 0 < ((Rat.divInt (n * T + F) T).den : Int) := by have := (Rat.divInt (n * T + F) T).den_nz; omega
    have hM := (of_decide_eq_true hb).1
    generalize (Rat.divInt (n * T + F) T).num = a at *
    generalize ((Rat.divInt (n * T + F) T).den : Int) = b at *
    have h1 : n * T ≤ a * T := by
      rw [← h]
      have h2 : n * T + F ≤ (n * T + F) * b := by
        have h3 : 0 ≤ n * T + F := by have := Int.mul_pos (show 0 < n by omega) hT; omega
        have := Int.mul_le_mul_of_nonneg_left (show (1 : Int) ≤ b by omega) h3
        omega
      omega
    have := Int.le_of_mul_le_mul_right h1 hT
    omega
theorem repr_stop {m s F T : Int} (hT : 0 < T) (hs : 0 < s) (h0 : 0 ≤ F) (h1 : F < T) (h : (repr (Rat.divInt F T)).2.2 ≠ 0) : repr (Rat.divInt (m * T + F) (s * T)) = (0, 0, 2) := by
  refine repr_of_not ?_
  cases hb : repB (Rat.divInt (m * T + F) (s * T)) with
  | false => rfl
  | true => exact absurd ((rep_iff _).2 (part_rep hT hs h0 h1 hb)) h
/-- one more digit ahead (s = 10), or the whole part (s = 1) -/
theorem repr_next {m s F T : Int} (hT : 0 < T) (hs : 0 < s) (h : (repr (Rat.divInt F T)).2.2 = 0) :
    repr (Rat.divInt (m * (repr (Rat.divInt F T)).2.1 + (repr (Rat.divInt F T)).1) (s * (repr (Rat.divInt F T)).2.1)) = repr (Rat.divInt (m * T + F) (s * T)) := by
  obtain ⟨v, e⟩ := repr_ok h
  generalize (repr (Rat.divInt F T)).1 = p at *
  generalize (repr (Rat.divInt F T)).2.1 = q at *
  obtain ⟨hq, _⟩ := valid_parts v
  have e' := (Rat.divInt_eq_divInt_iff (by omega) (by omega)).1 e
  congr 1
  refine (Rat.divInt_eq_divInt_iff (by have := Int.mul_pos hs (show 0 < q by omega); omega) (by have := Int.mul_pos hs hT; omega)).2 ?_
  rw [Int.add_mul, Int.add_mul]
  have e1 : m * q * (s * T) = m * T * (s * q) := by ac_rfl
  have e2 : p * (s * T) = F * (s * q) := by
    rw [show p * (s * T) = s * (p * T) by ac_rfl, e']; ac_rfl
  rw [e1, e2]

/-! the reference's way: twos and fives -/
theorem coprime_pow {D a b : Nat} (h2 : a = 0 ∨ D % 2 = 1) (h5 : b = 0 ∨ D % 5 ≠ 0) : Nat.gcd D (2 ^ a * 5 ^ b) = 1 := by
  have c2 : Nat.Coprime D (2 ^ a) := by
    rcases h2 with rfl | h2
    · exact Nat.coprime_one_right D
    · refine Nat.Coprime.pow_right a ?_
      show Nat.gcd D 2 = 1
      rw [Nat.gcd_comm, Nat.gcd_rec, h2]; decide
  have c5 : Nat.Coprime D (5 ^ b) := by
    rcases h5 with rfl | h5
    · exact Nat.coprime_one_right D
    · refine Nat.Coprime.pow_right b ?_
      show Nat.gcd D 5 = 1
      rw [Nat.gcd_comm, Nat.gcd_rec]
      have : D % 5 = 1 ∨ D % 5 = 2 ∨ D % 5 = 3 ∨ D % 5 = 4 := by omega
      rcases this with e | e | e | e <;> rw [e] <;> decide
  exact c2.mul_right c5
theorem low_num {D a b : Nat} (h2 : a = 0 ∨ D % 2 = 1) (h5 : b = 0 ∨ D % 5 ≠ 0) : (Rat.divInt (D : Int) ((2 ^ a * 5 ^ b : Nat) : Int)).num.natAbs = D ∧ (Rat.divInt (D : Int) ((2 ^ a * 5 ^ b : Nat) : Int)).den = 2 ^ a * 5 ^ b := by
  have hp : 0 < 2 ^ a * 5 ^ b := Nat.mul_pos (Nat.pow_pos (by decide)) (Nat.pow_pos (by decide))
  have hz : ((2 ^ a * 5 ^ b : Nat) : Int) ≠ 0 := by omega
  have hg : Nat.gcd (D : Int).natAbs (((2 ^ a * 5 ^ b : Nat) : Int)).natAbs = 1 := coprime_pow h2 h5
  exact ⟨by rw [num_abs hz, hg, Nat.div_one]; rfl, by rw [den_eq hz, hg, Nat.div_one]; rfl⟩
theorem low_big {D a b : Nat} (h2 : a = 0 ∨ D % 2 = 1) (h5 : b = 0 ∨ D % 5 ≠ 0) (h : 2147483647 < D ∨ 2147483647 < 2 ^ a * 5 ^ b) : repr (Rat.divInt (D : Int) ((2 ^ a * 5 ^ b : Nat) : Int)) = (0, 0, 2) := by
  obtain ⟨e1, e2⟩ := low_num h2 h5
  refine repr_of_not (decide_eq_false ?_)
  rw [e1, e2]; omega
/-- taking out twos and fives -/
theorem taken {N D t a b i j : Nat} (ha : a + i = t) (hb : b + j = t) (h : D * 2 ^ i * 5 ^ j = N) : Rat.divInt (N : Int) ((10 ^ t : Nat) : Int) = Rat.divInt (D : Int) ((2 ^ a * 5 ^ b : Nat) : Int) := by
  have hp : 0 < 2 ^ a * 5 ^ b := Nat.mul_pos (Nat.pow_pos (by decide)) (Nat.pow_pos (by decide))
  have hq : 0 < 10 ^ t := Nat.pow_pos (by decide)
  refine (Rat.divInt_eq_divInt_iff (by omega) (by omega)).2 ?_
  have : N * (2 ^ a * 5 ^ b) = D * 10 ^ t := by
    rw [← h, show 10 = 2 * 5 from rfl, Nat.mul_pow]
    conv => rhs; rw [← ha]
    rw [Nat.pow_add]
    conv => rhs; rw [ha, ← hb, Nat.pow_add]
    ac_rfl
  exact_mod_cast this
/-- a fraction of t digits, the last of which is not 0 -/
theorem long_frac {N t : Nat} (ht : 31 < t) (h : N % 10 ≠ 0) : repr (Rat.divInt (N : Int) ((10 ^ t : Nat) : Int)) = (0, 0, 2) := by
  refine repr_of_not ?_
  cases hb : repB (Rat.divInt (N : Int) ((10 ^ t : Nat) : Int)) with
  | false => rfl
  | true =>
    exfalso
    have hq : 0 < 10 ^ t := Nat.pow_pos (by decide)
    have hM := (of_decide_eq_true hb).2
    rw [den_eq (by omega)] at hM
    have hM' : 10 ^ t / Nat.gcd N (10 ^ t) ≤ 2147483647 := hM
    have hgd : Nat.gcd N (10 ^ t) ∣ 10 ^ t := Nat.gcd_dvd_right _ _
    obtain ⟨k, hk⟩ := hgd
    have hg0 : 0 < Nat.gcd N (10 ^ t) := Nat.gcd_pos_of_pos_right _ hq
    have hN : Nat.gcd N (10 ^ t) ∣ N := Nat.gcd_dvd_left _ _
    generalize Nat.gcd N (10 ^ t) = g at *
    rw [hk, Nat.mul_div_cancel_left _ hg0] at hM'
    have : N % 2 = 1 ∨ N % 5 ≠ 0 := by omega
    rcases this with h2 | h5
    · have hc : Nat.Coprime (2 ^ t) g := by
        have c : Nat.gcd N (2 ^ t * 5 ^ 0) = 1 := coprime_pow (.inr h2) (.inl rfl)
        rw [Nat.pow_zero, Nat.mul_one] at c
        exact (Nat.Coprime.coprime_dvd_left hN c).symm
      have hd : 2 ^ t ∣ g * k := by rw [← hk, show 10 = 2 * 5 from rfl, Nat.mul_pow]; exact Nat.dvd_mul_right _ _
      have hd' := hc.dvd_of_dvd_mul_left hd
      have hk0 : 0 < k := by rcases Nat.eq_zero_or_pos k with rfl | h; rw [Nat.mul_zero] at hk; omega; exact h
      have := Nat.le_of_dvd hk0 hd'
      have := pow_big (b := 2) (m := 32) (n := t) (by omega) (by decide)
      omega
    · have hc : Nat.Coprime (5 ^ t) g := by
        have c : Nat.gcd N (2 ^ 0 * 5 ^ t) = 1 := coprime_pow (.inl rfl) (.inr h5)
        rw [Nat.pow_zero, Nat.one_mul] at c
        exact (Nat.Coprime.coprime_dvd_left hN c).symm
      have hd : 5 ^ t ∣ g * k := by rw [← hk, show 10 = 5 * 2 from rfl, Nat.mul_pow]; exact Nat.dvd_mul_right _ _
      have hd' := hc.dvd_of_dvd_mul_left hd
      have hk0 : 0 < k := by rcases Nat.eq_zero_or_pos k with rfl | h; rw [Nat.mul_zero] at hk; omega; exact h
      have := Nat.le_of_dvd hk0 hd'
      have := pow_big (b := 5) (m := 32) (n := t) (by omega) (by decide)
      omega
end Go.Proofs.YtggiljlndenjoaaDoor.RatM
