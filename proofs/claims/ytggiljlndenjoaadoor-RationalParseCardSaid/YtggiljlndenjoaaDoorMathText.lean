/- Plain facts on decimal numerals, byte by byte: what the text of a length is, and what is read from a text. No program is named here. -/
import Derived.Lib.ItoaNum
import Derived.Lib.AtoiAll
import Derived.Lib.TrimByte
import Derived.Lib.Strings
import Derived.Lib.IndexMore
namespace Go.Proofs.YtggiljlndenjoaaDoor.Len

/-- A decimal digit. -/
def isD (c : UInt8) : Bool := decide (48 ≤ c.toNat ∧ c.toNat ≤ 57)
/-- The number that digits spell behind the number 'acc'. -/
def numF (acc : Nat) (l : List UInt8) : Nat := l.foldl (fun a c => a * 10 + (c.toNat - 48)) acc
def num (l : List UInt8) : Nat := numF 0 l
theorem numF_nil (acc : Nat) : numF acc [] = acc := by unfold numF; exact List.foldl_nil
theorem numF_cons (acc : Nat) (c : UInt8) (r : List UInt8) : numF acc (c :: r) = numF (acc * 10 + (c.toNat - 48)) r := by unfold numF; exact List.foldl_cons ..
theorem num_eq (l : List UInt8) : num l = numF 0 l := by unfold num; exact Eq.refl _
attribute [local irreducible] numF num

theorem numF_append (acc : Nat) (a b : List UInt8) : numF acc (a ++ b) = numF (numF acc a) b := by
  induction a generalizing acc with
  | nil => rw [numF_nil]; rfl
  | cons c r ih => rw [List.cons_append, numF_cons, numF_cons]; exact ih _
theorem num_snoc (a : List UInt8) (c : UInt8) : num (a ++ [c]) = num a * 10 + (c.toNat - 48) := by
  rw [num_eq, num_eq, numF_append, numF_cons, numF_nil]
theorem num_three (a : List UInt8) (x y z : UInt8) : num (a ++ [x, y, z]) = num a * 1000 + num [x, y, z] := by
  simp only [num_eq, numF_append, numF_cons, numF_nil]
  generalize numF 0 a = k
  omega

theorem isD_ofNat {d : Nat} (h : d < 10) : isD (UInt8.ofNat (48 + d)) = true := by
  have : (UInt8.ofNat (48 + d)).toNat = 48 + d := by rw [UInt8.toNat_ofNat']; omega
  simp only [isD, this]; simp; omega
theorem toNat_ofNat {d : Nat} (h : d < 10) : (UInt8.ofNat (48 + d)).toNat - 48 = d := by
  have : (UInt8.ofNat (48 + d)).toNat = 48 + d := by rw [UInt8.toNat_ofNat']; omega
  omega
theorem ofNat_toNat {c : UInt8} (h : isD c = true) : UInt8.ofNat (48 + (c.toNat - 48)) = c := by
  have h' : 48 ≤ c.toNat ∧ c.toNat ≤ 57 := by simpa [isD] using h
  apply UInt8.toNat_inj.1
  rw [UInt8.toNat_ofNat']; omega

theorem dec_small {u : Nat} (h : u < 10) : Lib.decDigits u = [UInt8.ofNat (48 + u)] := by rw [Lib.decDigits, dif_pos h]
theorem dec_big {u : Nat} (h : ¬ u < 10) : Lib.decDigits u = Lib.decDigits (u / 10) ++ [UInt8.ofNat (48 + u % 10)] := by rw [Lib.decDigits, dif_neg h]

theorem dec_isD (u : Nat) : (Lib.decDigits u).all isD = true := by
  induction u using Nat.strongRecOn with
  | _ u ih =>
    by_cases h : u < 10
    · rw [dec_small h]; simpa using isD_ofNat h
    · rw [dec_big h, List.all_append, ih (u / 10) (by omega)]
      simpa using isD_ofNat (d := u % 10) (by omega)
theorem num_dec (u : Nat) : num (Lib.decDigits u) = u := by
  induction u using Nat.strongRecOn with
  | _ u ih =>
    by_cases h : u < 10
    · rw [dec_small h]; simp only [num_eq, numF_cons, numF_nil]; rw [toNat_ofNat h]; omega
    · rw [dec_big h, num_snoc, ih (u / 10) (by omega), toNat_ofNat (by omega)]; omega
theorem dec_ne (u : Nat) : Lib.decDigits u ≠ [] := by
  by_cases h : u < 10
  · rw [dec_small h]; simp
  · rw [dec_big h]; simp
/-- No numeral of more than one digit begins with 0. -/
def noLead (l : List UInt8) : Prop := ∀ t, l = 48 :: t → t = []
theorem dec_noLead (u : Nat) : noLead (Lib.decDigits u) := by
  induction u using Nat.strongRecOn with
  | _ u ih =>
    intro t ht
    by_cases h : u < 10
    · rw [dec_small h] at ht; simp at ht; exact ht.2
    · rw [dec_big h] at ht
      cases hd : Lib.decDigits (u / 10) with
      | nil => exact absurd hd (dec_ne _)
      | cons x r =>
        rw [hd] at ht
        simp only [List.cons_append, List.cons.injEq] at ht
        obtain ⟨rfl, ht⟩ := ht
        have := ih (u / 10) (by omega) r hd
        subst this
        have e := num_dec (u / 10)
        rw [hd] at e
        simp [num_eq, numF_cons, numF_nil] at e
        omega
theorem num_pos {x : UInt8} {r : List UInt8} (hx : isD x = true) (h0 : x ≠ 48) : ∀ acc, 1 ≤ numF (acc * 10 + (x.toNat - 48)) r := by
  have hx' : 48 ≤ x.toNat ∧ x.toNat ≤ 57 := by simpa [isD] using hx
  have hne : x.toNat ≠ 48 := fun e => h0 (UInt8.toNat_inj.1 e)
  have mono : ∀ (r : List UInt8) (a : Nat), 1 ≤ a → 1 ≤ numF a r := by
    intro r
    induction r with
    | nil => intro a h; rw [numF_nil]; exact h
    | cons c r ih => intro a h; rw [numF_cons]; exact ih _ (by omega)
  intro acc
  exact mono r _ (by omega)
/-- A numeral is what its number is written as. -/
theorem dec_num (l : List UInt8) (hd : l.all isD = true) (hne : l ≠ []) (hl : noLead l) : Lib.decDigits (num l) = l := by
  rcases List.eq_nil_or_concat l with rfl | ⟨a, c, rfl⟩
  · exact absurd rfl hne
  · rw [List.concat_eq_append] at *
    induction h : a.length generalizing a c with
    | zero =>
      have : a = [] := List.eq_nil_of_length_eq_zero h
      subst this
      simp only [List.nil_append, List.all_cons, List.all_nil, Bool.and_true] at hd
      have hc : 48 ≤ c.toNat ∧ c.toNat ≤ 57 := by simpa [isD] using hd
      rw [show num ([] ++ [c]) = c.toNat - 48 by simp [num_eq, numF_cons, numF_nil], dec_small (by omega), ofNat_toNat hd]
      rfl
    | succ k ih =>
      rcases List.eq_nil_or_concat a with rfl | ⟨b, x, rfl⟩
      · simp at h
      · rw [List.concat_eq_append] at *
        rw [List.all_append] at hd
        simp only [Bool.and_eq_true, List.all_cons, List.all_nil, Bool.and_true] at hd
        obtain ⟨hd1, hd2⟩ := hd
        have hc : 48 ≤ c.toNat ∧ c.toNat ≤ 57 := by simpa [isD] using hd2
        have hl' : noLead (b ++ [x]) := fun t ht => by
          have := hl (t ++ [c]) (by rw [ht]; rfl)
          simp at this
        have ihh := ih b x hd1 (by simp) hl' (by simp at h; omega)
        have hpos : 1 ≤ num (b ++ [x]) := by
          cases hb : b ++ [x] with
          | nil => simp at hb
          | cons y r =>
            have hy : y ≠ 48 := fun e => by
              subst e
              have := hl (r ++ [c]) (by rw [hb]; rfl)
              simp at this
            rw [hb] at hd1
            simp only [List.all_cons, Bool.and_eq_true] at hd1
            rw [num_eq, numF_cons]
            exact num_pos hd1.1 hy 0
        rw [num_snoc, dec_big (by omega), show (num (b ++ [x]) * 10 + (c.toNat - 48)) / 10 = num (b ++ [x]) by omega, ihh,
          show (num (b ++ [x]) * 10 + (c.toNat - 48)) % 10 = c.toNat - 48 by omega, ofNat_toNat hd2]
end Go.Proofs.YtggiljlndenjoaaDoor.Len
