/- Plain facts on what the reference's Parse strips: zeros ahead. No program is named here. -/
import Derived.Test.YtggiljlndenjoaaDoorRefPar
namespace Go.Proofs.YtggiljlndenjoaaDoor.RatM
open Go Go.RowKit Len
def pv (l : List UInt8) : Res := valZ (Lib.cut l [46]).1 (Lib.cut l [46]).2.1
theorem index_cons48 (t : List UInt8) : Lib.index (48 :: t) [46] = if Lib.index t [46] < 0 then -1 else Lib.index t [46] + 1 := by
  rw [Lib.index]
  have h1 : ([46] : List UInt8).isPrefixOf (48 :: t) = false := by simp [List.isPrefixOf]
  rw [h1, if_neg (by simp)]
  have := Lib.index_ge t [46]
  by_cases h : Lib.index t [46] < 0
  · have e : Lib.index t [46] = -1 := by omega
    rw [e]; rfl
  · have e : (Lib.index t [46] == -1) = false := by rw [beq_eq_false_iff_ne]; omega
    rw [e, if_neg h]; rfl
theorem cut_cons48 (t : List UInt8) : Lib.cut (48 :: t) [46] = (48 :: (Lib.cut t [46]).1, (Lib.cut t [46]).2.1, (Lib.cut t [46]).2.2) := by
  unfold Lib.cut
  rw [index_cons48]
  by_cases h : Lib.index t [46] < 0
  · rw [if_pos h, if_neg (by omega), if_neg (by omega)]
  · rw [if_neg h, if_pos (by omega), if_pos (by omega)]
    have e : (Lib.index t [46] + 1).toNat = (Lib.index t [46]).toNat + 1 := by omega
    rw [e]
    simp
theorem pv_strip {c : UInt8} {r : List UInt8} (hc : c ≠ 46) (h : decB (48 :: c :: r) = true) : decB (c :: r) = true ∧ pv (48 :: c :: r) = pv (c :: r) := by
  have hne : (Lib.cut (c :: r) [46]).1 ≠ [] := by
    unfold Lib.cut
    split
    · rename_i h0
      have : Lib.index (c :: r) [46] ≠ 0 := by
        rw [Lib.index]
        have h1 : ([46] : List UInt8).isPrefixOf (c :: r) = false := by simp [List.isPrefixOf]; exact fun e => hc e.symm
        rw [h1, if_neg (by simp)]
        have := Lib.index_ge r [46]
        by_cases h : Lib.index r [46] < 0
        · have e : Lib.index r [46] = -1 := by omega
          rw [e]; decide
        · have e : (Lib.index r [46] == -1) = false := by rw [beq_eq_false_iff_ne]; omega
          rw [e]
          show ¬ Lib.index r [46] + 1 = 0
          omega
      obtain ⟨k, hk⟩ : ∃ k, (Lib.index (c :: r) [46]).toNat = k + 1 := ⟨(Lib.index (c :: r) [46]).toNat - 1, by omega⟩
      simp [hk]
    · simp
  unfold decB pv at *
  rw [cut_cons48] at *
  simp only [Bool.and_eq_true] at h ⊢
  refine ⟨⟨?_, h.2⟩, ?_⟩
  · have := digB_all h.1
    simp only [List.all_cons, Bool.and_eq_true] at this
    unfold digB
    rw [this.2]
    cases hd : (Lib.cut (c :: r) [46]).1 with
    | nil => exact absurd hd hne
    | cons x y => rfl
  · unfold valZ
    rw [List.cons_append, num_cons]
    simp
theorem cut_prefix (l : List UInt8) : ∃ t, l = (Lib.cut l [46]).1 ++ t := by
  unfold Lib.cut
  split
  · exact ⟨_, (List.take_append_drop _ l).symm⟩
  · exact ⟨[], by simp⟩
/-- The digits ahead of the point: more than ten of them are too great. -/
def Lead (l : List UInt8) : Prop := 10 < (Lib.cut l [46]).1.length → 2147483647 < num (Lib.cut l [46]).1
theorem decB_front {l : List UInt8} (h : decB l = true) : digB (Lib.cut l [46]).1 = true := by
  unfold decB at h; simp only [Bool.and_eq_true] at h; exact h.1
theorem lead_one {l : List UInt8} (h : l.length ≤ 1) : Lead l := by
  intro h1
  obtain ⟨t, e⟩ := cut_prefix l
  have := congrArg List.length e
  rw [List.length_append] at this
  omega
theorem lead_ne {l : List UInt8} (hd : decB l = true) (h0 : 0 < l.length) (h : l[0] ≠ 48) : Lead l := by
  intro h1
  obtain ⟨t, e⟩ := cut_prefix l
  have ha := digB_all (decB_front hd)
  revert e h1 ha
  generalize (Lib.cut l [46]).1 = d
  intro h1 e ha
  refine big_num ha (.inr ⟨by omega, ?_⟩) h1
  have : l[0] = d[0]'(by omega) := by simp only [e]; rw [List.getElem_append_left]
  rw [← this]; exact h
theorem lead_pt {l : List UInt8} (hd : decB l = true) (h0 : 1 < l.length) (h : l[1] = 46) : Lead l := by
  intro h1
  obtain ⟨t, e⟩ := cut_prefix l
  have ha := digB_all (decB_front hd)
  revert e h1 ha
  generalize (Lib.cut l [46]).1 = d
  intro h1 e ha
  have : l[1] = d[1]'(by omega) := by simp only [e]; rw [List.getElem_append_left]
  have h2 : isD (d[1]'(by omega)) = true := List.all_eq_true.1 ha _ (List.getElem_mem _)
  rw [← this, h] at h2
  exact absurd h2 (by decide)
/-- A zero behind digits behind the point. -/
theorem val_zero (d f : List UInt8) : valZ d (f ++ [48]) = valZ d f := by
  unfold valZ
  rw [← List.append_assoc, num_snoc, List.length_append, List.length_singleton, Nat.pow_succ]
  congr 1
  have h10 := ten_pos f.length
  generalize 10 ^ f.length = T at *
  generalize num (d ++ f) = N at *
  refine (Rat.divInt_eq_divInt_iff (by omega) (by omega)).2 ?_
  have e : (48 : UInt8).toNat - 48 = 0 := rfl
  rw [e]
  push_cast
  rw [Int.add_zero]
  ac_rfl
theorem num_mod {l : List UInt8} (h : 0 < l.length) (ha : l.all isD = true) (h1 : l[l.length - 1] ≠ 48) : num l % 10 ≠ 0 := by
  have e := last_num l h
  have hd := digit_le (List.all_eq_true.1 ha _ (List.getElem_mem (show l.length - 1 < l.length by omega)))
  have hne : (l[l.length - 1]).toNat ≠ 48 := fun e => h1 (UInt8.toNat_inj.1 (show _ = (48 : UInt8).toNat by rw [e]; rfl))
  omega
theorem val_long {d f : List UInt8} (hf : 31 < f.length) (ha : f.all isD = true) (h1 : f[f.length - 1]'(by omega) ≠ 48) : valZ d f = (0, 0, 2) := by
  have hm := num_mod (by omega) ha h1
  refine long_frac hf ?_
  rw [num_append]
  have : 10 ^ f.length = 10 ^ (f.length - 1) * 10 := by rw [← Nat.pow_succ]; congr 1; omega
  rw [this, ← Nat.mul_assoc]
  omega
theorem val_wide {d f : List UInt8} (ha : f.all isD = true) (h : 2147483647 < num d) : valZ d f = (0, 0, 2) := by
  have h1 := num_lt f ha
  unfold valZ
  rw [num_append]
  have := whole_big (n := (num d : Int)) (F := (num f : Int)) (T := ((10 ^ f.length : Nat) : Int)) (ten_pos _) (by omega) (by omega)
  push_cast at this ⊢
  exact this
end Go.Proofs.YtggiljlndenjoaaDoor.RatM
