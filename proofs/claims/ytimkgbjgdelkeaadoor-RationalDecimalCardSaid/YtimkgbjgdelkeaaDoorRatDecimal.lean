/- Plain facts on the decimals of small numbers: what is read of them is the sum of the whole part and the digits over a power of ten. -/
import Derived.Test.YtimkgbjgdelkeaaDoorRatParse2
import Derived.Test.YtimkgbjgdelkeaaDoorRatBds
namespace Go.Proofs.YtimkgbjgdelkeaaDoor.RatM
open Go Go.RowKit Len

theorem dec_len_pow (k : Nat) : ∀ u : Nat, 1 ≤ k → u < 10 ^ k → (Lib.decDigits u).length ≤ k := by
  induction k with
  | zero => intro u h; omega
  | succ k ih =>
    intro u _ hu
    by_cases h : u < 10
    · rw [dec_small h]; simp
    · rw [dec_big h, List.length_append, List.length_singleton]
      have hk : 1 ≤ k := by
        rcases Nat.eq_zero_or_pos k with rfl | h'
        · simp at hu; omega
        · exact h'
      have := ih (u / 10) hk (by rw [Nat.pow_succ] at hu; omega)
      omega
/-- The digits behind the point. -/
def fracL (k f : Nat) : List UInt8 := List.replicate k 48 ++ Lib.decDigits f
theorem fracL_len {k f : Nat} (hk : k ≤ 2) (hf : f ≤ 65535) : (fracL k f).length ≤ 7 := by
  have := dec_len_pow 5 f (by omega) (by omega)
  unfold fracL
  rw [List.length_append, List.length_replicate]; omega
theorem fracL_dig (k f : Nat) : digB (fracL k f) = true := by
  unfold digB fracL
  rw [List.all_append, dec_isD, Bool.and_true, Bool.and_eq_true]
  refine ⟨List.all_eq_true.2 fun x hx => ?_, ?_⟩
  · rw [List.eq_of_mem_replicate hx]; decide
  · have := dec_ne f
    cases h : Lib.decDigits f with
    | nil => exact absurd h this
    | cons c r => simp
theorem num_zeros (k : Nat) (l : List UInt8) : num (List.replicate k 48 ++ l) = num l := by
  induction k with
  | zero => rfl
  | succ k ih => rw [List.replicate_succ, List.cons_append, num_cons, ih]; simp
theorem num_fracL (k f : Nat) : num (fracL k f) = f := by unfold fracL; rw [num_zeros, num_dec]
theorem fracL_succ (k f : Nat) : fracL (k + 1) f = 48 :: fracL k f := by unfold fracL; rw [List.replicate_succ]; rfl
theorem fracL_zero (f : Nat) : fracL 0 f = Lib.decDigits f := rfl

theorem parse_dec {w k f : Nat} (hw : w ≤ 65535) (hk : k ≤ 2) (hf : f ≤ 65535) : parseZ (Lib.decDigits w ++ 46 :: fracL k f) = valZ (Lib.decDigits w) (fracL k f) := by
  have l1 := dec_len_pow 5 w (by omega) (by omega)
  have l2 := fracL_len hk hf
  have dw : digB (Lib.decDigits w) = true := by
    unfold digB; rw [dec_isD, Bool.true_and]
    have := dec_ne w
    cases h : Lib.decDigits w with
    | nil => exact absurd h this
    | cons c r => rfl
  unfold parseZ
  rw [cut_some _ _ (dec_isD w)]
  simp only
  rw [dw, fracL_dig, if_neg (by simp; omega)]
theorem dec_sum {w f L : Nat} (hw : w ≤ 65535) (hf : f ≤ 65535) (hL : L ≤ 7) : (makeZ (f : Int) ((10 ^ L : Nat) : Int)).2.2 = 0 ∧
    opZ 0 (makeZ (f : Int) ((10 ^ L : Nat) : Int)) ((w : Int), 1, 0) = repr (Rat.divInt ((w * 10 ^ L + f : Nat) : Int) ((10 ^ L : Nat) : Int)) := by
  have hT : 10 ^ L ≤ 10 ^ 7 := Nat.pow_le_pow_right (by omega) hL
  have hT0 : 0 < 10 ^ L := Nat.pow_pos (by decide)
  have hne : ((10 ^ L : Nat) : Int) ≠ 0 := by omega
  have e0 : (makeZ (f : Int) ((10 ^ L : Nat) : Int)).2.2 = 0 := by
    rw [makeZ, if_neg hne]
    exact repr_small hne (by omega) (by omega)
  refine ⟨e0, ?_⟩
  have hv : validR (w : Int) 1 = true := decide_eq_true ⟨by omega, by omega, by omega, by omega, by simp⟩
  rw [op_add e0 rfl]
  rw [makeZ, if_neg hne] at e0 ⊢
  obtain ⟨v, e⟩ := repr_ok e0
  show addZ _ _ (w : Int) 1 = _
  rw [addZ, if_pos ⟨v, hv⟩, e, Rat.divInt_add_divInt _ _ hne (by omega)]
  congr 2
  · push_cast; omega
  · omega
theorem dec_all {w k f : Nat} (hw : w ≤ 65535) (hk : k ≤ 2) (hf : f ≤ 65535) :
    opZ 0 (makeZ (f : Int) ((10 ^ (fracL k f).length : Nat) : Int)) ((w : Int), 1, 0) = parseZ (Lib.decDigits w ++ 46 :: fracL k f) := by
  rw [parse_dec hw hk hf, valZ, num_append, num_dec, num_fracL]
  exact (dec_sum hw hf (fracL_len hk hf)).2
theorem text_nat (f : Nat) (hf : f ≤ 65535) : textR (f : Int) 1 = Lib.decDigits f := by
  have hv : validR (f : Int) 1 = true := decide_eq_true ⟨by omega, by omega, by omega, by omega, by simp⟩
  rw [textR, if_pos hv, if_pos rfl, itoa_nat]
theorem textnat_any (f : Nat) (w : World) (hf : f ≤ 65535) (hT : Tabs w) :
    Calls Tryd.prog 17 #[.agg #[.int .i64 f, .int .i64 1]] w fun e w' => e = .returned (.string ⟨(Lib.decDigits f).toArray⟩) ∧ Below w.heap.size w w' := by
  have := reftext_any (f : Int) 1 w ⟨by omega, by omega⟩ ⟨by omega, by omega⟩ hT
  rw [text_nat f hf] at this
  exact this
end Go.Proofs.YtimkgbjgdelkeaaDoor.RatM
