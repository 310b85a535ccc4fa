/- Contracts of Half, Scale and MulDiv of package length, and of the reference's: the specified result for every argument. -/
import Derived.Test.YtjhpajdkklklhaaLenWalks
namespace Go.Proofs.Ytjhpajdkklklhaa.Len
open Go Go.RowKit

theorem ret_same {w : World} {a b : Int} (h : a = b) : Ending.returned (.int .i64 a) = .returned (.int .i64 b) ∧ ∃ m, w = w.drewN m := ⟨by rw [h], 0, rfl⟩

/-- length.Scale -/
theorem scale_any (n p : Int) (w : World) :
    Calls Try.prog 42 #[.int .i64 n, .int .i64 p] w fun e w' => e = .returned (.int .i64 (scaleZ n p)) ∧ ∃ m, w' = w.drewN m := by
  by_cases h : validZ n = true ∧ 0 ≤ p ∧ p ≤ 10000
  · have fin := Lib.hid (show scaleZ n p = rnd (n * p) 100 by simp [scaleZ, h])
    obtain ⟨hv, hp1, hp2⟩ := h
    obtain ⟨hb1, hb2⟩ := valid_bd hv
    obtain ⟨hm1, hm2⟩ := mul_bd (A := 1073741824) (B := 10000) hb1 hb2 (by omega) hp2
    go_enter Try.func42, Try.ntmps42
    go_wp2_with (first | (go_at_call 52; refine (valid_any _ _).mono ?_; rintro e w' ⟨rfl, rfl⟩) | (go_at_call 53; refine (round_any _ _ _ (by omega) (by omega) (by omega) (by omega) (by omega)).mono ?_; rintro e w' ⟨rfl, m, rfl⟩))
    go_ret
    exact fin_drewN fin.out.symm
  · have fin := Lib.hid (show scaleZ n p = 0 by rw [scaleZ, if_neg h])
    cases hv : validZ n with
    | false =>
      clear h
      by_cases hp1 : p < 0 <;> by_cases hp2 : 10000 < p
      all_goals
        go_enter Try.func42, Try.ntmps42
        go_wp2_with (go_at_call 52; refine (valid_any _ _).mono ?_; rintro e w' ⟨rfl, rfl⟩)
        go_ret
        exact ret_same fin.out.symm
    | true =>
      have h3 : p < 0 ∨ 10000 < p := by
        simp only [hv, true_and] at h; omega
      clear h
      rcases h3 with hp1 | hp1
      all_goals
        go_enter Try.func42, Try.ntmps42
        go_wp2_with (go_at_call 52; refine (valid_any _ _).mono ?_; rintro e w' ⟨rfl, rfl⟩)
        go_ret
        exact ret_same fin.out.symm
end Go.Proofs.Ytjhpajdkklklhaa.Len
