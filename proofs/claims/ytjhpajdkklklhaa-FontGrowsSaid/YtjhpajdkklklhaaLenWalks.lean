/- Contracts of the integer functions of package length and of its reference: what each returns, for every argument in its range; the world is as it was, but for draws in length.round. -/
import Derived.Test.YtjhpajdkklklhaaRows
import Derived.Test.YtjhpajdkklklhaaMath
import Derived.WalkKit
import Derived.ProofKit
import Derived.Deep.QuietTactic
import Derived.BigQuiet
import Derived.Lib.Hide
namespace Go.Proofs.Ytjhpajdkklklhaa.Len
open Go Go.RowKit

theorem ret_int {k : IntKind} {a b : Int} (h : a = b) : Ending.returned (.int k a) = .returned (.int k b) := by rw [h]
/-- length.abs -/
theorem abs_any (n : Int) (w : World) (h1 : -4611686018427387904 ≤ n) (h2 : n ≤ 4611686018427387904) :
    Calls Try.prog 56 #[.int .i64 n] w fun e w' => e = .returned (.int .i64 (absZ n)) ∧ w' = w := by
  by_cases h : n < 0
  all_goals
    go_enter Try.func56, Try.ntmps56
    go_wp2
    go_ret
    exact ⟨ret_int (by unfold absZ; split <;> omega), rfl⟩
theorem fin_drewN {w : World} {n : Nat} {a b : Int} (h : a = b) : Ending.returned (.int .i64 a) = .returned (.int .i64 b) ∧ ∃ m, w.drewN n = w.drewN m := ⟨by rw [h], n, rfl⟩

theorem pick_ne {a b : Bool} {x y : Int} (h : (!a == b) = true) : (if a = b then x else y) = y := by cases a <;> cases b <;> simp_all
theorem pick_eq {a b : Bool} {x y : Int} (h : (!a == b) = false) : (if a = b then x else y) = x := by cases a <;> cases b <;> simp_all
/-- length.round -/
theorem round_any (p q : Int) (w : World) (hp : -2305843009213693952 ≤ p) (hp2 : p ≤ 2305843009213693952) (hq : q ≠ 0) (hq1 : -1073741824 ≤ q) (hq2 : q ≤ 1073741824) :
    Calls Try.prog 53 #[.int .i64 p, .int .i64 q] w fun e w' => e = .returned (.int .i64 (rnd p q)) ∧ ∃ n, w' = w.drewN n := by
  have t1 := tdiv_bd (q := q) hp hp2
  have t2 := tmod_bd (p := p) hq1 hq2 hq
  have t3 := absZ_le t2.1 t2.2
  have t4 := absZ_le hq1 hq2
  obtain ⟨t11, t12⟩ := t1
  obtain ⟨t21, t22⟩ := t2
  obtain ⟨t31, t32⟩ := t3
  obtain ⟨t41, t42⟩ := t4
  by_cases h : 2 * absZ (p.tmod q) < absZ q
  · have fin := Lib.hid (rnd_small hq h)
    have hd : decide (2 * absZ (p.tmod q) < absZ q) = true := by simpa using h
    clear h
    go_enter Try.func53, Try.ntmps53
    go_wp2
    go_quiet (fail)
    go_wp2_with (go_at_call 56; refine (abs_any _ _ (by omega) (by omega)).mono ?_; rintro e w' ⟨rfl, rfl⟩)
    go_ret
    exact fin_drewN fin.out.symm
  · have fin := Lib.hid (rnd_big hq h)
    have hd : decide (2 * absZ (p.tmod q) < absZ q) = false := by simpa using h
    clear h
    go_enter Try.func53, Try.ntmps53
    go_wp2
    go_quiet (fail)
    go_wp2_with (go_at_call 56; refine (abs_any _ _ (by omega) (by omega)).mono ?_; rintro e w' ⟨rfl, rfl⟩)
    · have hs : (!decide (p < 0) == decide (q < 0)) = true := by assumption
      go_ret
      exact fin_drewN (by rw [fin.out, pick_ne hs])
    · have hs : (!decide (p < 0) == decide (q < 0)) = false := by assumption
      go_ret
      exact fin_drewN (by rw [fin.out, pick_eq hs])

/-- length.Valid, and the reference's -/
theorem valid_any (n : Int) (w : World) : Calls Try.prog 52 #[.int .i64 n] w fun e w' => e = .returned (.bool (validZ n)) ∧ w' = w := by
  by_cases h1 : -1073741824 ≤ n <;> by_cases h2 : n ≤ 1073741824
  all_goals
    go_enter Try.func52, Try.ntmps52
    go_wp2
    go_ret
    exact ⟨by simp [validZ, h1, h2]; try omega, rfl⟩
end Go.Proofs.Ytjhpajdkklklhaa.Len
