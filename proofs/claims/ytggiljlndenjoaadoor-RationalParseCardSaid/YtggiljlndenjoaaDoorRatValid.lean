/- Contracts of Valid, reduce and Make of package rational, and of the reference's. -/
import Derived.Test.YtggiljlndenjoaaDoorRatWalks
import Derived.Deep.DeepFit
namespace Go.Proofs.YtggiljlndenjoaaDoor.RatM
open Go Go.RowKit

theorem bcell {W w1 : World} (hb : Below W.heap.size W w1) : (∀ b o, b < W.heap.size → w1.cell? ⟨b, o, none⟩ = W.cell? ⟨b, o, none⟩) ∧ (∀ b o, b < W.heap.size → w1.frozen? ⟨b, o, none⟩ = W.frozen? ⟨b, o, none⟩) :=
  ⟨fun b o h => hb.cell (p := ⟨b, o, none⟩) h, fun b o h => hb.frozen (p := ⟨b, o, none⟩) h⟩
theorem ret_bool {a b : Bool} (h : a = b) : Ending.returned (.bool a) = .returned (.bool b) := by rw [h]

theorem valid_no {n d : Int} (h : n < -2147483647 ∨ 2147483647 < n ∨ d < 1 ∨ 2147483647 < d) : validR n d = false := decide_eq_false (by omega)
theorem valid_gcd {n d : Int} (h1 : -2147483647 ≤ n) (h2 : n ≤ 2147483647) (h3 : 1 ≤ d) (h4 : d ≤ 2147483647) : validR n d = ((Nat.gcd n.natAbs d.natAbs : Int) == 1) := by
  rw [Bool.eq_iff_iff, beq_iff_eq]
  constructor
  · intro h; have := (valid_parts h).2.2.2.2; omega
  · intro h; exact decide_eq_true ⟨h3, h4, h1, h2, by omega⟩

/-- rational.Valid -/
theorem valid_any (n d : Int) (w : World) (hn1 : -9223372036854775808 ≤ n) (hn2 : n ≤ 9223372036854775807) (hd1 : -9223372036854775808 ≤ d) (hd2 : d ≤ 9223372036854775807) :
    Calls Tryd.prog 34 #[.agg #[.int .i64 n, .int .i64 d]] w fun e w' => e = .returned (.bool (validR n d)) ∧ Below w.heap.size w w' := by
  by_cases h : n < -2147483647 ∨ 2147483647 < n ∨ d < 1 ∨ 2147483647 < d
  · have fin := Lib.hid (valid_no h)
    have h' : n < -2147483647 ∨ (-2147483647 ≤ n ∧ 2147483647 < n) ∨ (-2147483647 ≤ n ∧ n ≤ 2147483647 ∧ d < 1) ∨ (-2147483647 ≤ n ∧ n ≤ 2147483647 ∧ 1 ≤ d ∧ 2147483647 < d) := by omega
    clear h
    rcases h' with h1 | ⟨h1, h2⟩ | ⟨h1, h2, h3⟩ | ⟨h1, h2, h3, h4⟩
    all_goals
      go_enter Tryd.func34, Tryd.ntmps34
      go_wp2
      go_ret
      exact ⟨ret_bool fin.out.symm, (Below.refl _ _).alloc (Nat.le_refl _) _⟩
  · have fin := Lib.hid (valid_gcd (n := n) (d := d) (by omega) (by omega) (by omega) (by omega))
    have h1 : -2147483647 ≤ n := by omega
    have h2 : n ≤ 2147483647 := by omega
    have h3 : 1 ≤ d := by omega
    have h4 : d ≤ 2147483647 := by omega
    clear h
    go_enter Tryd.func34, Tryd.ntmps34
    go_wp2
    go_quiet (first
      | (go_at_call 45; exact Calls.quiet_of_same ((mag_any _ _ (by omega) (by omega)).mono fun _ _ h => ⟨h.1, h.2.symm⟩))
      | (go_at_call 46; exact Calls.quiet_of (gcd_any _ _ _ (by omega) (by omega))))
    go_wp2
    go_ret
    exact ⟨ret_bool fin.out.symm, below_drewN ((Below.refl _ _).alloc (Nat.le_refl _) _) _⟩

/-- the reference's Valid -/
theorem refvalid_any (n d : Int) (w : World) (hn1 : -9223372036854775808 ≤ n) (hn2 : n ≤ 9223372036854775807) (hd1 : -9223372036854775808 ≤ d) (hd2 : d ≤ 9223372036854775807) :
    Calls Tryd.prog 35 #[.agg #[.int .i64 n, .int .i64 d]] w fun e w' => e = .returned (.bool (validR n d)) ∧ Below w.heap.size w w' := by
  by_cases h : n < -2147483647 ∨ 2147483647 < n ∨ d < 1 ∨ 2147483647 < d
  · have fin := Lib.hid (valid_no h)
    have h' : (decide (1 ≤ d) = false) ∨ (1 ≤ d ∧ decide (d ≤ 2147483647) = false) ∨ (1 ≤ d ∧ d ≤ 2147483647 ∧ decide (-2147483647 ≤ n) = false) ∨ (1 ≤ d ∧ d ≤ 2147483647 ∧ -2147483647 ≤ n ∧ decide (n ≤ 2147483647) = false) := by
      simp only [decide_eq_false_iff_not]; omega
    clear h
    rcases h' with h1 | ⟨h1, h2⟩ | ⟨h1, h2, h3⟩ | ⟨h1, h2, h3, h4⟩
    all_goals
      go_enter Tryd.func35, Tryd.ntmps35
      go_wp2
      go_quiet (fail)
      go_wp2
      go_ret
      exact ⟨ret_bool fin.out.symm, below_drewN ((Below.refl _ _).alloc (Nat.le_refl _) _) _⟩
  · have fin := Lib.hid (valid_gcd (n := n) (d := d) (by omega) (by omega) (by omega) (by omega))
    have h1 : -2147483647 ≤ n := by omega
    have h2 : n ≤ 2147483647 := by omega
    have h3 : 1 ≤ d := by omega
    have h4 : d ≤ 2147483647 := by omega
    clear h
    go_enter Tryd.func35, Tryd.ntmps35
    go_wp2
    go_quiet (first
      | (go_at_call 50; exact Calls.quiet_of_same ((size_any _ _ (by omega) (by omega)).mono fun _ _ h => ⟨h.1, h.2.symm⟩))
      | (go_at_call 49; exact Calls.quiet_of (common_any _ _ _ (by omega) (by omega))))
    go_wp2
    go_ret
    exact ⟨ret_bool fin.out.symm, below_drewN ((Below.refl _ _).alloc (Nat.le_refl _) _) _⟩
end Go.Proofs.YtggiljlndenjoaaDoor.RatM
