/- Contracts of reduce and Make of package rational, and of quotient and Make of the reference. -/
import Derived.Test.YtggiljlndenjoaaDoorRatValid
namespace Go.Proofs.YtggiljlndenjoaaDoor.RatM
open Go Go.RowKit

/-- What a function that returns a number and an error returns. -/
def Ret (r : Res) (w : World) (e : Ending) (w' : World) : Prop := e = .returned (.tuple #[.agg #[.int .i64 r.1, .int .i64 r.2.1], .int .i64 r.2.2]) ∧ Below w.heap.size w w'
theorem ret_of {r : Res} {a b c : Int} {w w' : World} (h : r = (a, b, c)) (hb : Below w.heap.size w w') : Ret r w (.returned (.tuple #[.agg #[.int .i64 a, .int .i64 b], .int .i64 c])) w' := by subst h; exact ⟨rfl, hb⟩

theorem red_range {n d : Int} (hd : d ≠ 0) (h : 2147483647 < (n.natAbs : Int) / (Nat.gcd n.natAbs d.natAbs : Int) ∨ 2147483647 < (d.natAbs : Int) / (Nat.gcd n.natAbs d.natAbs : Int)) : repr (Rat.divInt n d) = (0, 0, 2) :=
  repr_range hd (by omega)
theorem red_same {n d : Int} (hd : d ≠ 0) (h1 : (n.natAbs : Int) / (Nat.gcd n.natAbs d.natAbs : Int) ≤ 2147483647) (h2 : (d.natAbs : Int) / (Nat.gcd n.natAbs d.natAbs : Int) ≤ 2147483647) (hs : (n < 0 ∧ d < 0) ∨ (0 ≤ n ∧ 0 ≤ d)) :
    repr (Rat.divInt n d) = ((n.natAbs : Int) / (Nat.gcd n.natAbs d.natAbs : Int), (d.natAbs : Int) / (Nat.gcd n.natAbs d.natAbs : Int), 0) := by
  rw [repr_in hd (by omega) (by omega), if_pos (by rw [decide_eq_decide]; omega)]; rfl
theorem red_diff {n d : Int} (hd : d ≠ 0) (h1 : (n.natAbs : Int) / (Nat.gcd n.natAbs d.natAbs : Int) ≤ 2147483647) (h2 : (d.natAbs : Int) / (Nat.gcd n.natAbs d.natAbs : Int) ≤ 2147483647) (hs : (n < 0 ∧ 0 ≤ d) ∨ (0 ≤ n ∧ d < 0)) :
    repr (Rat.divInt n d) = (-((n.natAbs : Int) / (Nat.gcd n.natAbs d.natAbs : Int)), (d.natAbs : Int) / (Nat.gcd n.natAbs d.natAbs : Int), 0) := by
  rw [repr_in hd (by omega) (by omega), if_neg (by rw [decide_eq_decide]; omega)]; rfl

/-- The facts that a walk of a reduction wants. -/
theorem quo_facts (p g : Nat) (hp : p ≤ 9223372036854775808) : 0 ≤ (p : Int) / (g : Int) ∧ (p : Int) / (g : Int) ≤ 9223372036854775808 ∧ IntKind.u64.wrap ((p : Int) / (g : Int)) = (p : Int) / (g : Int) := by
  have h0 : 0 ≤ (p : Int) / (g : Int) := Int.ediv_nonneg (by omega) (by omega)
  have h1 : (p : Int) / (g : Int) ≤ p := Int.ediv_le_self _ (by omega)
  exact ⟨h0, by omega, IntWalk.u64_in _ (by omega)⟩
theorem below_two {w : World} {a b x y : Value} {T : TypeId} (n : Nat) : Below w.heap.size w ((((w.alloc (.cells #[a, b] T)).drewN n).setCell ⟨w.heap.size, 0, none⟩ x).setCell ⟨w.heap.size, 1, none⟩ y) :=
  ((below_drewN ((Below.refl _ _).alloc (Nat.le_refl _) _) n).setCell (by simp) _).setCell (by simp) _

set_option maxHeartbeats 1000000 in
/-- rational.reduce, out of range -/
theorem reduce_out (n d : Int) (w : World) (hn1 : -9223372036854775808 ≤ n) (hn2 : n ≤ 9223372036854775807) (hd1 : -9223372036854775808 ≤ d) (hd2 : d ≤ 9223372036854775807) (hd : d ≠ 0)
    (h : 2147483647 < (n.natAbs : Int) / (Nat.gcd n.natAbs d.natAbs : Int) ∨ 2147483647 < (d.natAbs : Int) / (Nat.gcd n.natAbs d.natAbs : Int)) :
    Calls Tryd.prog 30 #[.int .i64 n, .int .i64 d] w (Ret (repr (Rat.divInt n d)) w) := by
  have hg0 : 0 < Nat.gcd n.natAbs d.natAbs := gcd_pos hd
  have hg : 1 ≤ (Nat.gcd n.natAbs d.natAbs : Int) := by omega
  obtain ⟨hp0, hp1, hp2⟩ := quo_facts n.natAbs (Nat.gcd n.natAbs d.natAbs) (by omega)
  obtain ⟨hq0, hq1, hq2⟩ := quo_facts d.natAbs (Nat.gcd n.natAbs d.natAbs) (by omega)
  have HP := Lib.hid hp2
  have HQ := Lib.hid hq2
  clear hp2 hq2
  have fin := Lib.hid (red_range hd h)
  have h' : 2147483647 < (n.natAbs : Int) / (Nat.gcd n.natAbs d.natAbs : Int) ∨ ((n.natAbs : Int) / (Nat.gcd n.natAbs d.natAbs : Int) ≤ 2147483647 ∧ 2147483647 < (d.natAbs : Int) / (Nat.gcd n.natAbs d.natAbs : Int)) := by omega
  clear h
  rcases h' with h1 | ⟨h1, h2⟩
  all_goals
      go_enter Tryd.func30, Tryd.ntmps30
      go_wp2_with (first
        | (go_at_call 45; refine (mag_any _ _ (by omega) (by omega)).mono ?_; rintro e w' ⟨rfl, rfl⟩)
        | (go_at_call 46; refine (gcd_any _ _ _ (by omega) (by omega)).mono ?_; rintro e w' ⟨rfl, nd, rfl⟩))
      have hp2 := HP.out
      have hq2 := HQ.out
      go_quiet (fail)
      clear hp2 hq2
      go_wp2
      exact bodyPost_ret (v := .tuple #[.agg #[.int .i64 0, .int .i64 0], .int .i64 2]) (by simp [results, Tryd.results30, go_sem]) rfl (ret_of fin.out (below_two _))

set_option maxHeartbeats 1000000 in
/-- rational.reduce, the same sign -/
theorem reduce_same (n d : Int) (w : World) (hn1 : -9223372036854775808 ≤ n) (hn2 : n ≤ 9223372036854775807) (hd1 : -9223372036854775808 ≤ d) (hd2 : d ≤ 9223372036854775807) (hd : d ≠ 0)
    (h1 : (n.natAbs : Int) / (Nat.gcd n.natAbs d.natAbs : Int) ≤ 2147483647) (h2 : (d.natAbs : Int) / (Nat.gcd n.natAbs d.natAbs : Int) ≤ 2147483647) (hs : (n < 0 ∧ d < 0) ∨ (0 ≤ n ∧ 0 ≤ d)) :
    Calls Tryd.prog 30 #[.int .i64 n, .int .i64 d] w (Ret (repr (Rat.divInt n d)) w) := by
  have hg0 : 0 < Nat.gcd n.natAbs d.natAbs := gcd_pos hd
  have hg : 1 ≤ (Nat.gcd n.natAbs d.natAbs : Int) := by omega
  obtain ⟨hp0, hp1, hp2⟩ := quo_facts n.natAbs (Nat.gcd n.natAbs d.natAbs) (by omega)
  obtain ⟨hq0, hq1, hq2⟩ := quo_facts d.natAbs (Nat.gcd n.natAbs d.natAbs) (by omega)
  have HP := Lib.hid hp2
  have HQ := Lib.hid hq2
  clear hp2 hq2
  have fin := Lib.hid (red_same hd h1 h2 hs)
  have hx : (!decide (n < 0) == decide (d < 0)) = false := by
    rcases hs with ⟨s1, s2⟩ | ⟨s1, s2⟩
    · rw [decide_eq_true s1, decide_eq_true s2]; rfl
    · rw [decide_eq_false (by omega), decide_eq_false (by omega)]; rfl
  clear hs
  go_enter Tryd.func30, Tryd.ntmps30
  go_wp2_with (first
    | (go_at_call 45; refine (mag_any _ _ (by omega) (by omega)).mono ?_; rintro e w' ⟨rfl, rfl⟩)
    | (go_at_call 46; refine (gcd_any _ _ _ (by omega) (by omega)).mono ?_; rintro e w' ⟨rfl, nd, rfl⟩))
  have hp2 := HP.out
  have hq2 := HQ.out
  go_quiet (fail)
  clear hp2 hq2
  go_wp2
  exact bodyPost_ret (v := .tuple #[.agg #[.int .i64 ((n.natAbs : Int) / (Nat.gcd n.natAbs d.natAbs : Int)), .int .i64 ((d.natAbs : Int) / (Nat.gcd n.natAbs d.natAbs : Int))], .int .i64 0]) (by simp [results, Tryd.results30, go_sem]) rfl (ret_of fin.out (below_two _))

set_option maxHeartbeats 1000000 in
/-- rational.reduce, different signs -/
theorem reduce_diff (n d : Int) (w : World) (hn1 : -9223372036854775808 ≤ n) (hn2 : n ≤ 9223372036854775807) (hd1 : -9223372036854775808 ≤ d) (hd2 : d ≤ 9223372036854775807) (hd : d ≠ 0)
    (h1 : (n.natAbs : Int) / (Nat.gcd n.natAbs d.natAbs : Int) ≤ 2147483647) (h2 : (d.natAbs : Int) / (Nat.gcd n.natAbs d.natAbs : Int) ≤ 2147483647) (hs : (n < 0 ∧ 0 ≤ d) ∨ (0 ≤ n ∧ d < 0)) :
    Calls Tryd.prog 30 #[.int .i64 n, .int .i64 d] w (Ret (repr (Rat.divInt n d)) w) := by
  have hg0 : 0 < Nat.gcd n.natAbs d.natAbs := gcd_pos hd
  have hg : 1 ≤ (Nat.gcd n.natAbs d.natAbs : Int) := by omega
  obtain ⟨hp0, hp1, hp2⟩ := quo_facts n.natAbs (Nat.gcd n.natAbs d.natAbs) (by omega)
  obtain ⟨hq0, hq1, hq2⟩ := quo_facts d.natAbs (Nat.gcd n.natAbs d.natAbs) (by omega)
  have HP := Lib.hid hp2
  have HQ := Lib.hid hq2
  clear hp2 hq2
  have fin := Lib.hid (red_diff hd h1 h2 hs)
  have hx : (!decide (n < 0) == decide (d < 0)) = true := by
    rcases hs with ⟨s1, s2⟩ | ⟨s1, s2⟩
    · rw [decide_eq_true s1, decide_eq_false (by omega)]; rfl
    · rw [decide_eq_false (by omega), decide_eq_true s2]; rfl
  clear hs
  go_enter Tryd.func30, Tryd.ntmps30
  go_wp2_with (first
    | (go_at_call 45; refine (mag_any _ _ (by omega) (by omega)).mono ?_; rintro e w' ⟨rfl, rfl⟩)
    | (go_at_call 46; refine (gcd_any _ _ _ (by omega) (by omega)).mono ?_; rintro e w' ⟨rfl, nd, rfl⟩))
  have hp2 := HP.out
  have hq2 := HQ.out
  go_quiet (fail)
  clear hp2 hq2
  go_wp2
  exact bodyPost_ret (v := .tuple #[.agg #[.int .i64 (-((n.natAbs : Int) / (Nat.gcd n.natAbs d.natAbs : Int))), .int .i64 ((d.natAbs : Int) / (Nat.gcd n.natAbs d.natAbs : Int))], .int .i64 0]) (by simp [results, Tryd.results30, go_sem]) rfl (ret_of fin.out (below_two _))

/-- rational.reduce -/
theorem reduce_any (n d : Int) (w : World) (hn1 : -9223372036854775808 ≤ n) (hn2 : n ≤ 9223372036854775807) (hd1 : -9223372036854775808 ≤ d) (hd2 : d ≤ 9223372036854775807) (hd : d ≠ 0) :
    Calls Tryd.prog 30 #[.int .i64 n, .int .i64 d] w (Ret (repr (Rat.divInt n d)) w) := by
  by_cases h : 2147483647 < (n.natAbs : Int) / (Nat.gcd n.natAbs d.natAbs : Int) ∨ 2147483647 < (d.natAbs : Int) / (Nat.gcd n.natAbs d.natAbs : Int)
  · exact reduce_out n d w hn1 hn2 hd1 hd2 hd h
  · by_cases hs : (n < 0 ∧ d < 0) ∨ (0 ≤ n ∧ 0 ≤ d)
    · exact reduce_same n d w hn1 hn2 hd1 hd2 hd (by omega) (by omega) hs
    · exact reduce_diff n d w hn1 hn2 hd1 hd2 hd (by omega) (by omega) (by omega)
end Go.Proofs.YtggiljlndenjoaaDoor.RatM
