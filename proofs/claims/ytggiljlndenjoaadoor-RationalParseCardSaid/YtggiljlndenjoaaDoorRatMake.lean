/- Contracts of Make of package rational, and of quotient and Make of the reference. -/
import Derived.Test.YtggiljlndenjoaaDoorRatReduce
namespace Go.Proofs.YtggiljlndenjoaaDoor.RatM
open Go Go.RowKit

theorem reduce_ret {n d : Int} {r : Res} (hr : Hid (repr (Rat.divInt n d) = r)) (w : World) (hn1 : -9223372036854775808 ≤ n) (hn2 : n ≤ 9223372036854775807) (hd1 : -9223372036854775808 ≤ d) (hd2 : d ≤ 9223372036854775807) (hd : d ≠ 0) :
    Calls Tryd.prog 30 #[.int .i64 n, .int .i64 d] w (Ret r w) := hr.out ▸ reduce_any n d w hn1 hn2 hd1 hd2 hd
theorem below_set {w w1 : World} {o : Obj} {x y : Value} (hb : Below (w.alloc o).heap.size (w.alloc o) w1) : Below w.heap.size w ((w1.setCell ⟨w.heap.size, 0, none⟩ x).setCell ⟨w.heap.size, 1, none⟩ y) :=
  ((((Below.refl _ _).alloc (Nat.le_refl _) _).trans (hb.mono (by simp))).setCell (by simp) _).setCell (by simp) _

/-- rational.Make -/
theorem make_any (n d : Int) (w : World) (hn1 : -9223372036854775808 ≤ n) (hn2 : n ≤ 9223372036854775807) (hd1 : -9223372036854775808 ≤ d) (hd2 : d ≤ 9223372036854775807) :
    Calls Tryd.prog 24 #[.int .i64 n, .int .i64 d] w (Ret (makeZ n d) w) := by
  by_cases h : d = 0
  · have fin : Hid (makeZ n d = (0, 0, 10)) := Lib.hid (by rw [makeZ, if_pos h])
    have h1 : (d == 0) = true := by simp [h]
    clear h
    go_enter Tryd.func24, Tryd.ntmps24
    go_wp2
    exact bodyPost_ret (v := .tuple #[.agg #[.int .i64 0, .int .i64 0], .int .i64 10]) (by simp [results, Tryd.results24, go_sem]) rfl (ret_of fin.out ((Below.refl _ _).alloc (Nat.le_refl _) _))
  · obtain ⟨r, hr⟩ : ∃ r, makeZ n d = r := ⟨_, rfl⟩
    rw [hr]
    have HR : Hid (repr (Rat.divInt n d) = r) := Lib.hid (by rw [← hr, makeZ, if_neg h])
    clear hr
    have h1 : (d == 0) = false := by simp [h]
    go_enter Tryd.func24, Tryd.ntmps24
    go_wp2_with fail
    refine (reduce_ret HR _ hn1 hn2 hd1 hd2 h).mono ?_
    rintro e w1 ⟨rfl, hb⟩
    obtain ⟨hc, hf⟩ := bcell hb
    go_wp2
    exact bodyPost_ret (v := .tuple #[.agg #[.int .i64 r.1, .int .i64 r.2.1], .int .i64 r.2.2]) (by simp [results, Tryd.results24, go_sem, hc]) rfl ⟨rfl, below_set hb⟩

/-! the reference -/
set_option maxHeartbeats 1000000 in
/-- the reference's quotient, out of range -/
theorem quot_out (n d : Int) (w : World) (hn1 : -9223372036854775808 ≤ n) (hn2 : n ≤ 9223372036854775807) (hd1 : -9223372036854775808 ≤ d) (hd2 : d ≤ 9223372036854775807) (hd : d ≠ 0)
    (h : 2147483647 < (n.natAbs : Int) / (Nat.gcd n.natAbs d.natAbs : Int) ∨ 2147483647 < (d.natAbs : Int) / (Nat.gcd n.natAbs d.natAbs : Int)) :
    Calls Tryd.prog 51 #[.bool (!decide (n < 0) == decide (d < 0)), .int .u64 (n.natAbs : Nat), .int .u64 (d.natAbs : Nat)] w (Ret (repr (Rat.divInt n d)) w) := by
  have hg0 : 0 < Nat.gcd n.natAbs d.natAbs := gcd_pos hd
  have hg : 1 ≤ (Nat.gcd n.natAbs d.natAbs : Int) := by omega
  obtain ⟨hp0, hp1, hp2⟩ := quo_facts n.natAbs (Nat.gcd n.natAbs d.natAbs) (by omega)
  obtain ⟨hq0, hq1, hq2⟩ := quo_facts d.natAbs (Nat.gcd n.natAbs d.natAbs) (by omega)
  have HP := Lib.hid hp2
  have HQ := Lib.hid hq2
  clear hp2 hq2
  have fin := Lib.hid (red_range hd h)
  have h' : 2147483647 < (n.natAbs : Int) / (Nat.gcd n.natAbs d.natAbs : Int) ∨ ((n.natAbs : Int) / (Nat.gcd n.natAbs d.natAbs : Int) ≤ 2147483647 ∧ 2147483647 < (d.natAbs : Int) / (Nat.gcd n.natAbs d.natAbs : Int)) := by omega
  clear h
  rcases h' with h1 | ⟨h1, h2⟩
  all_goals
      go_enter Tryd.func51, Tryd.ntmps51
      go_wp2_with (go_at_call 49; refine (common_any _ _ _ (by omega) (by omega)).mono ?_; rintro e w' ⟨rfl, nd, rfl⟩)
      have hp2 := HP.out
      have hq2 := HQ.out
      go_quiet (fail)
      clear hp2 hq2
      go_wp2
      exact bodyPost_ret (v := .tuple #[.agg #[.int .i64 0, .int .i64 0], .int .i64 2]) (by simp [results, Tryd.results51, go_sem]) rfl (ret_of fin.out (below_two _))

set_option maxHeartbeats 1000000 in
/-- the reference's quotient, the same sign -/
theorem quot_same (n d : Int) (w : World) (hn1 : -9223372036854775808 ≤ n) (hn2 : n ≤ 9223372036854775807) (hd1 : -9223372036854775808 ≤ d) (hd2 : d ≤ 9223372036854775807) (hd : d ≠ 0)
    (h1 : (n.natAbs : Int) / (Nat.gcd n.natAbs d.natAbs : Int) ≤ 2147483647) (h2 : (d.natAbs : Int) / (Nat.gcd n.natAbs d.natAbs : Int) ≤ 2147483647) (hs : (n < 0 ∧ d < 0) ∨ (0 ≤ n ∧ 0 ≤ d)) :
    Calls Tryd.prog 51 #[.bool (!decide (n < 0) == decide (d < 0)), .int .u64 (n.natAbs : Nat), .int .u64 (d.natAbs : Nat)] w (Ret (repr (Rat.divInt n d)) w) := by
  have hg0 : 0 < Nat.gcd n.natAbs d.natAbs := gcd_pos hd
  have hg : 1 ≤ (Nat.gcd n.natAbs d.natAbs : Int) := by omega
  obtain ⟨hp0, hp1, hp2⟩ := quo_facts n.natAbs (Nat.gcd n.natAbs d.natAbs) (by omega)
  obtain ⟨hq0, hq1, hq2⟩ := quo_facts d.natAbs (Nat.gcd n.natAbs d.natAbs) (by omega)
  have HP := Lib.hid hp2
  have HQ := Lib.hid hq2
  clear hp2 hq2
  have fin := Lib.hid (red_same hd h1 h2 hs)
  have hx : (!decide (n < 0) == decide (d < 0)) = false := by
    rcases hs with ⟨s1, s2⟩ | ⟨s1, s2⟩
    · rw [decide_eq_true s1, decide_eq_true s2]; rfl
    · rw [decide_eq_false (by omega), decide_eq_false (by omega)]; rfl
  clear hs
  go_enter Tryd.func51, Tryd.ntmps51
  go_wp2_with (go_at_call 49; refine (common_any _ _ _ (by omega) (by omega)).mono ?_; rintro e w' ⟨rfl, nd, rfl⟩)
  have hp2 := HP.out
  have hq2 := HQ.out
  go_quiet (fail)
  clear hp2 hq2
  go_wp2
  exact bodyPost_ret (v := .tuple #[.agg #[.int .i64 ((n.natAbs : Int) / (Nat.gcd n.natAbs d.natAbs : Int)), .int .i64 ((d.natAbs : Int) / (Nat.gcd n.natAbs d.natAbs : Int))], .int .i64 0]) (by simp [results, Tryd.results51, go_sem]) rfl (ret_of fin.out (below_two _))

set_option maxHeartbeats 1000000 in
/-- the reference's quotient, different signs -/
theorem quot_diff (n d : Int) (w : World) (hn1 : -9223372036854775808 ≤ n) (hn2 : n ≤ 9223372036854775807) (hd1 : -9223372036854775808 ≤ d) (hd2 : d ≤ 9223372036854775807) (hd : d ≠ 0)
    (h1 : (n.natAbs : Int) / (Nat.gcd n.natAbs d.natAbs : Int) ≤ 2147483647) (h2 : (d.natAbs : Int) / (Nat.gcd n.natAbs d.natAbs : Int) ≤ 2147483647) (hs : (n < 0 ∧ 0 ≤ d) ∨ (0 ≤ n ∧ d < 0)) :
    Calls Tryd.prog 51 #[.bool (!decide (n < 0) == decide (d < 0)), .int .u64 (n.natAbs : Nat), .int .u64 (d.natAbs : Nat)] w (Ret (repr (Rat.divInt n d)) w) := by
  have hg0 : 0 < Nat.gcd n.natAbs d.natAbs := gcd_pos hd
  have hg : 1 ≤ (Nat.gcd n.natAbs d.natAbs : Int) := by omega
  obtain ⟨hp0, hp1, hp2⟩ := quo_facts n.natAbs (Nat.gcd n.natAbs d.natAbs) (by omega)
  obtain ⟨hq0, hq1, hq2⟩ := quo_facts d.natAbs (Nat.gcd n.natAbs d.natAbs) (by omega)
  have HP := Lib.hid hp2
  have HQ := Lib.hid hq2
  clear hp2 hq2
  have fin := Lib.hid (red_diff hd h1 h2 hs)
  have hx : (!decide (n < 0) == decide (d < 0)) = true := by
    rcases hs with ⟨s1, s2⟩ | ⟨s1, s2⟩
    · rw [decide_eq_true s1, decide_eq_false (by omega)]; rfl
    · rw [decide_eq_false (by omega), decide_eq_true s2]; rfl
  clear hs
  go_enter Tryd.func51, Tryd.ntmps51
  go_wp2_with (go_at_call 49; refine (common_any _ _ _ (by omega) (by omega)).mono ?_; rintro e w' ⟨rfl, nd, rfl⟩)
  have hp2 := HP.out
  have hq2 := HQ.out
  go_quiet (fail)
  clear hp2 hq2
  go_wp2
  exact bodyPost_ret (v := .tuple #[.agg #[.int .i64 (-((n.natAbs : Int) / (Nat.gcd n.natAbs d.natAbs : Int))), .int .i64 ((d.natAbs : Int) / (Nat.gcd n.natAbs d.natAbs : Int))], .int .i64 0]) (by simp [results, Tryd.results51, go_sem]) rfl (ret_of fin.out (below_two _))

/-- the reference's quotient -/
theorem quot_any (n d : Int) (w : World) (hn1 : -9223372036854775808 ≤ n) (hn2 : n ≤ 9223372036854775807) (hd1 : -9223372036854775808 ≤ d) (hd2 : d ≤ 9223372036854775807) (hd : d ≠ 0) :
    Calls Tryd.prog 51 #[.bool (!decide (n < 0) == decide (d < 0)), .int .u64 (n.natAbs : Nat), .int .u64 (d.natAbs : Nat)] w (Ret (repr (Rat.divInt n d)) w) := by
  by_cases h : 2147483647 < (n.natAbs : Int) / (Nat.gcd n.natAbs d.natAbs : Int) ∨ 2147483647 < (d.natAbs : Int) / (Nat.gcd n.natAbs d.natAbs : Int)
  · exact quot_out n d w hn1 hn2 hd1 hd2 hd h
  · by_cases hs : (n < 0 ∧ d < 0) ∨ (0 ≤ n ∧ 0 ≤ d)
    · exact quot_same n d w hn1 hn2 hd1 hd2 hd (by omega) (by omega) hs
    · exact quot_diff n d w hn1 hn2 hd1 hd2 hd (by omega) (by omega) (by omega)

theorem quot_ret {n d : Int} {r : Res} (hr : Hid (repr (Rat.divInt n d) = r)) (w : World) (hn1 : -9223372036854775808 ≤ n) (hn2 : n ≤ 9223372036854775807) (hd1 : -9223372036854775808 ≤ d) (hd2 : d ≤ 9223372036854775807) (hd : d ≠ 0) :
    Calls Tryd.prog 51 #[.bool (!decide (n < 0) == decide (d < 0)), .int .u64 (n.natAbs : Nat), .int .u64 (d.natAbs : Nat)] w (Ret r w) := hr.out ▸ quot_any n d w hn1 hn2 hd1 hd2 hd
/-- the reference's Make -/
theorem refmake_any (n d : Int) (w : World) (hn1 : -9223372036854775808 ≤ n) (hn2 : n ≤ 9223372036854775807) (hd1 : -9223372036854775808 ≤ d) (hd2 : d ≤ 9223372036854775807) :
    Calls Tryd.prog 36 #[.int .i64 n, .int .i64 d] w (Ret (makeZ n d) w) := by
  by_cases h : d = 0
  · have fin : Hid (makeZ n d = (0, 0, 10)) := Lib.hid (by rw [makeZ, if_pos h])
    have h1 : (d == 0) = true := by simp [h]
    clear h
    go_enter Tryd.func36, Tryd.ntmps36
    go_wp2
    exact bodyPost_ret (v := .tuple #[.agg #[.int .i64 0, .int .i64 0], .int .i64 10]) (by simp [results, Tryd.results36, go_sem]) rfl (ret_of fin.out ((Below.refl _ _).alloc (Nat.le_refl _) _))
  · obtain ⟨r, hr⟩ : ∃ r, makeZ n d = r := ⟨_, rfl⟩
    rw [hr]
    have HR : Hid (repr (Rat.divInt n d) = r) := Lib.hid (by rw [← hr, makeZ, if_neg h])
    clear hr
    have h1 : (d == 0) = false := by simp [h]
    go_enter Tryd.func36, Tryd.ntmps36
    go_wp2_with (go_at_call 50; refine (size_any _ _ (by omega) (by omega)).mono ?_; rintro e w' ⟨rfl, rfl⟩)
    refine (quot_ret HR _ hn1 hn2 hd1 hd2 h).mono ?_
    rintro e w1 ⟨rfl, hb⟩
    obtain ⟨hc, hf⟩ := bcell hb
    go_wp2
    exact bodyPost_ret (v := .tuple #[.agg #[.int .i64 r.1, .int .i64 r.2.1], .int .i64 r.2.2]) (by simp [results, Tryd.results36, go_sem, hc]) rfl ⟨rfl, below_set hb⟩
end Go.Proofs.YtggiljlndenjoaaDoor.RatM
