/- Contracts of Neg and Cmp of package rational and of the reference's, and of the reference's Sub. -/
import Derived.Test.YtggiljlndenjoaaDoorRatRefOps
namespace Go.Proofs.YtggiljlndenjoaaDoor.RatM
open Go Go.RowKit

/-- rational.Neg -/
theorem neg_any (a b : Int) (w : World) (ha : I64 a) (hb : I64 b) :
    Calls Tryd.prog 15 #[.agg #[.int .i64 a, .int .i64 b]] w (Ret (negZ a b) w) := by
  obtain ⟨a1, a2⟩ := ha
  obtain ⟨b1, b2⟩ := hb
  cases h : validR a b with
  | false =>
    have fin : Hid (negZ a b = (0, 0, 1)) := Lib.hid (by simp [negZ, h])
    go_enter Tryd.func15, Tryd.ntmps15
    go_wp2_with fail
    refine (valid_any a b _ (by omega) (by omega) (by omega) (by omega)).mono ?_
    rintro e w1 ⟨rfl, hb1⟩
    obtain ⟨hc1, hf1⟩ := bcell hb1
    obtain ⟨hz1, hz2⟩ := size_alloc2 hb1
    have hB := Lib.hid (below_alloc2 hb1)
    clear hb1
    go_wp2
    exact bodyPost_ret (v := .tuple #[.agg #[.int .i64 0, .int .i64 0], .int .i64 1]) (by simp [results, Tryd.results15, go_sem, hc1]) rfl (ret_of fin.out (below_set1 hB.out))
  | true =>
    have fin : Hid (negZ a b = (-a, b, 0)) := Lib.hid (by simp [negZ, h])
    obtain ⟨p1, p2, p3, p4, _⟩ := valid_parts h
    go_enter Tryd.func15, Tryd.ntmps15
    go_wp2_with fail
    refine (valid_any a b _ (by omega) (by omega) (by omega) (by omega)).mono ?_
    rintro e w1 ⟨rfl, hb1⟩
    obtain ⟨hc1, hf1⟩ := bcell hb1
    obtain ⟨hz1, hz2⟩ := size_alloc2 hb1
    have hB := Lib.hid (below_alloc2 hb1)
    clear hb1
    go_wp2
    exact bodyPost_ret (v := .tuple #[.agg #[.int .i64 (-a), .int .i64 b], .int .i64 0]) (by simp [results, Tryd.results15, go_sem, hc1]) rfl (ret_of fin.out (below_set1 hB.out))

/-- the reference's Neg -/
theorem refneg_any (a b : Int) (w : World) (ha : I64 a) (hb : I64 b) :
    Calls Tryd.prog 16 #[.agg #[.int .i64 a, .int .i64 b]] w (Ret (negZ a b) w) := by
  obtain ⟨a1, a2⟩ := ha
  obtain ⟨b1, b2⟩ := hb
  cases h : validR a b with
  | false =>
    have fin : Hid (negZ a b = (0, 0, 1)) := Lib.hid (by simp [negZ, h])
    go_enter Tryd.func16, Tryd.ntmps16
    go_wp2_with fail
    refine (refvalid_any a b _ (by omega) (by omega) (by omega) (by omega)).mono ?_
    rintro e w1 ⟨rfl, hb1⟩
    obtain ⟨hc1, hf1⟩ := bcell hb1
    obtain ⟨hz1, hz2⟩ := size_alloc2 hb1
    have hB := Lib.hid (below_alloc2 hb1)
    clear hb1
    go_wp2
    exact bodyPost_ret (v := .tuple #[.agg #[.int .i64 0, .int .i64 0], .int .i64 1]) (by simp [results, Tryd.results16, go_sem, hc1]) rfl (ret_of fin.out (below_set1 hB.out))
  | true =>
    have fin : Hid (negZ a b = (-a, b, 0)) := Lib.hid (by simp [negZ, h])
    obtain ⟨p1, p2, p3, p4, _⟩ := valid_parts h
    go_enter Tryd.func16, Tryd.ntmps16
    go_wp2_with fail
    refine (refvalid_any a b _ (by omega) (by omega) (by omega) (by omega)).mono ?_
    rintro e w1 ⟨rfl, hb1⟩
    obtain ⟨hc1, hf1⟩ := bcell hb1
    obtain ⟨hz1, hz2⟩ := size_alloc2 hb1
    have hB := Lib.hid (below_alloc2 hb1)
    clear hb1
    go_wp2
    exact bodyPost_ret (v := .tuple #[.agg #[.int .i64 (-a), .int .i64 b], .int .i64 0]) (by simp [results, Tryd.results16, go_sem, hc1]) rfl (ret_of fin.out (below_set1 hB.out))

theorem below_alloc3s {w w1 : World} {o p q : Obj} {A : Addr} {v : Value} (hA : w.heap.size ≤ A.block) (hb : Below ((((w.alloc o).alloc p).alloc q).setCell A v).heap.size ((((w.alloc o).alloc p).alloc q).setCell A v) w1) : Below w.heap.size w w1 :=
  (((((Below.refl _ _).alloc (Nat.le_refl _) _).alloc (by simp) _).alloc (by simp; omega) _).setCell hA _).trans (hb.mono (by simp; omega))
theorem sub_min {a b d : Int} : subZ a b (-9223372036854775808) d = (0, 0, 1) := by
  rw [subZ, if_neg]; intro h; have := valid_parts h.2; omega
theorem add_min {a b d : Int} : addZ a b (-9223372036854775808) d = (0, 0, 1) := by
  rw [addZ, if_neg]; intro h; have := valid_parts h.2; omega
theorem valid_neg (c d : Int) : validR (-c) d = validR c d := by
  unfold validR; rw [Int.natAbs_neg, decide_eq_decide]; omega
theorem rat_neg (c d : Int) : Rat.divInt (-c) d = -Rat.divInt c d := by rw [Rat.neg_divInt]
theorem sub_add {a b c d : Int} : addZ a b (-c) d = subZ a b c d := by
  unfold addZ subZ
  rw [valid_neg, rat_neg, Rat.sub_eq_add_neg]

/-- the reference's Sub -/
theorem refadd_ret {a b c d : Int} {r : Res} (hr : Hid (addZ a b c d = r)) (w : World) (ha : I64 a) (hb : I64 b) (hc : I64 c) (hd : I64 d) :
    Calls Tryd.prog 12 #[.agg #[.int .i64 a, .int .i64 b], .agg #[.int .i64 c, .int .i64 d]] w (Ret r w) := hr.out ▸ refadd_any a b c d w ha hb hc hd
theorem wrap_neg_min : IntKind.i64.wrap (- -9223372036854775808) = -9223372036854775808 := by decide
theorem refsub_at (a b c d c' : Int) (w : World) (ha : I64 a) (hb : I64 b) (hd : I64 d) (hc' : I64 c') (hw : IntKind.i64.wrap (-c) = c') (hs : addZ a b c' d = subZ a b c d) :
    Calls Tryd.prog 14 #[.agg #[.int .i64 a, .int .i64 b], .agg #[.int .i64 c, .int .i64 d]] w (Ret (subZ a b c d) w) := by
  obtain ⟨r, hr⟩ : ∃ r, subZ a b c d = r := ⟨_, rfl⟩
  rw [hr]
  have HR := Lib.hid (hs.trans hr)
  clear hr hs
  go_enter Tryd.func14, Tryd.ntmps14
  go_wp2_with fail
  refine (refadd_ret HR _ ha hb hc' hd).mono ?_
  rintro e w1 ⟨rfl, hb1⟩
  obtain ⟨hc1, hf1⟩ := bcell hb1
  obtain ⟨hz1, hz2, hz3⟩ := size_alloc3 hb1
  have hB := Lib.hid (below_alloc3 hb1)
  clear hb1
  go_wp2
  exact bodyPost_ret (v := .tuple #[.agg #[.int .i64 r.1, .int .i64 r.2.1], .int .i64 r.2.2]) (by simp [results, Tryd.results14, go_sem, hc1]) rfl ⟨rfl, below_set2 hB.out⟩
theorem refsub_any (a b c d : Int) (w : World) (ha : I64 a) (hb : I64 b) (hc : I64 c) (hd : I64 d) :
    Calls Tryd.prog 14 #[.agg #[.int .i64 a, .int .i64 b], .agg #[.int .i64 c, .int .i64 d]] w (Ret (subZ a b c d) w) := by
  by_cases h : c = -9223372036854775808
  · exact refsub_at a b c d c w ha hb hd hc (by subst h; exact wrap_neg_min) (by subst h; rw [add_min, sub_min])
  · have := hc.lo
    have := hc.hi
    exact refsub_at a b c d (-c) w ha hb hd ⟨by omega, by omega⟩ (IntWalk.i64_in _ (by omega)) sub_add

/-! Cmp -/
def cmpI (x y : Int) : Int := if x < y then -1 else if y < x then 1 else 0
def cmpZ (a b c d : Int) : Int × Int := if validR a b = true ∧ validR c d = true then (cmpI (a * d) (c * b), 0) else (0, 1)
def Ret2 (r : Int × Int) (w : World) (e : Ending) (w' : World) : Prop := e = .returned (.tuple #[.int .i64 r.1, .int .i64 r.2]) ∧ Below w.heap.size w w'
theorem ret2_of {r : Int × Int} {a b : Int} {w w' : World} (h : r = (a, b)) (hb : Below w.heap.size w w') : Ret2 r w (.returned (.tuple #[.int .i64 a, .int .i64 b])) w' := by subst h; exact ⟨rfl, hb⟩
theorem nan_any (x : Int) (w : World) : Calls Tryd.prog 52 #[.int .i64 x] w fun e w' => e = .returned (.bool false) ∧ w = w' := by
  go_enter Tryd.func52, Tryd.ntmps52
  go_wp2
  go_ret
  exact ⟨by simp, rfl⟩
theorem compare_any (x y : Int) (w : World) : Calls Tryd.prog 37 #[.int .i64 x, .int .i64 y] w fun e w' => e = .returned (.int .i64 (cmpI x y)) ∧ w = w' := by
  have h : (x < y) ∨ (y < x) ∨ (¬ x < y ∧ ¬ y < x) := by omega
  rcases h with h | h | ⟨h, k⟩
  · have fin : Hid (cmpI x y = -1) := Lib.hid (by rw [cmpI, if_pos h])
    go_enter Tryd.func37, Tryd.ntmps37
    go_wp2_with (go_at_call 52; refine (nan_any _ _).mono ?_; rintro e w' ⟨rfl, rfl⟩)
    go_ret
    exact ⟨ret_int fin.out.symm, rfl⟩
  · have fin : Hid (cmpI x y = 1) := Lib.hid (by rw [cmpI, if_neg (by omega), if_pos h])
    go_enter Tryd.func37, Tryd.ntmps37
    go_wp2_with (go_at_call 52; refine (nan_any _ _).mono ?_; rintro e w' ⟨rfl, rfl⟩)
    go_ret
    exact ⟨ret_int fin.out.symm, rfl⟩
  · have fin : Hid (cmpI x y = 0) := Lib.hid (by rw [cmpI, if_neg (by omega), if_neg (by omega)])
    go_enter Tryd.func37, Tryd.ntmps37
    go_wp2_with (go_at_call 52; refine (nan_any _ _).mono ?_; rintro e w' ⟨rfl, rfl⟩)
    go_ret
    exact ⟨ret_int fin.out.symm, rfl⟩
theorem cmp_arg1 {a b c d : Int} (h : validR a b = false) : cmpZ a b c d = (0, 1) := by simp [cmpZ, h]
theorem cmp_arg2 {a b c d : Int} (h : validR c d = false) : cmpZ a b c d = (0, 1) := by simp [cmpZ, h]
theorem cmp_ok {a b c d : Int} (h : validR a b = true) (k : validR c d = true) : cmpZ a b c d = (cmpI (a * d) (c * b), 0) := by simp [cmpZ, h, k]

set_option maxHeartbeats 1000000 in
theorem cmp_1 (a b c d : Int) (w : World) (ha : I64 a) (hb : I64 b) (hc : I64 c) (hd : I64 d) (h : validR a b = false) :
    Calls Tryd.prog 17 #[.agg #[.int .i64 a, .int .i64 b], .agg #[.int .i64 c, .int .i64 d]] w (Ret2 (cmpZ a b c d) w) := by
  have fin := Lib.hid (cmp_arg1 (c := c) (d := d) h)
  obtain ⟨a1, a2⟩ := ha
  obtain ⟨b1, b2⟩ := hb
  obtain ⟨c1, c2⟩ := hc
  obtain ⟨d1, d2⟩ := hd
  go_enter Tryd.func17, Tryd.ntmps17
  go_wp2_with fail
  refine (valid_any a b _ (by omega) (by omega) (by omega) (by omega)).mono ?_
  rintro e w1 ⟨rfl, hb1⟩
  obtain ⟨hc1, hf1⟩ := bcell hb1
  obtain ⟨hz1, hz2⟩ := size_alloc2 hb1
  have hB := Lib.hid (below_alloc2 hb1)
  clear hb1
  go_wp2
  go_ret2
  exact ret2_of fin.out hB.out
set_option maxHeartbeats 1000000 in
theorem cmp_2 (a b c d : Int) (w : World) (ha : I64 a) (hb : I64 b) (hc : I64 c) (hd : I64 d) (h : validR a b = true) (k : validR c d = false) :
    Calls Tryd.prog 17 #[.agg #[.int .i64 a, .int .i64 b], .agg #[.int .i64 c, .int .i64 d]] w (Ret2 (cmpZ a b c d) w) := by
  have fin := Lib.hid (cmp_arg2 (a := a) (b := b) k)
  obtain ⟨a1, a2⟩ := ha
  obtain ⟨b1, b2⟩ := hb
  obtain ⟨c1, c2⟩ := hc
  obtain ⟨d1, d2⟩ := hd
  go_enter Tryd.func17, Tryd.ntmps17
  go_wp2_with fail
  refine (valid_any a b _ (by omega) (by omega) (by omega) (by omega)).mono ?_
  rintro e w1 ⟨rfl, hb1⟩
  obtain ⟨hc1, hf1⟩ := bcell hb1
  obtain ⟨hz1, hz2⟩ := size_alloc2 hb1
  have hB := Lib.hid (below_alloc2 hb1)
  clear hb1
  go_wp2_with fail
  refine (valid_any c d _ (by omega) (by omega) (by omega) (by omega)).mono ?_
  rintro e w2 ⟨rfl, hb2⟩
  obtain ⟨hc2, hf2⟩ := bcell hb2
  have hs2 := hb2.size
  have hz4 : w.heap.size < w2.heap.size := by omega
  have hz5 : w.heap.size + 1 < w2.heap.size := by omega
  have hB2 := Lib.hid (hB.out.trans (hb2.mono (by omega)))
  clear hb2 hs2
  go_wp2
  go_ret2
  exact ret2_of fin.out hB2.out
set_option maxHeartbeats 1000000 in
theorem cmp_3 (a b c d : Int) (w : World) (ha : I64 a) (hb : I64 b) (hc : I64 c) (hd : I64 d) (h : validR a b = true) (k : validR c d = true) :
    Calls Tryd.prog 17 #[.agg #[.int .i64 a, .int .i64 b], .agg #[.int .i64 c, .int .i64 d]] w (Ret2 (cmpZ a b c d) w) := by
  obtain ⟨p1, p2, p3, p4, _⟩ := valid_parts h
  obtain ⟨q1, q2, q3, q4, _⟩ := valid_parts k
  obtain ⟨m1, m2⟩ := prod_bd p3 p4 (show -2147483647 ≤ d by omega) q2
  obtain ⟨m3, m4⟩ := prod_bd q3 q4 (show -2147483647 ≤ b by omega) p2
  have fin := Lib.hid (cmp_ok h k)
  obtain ⟨a1, a2⟩ := ha
  obtain ⟨b1, b2⟩ := hb
  obtain ⟨c1, c2⟩ := hc
  obtain ⟨d1, d2⟩ := hd
  go_enter Tryd.func17, Tryd.ntmps17
  go_wp2_with fail
  refine (valid_any a b _ (by omega) (by omega) (by omega) (by omega)).mono ?_
  rintro e w1 ⟨rfl, hb1⟩
  obtain ⟨hc1, hf1⟩ := bcell hb1
  obtain ⟨hz1, hz2⟩ := size_alloc2 hb1
  have hB := Lib.hid (below_alloc2 hb1)
  clear hb1
  go_wp2_with fail
  refine (valid_any c d _ (by omega) (by omega) (by omega) (by omega)).mono ?_
  rintro e w2 ⟨rfl, hb2⟩
  obtain ⟨hc2, hf2⟩ := bcell hb2
  have hs2 := hb2.size
  have hz4 : w.heap.size < w2.heap.size := by omega
  have hz5 : w.heap.size + 1 < w2.heap.size := by omega
  have hB2 := Lib.hid (hB.out.trans (hb2.mono (by omega)))
  clear hb2 hs2
  go_wp2_with (go_at_call 37; refine (compare_any _ _ _).mono ?_; rintro e w' ⟨rfl, rfl⟩)
  go_ret2
  exact ret2_of fin.out hB2.out
/-- Cmp -/
theorem cmp_any (a b c d : Int) (w : World) (ha : I64 a) (hb : I64 b) (hc : I64 c) (hd : I64 d) :
    Calls Tryd.prog 17 #[.agg #[.int .i64 a, .int .i64 b], .agg #[.int .i64 c, .int .i64 d]] w (Ret2 (cmpZ a b c d) w) := by
  cases h : validR a b
  · exact cmp_1 a b c d w ha hb hc hd h
  · cases k : validR c d
    · exact cmp_2 a b c d w ha hb hc hd h k
    · exact cmp_3 a b c d w ha hb hc hd h k
set_option maxHeartbeats 1000000 in
theorem refcmp_1 (a b c d : Int) (w : World) (ha : I64 a) (hb : I64 b) (hc : I64 c) (hd : I64 d) (h : validR a b = false) :
    Calls Tryd.prog 18 #[.agg #[.int .i64 a, .int .i64 b], .agg #[.int .i64 c, .int .i64 d]] w (Ret2 (cmpZ a b c d) w) := by
  have fin := Lib.hid (cmp_arg1 (c := c) (d := d) h)
  obtain ⟨a1, a2⟩ := ha
  obtain ⟨b1, b2⟩ := hb
  obtain ⟨c1, c2⟩ := hc
  obtain ⟨d1, d2⟩ := hd
  go_enter Tryd.func18, Tryd.ntmps18
  go_wp2_with fail
  refine (refvalid_any a b _ (by omega) (by omega) (by omega) (by omega)).mono ?_
  rintro e w1 ⟨rfl, hb1⟩
  obtain ⟨hc1, hf1⟩ := bcell hb1
  obtain ⟨hz1, hz2⟩ := size_alloc2 hb1
  have hB := Lib.hid (below_alloc2 hb1)
  clear hb1
  go_wp2
  go_ret2
  exact ret2_of fin.out hB.out
set_option maxHeartbeats 1000000 in
theorem refcmp_2 (a b c d : Int) (w : World) (ha : I64 a) (hb : I64 b) (hc : I64 c) (hd : I64 d) (h : validR a b = true) (k : validR c d = false) :
    Calls Tryd.prog 18 #[.agg #[.int .i64 a, .int .i64 b], .agg #[.int .i64 c, .int .i64 d]] w (Ret2 (cmpZ a b c d) w) := by
  have fin := Lib.hid (cmp_arg2 (a := a) (b := b) k)
  obtain ⟨a1, a2⟩ := ha
  obtain ⟨b1, b2⟩ := hb
  obtain ⟨c1, c2⟩ := hc
  obtain ⟨d1, d2⟩ := hd
  go_enter Tryd.func18, Tryd.ntmps18
  go_wp2_with fail
  refine (refvalid_any a b _ (by omega) (by omega) (by omega) (by omega)).mono ?_
  rintro e w1 ⟨rfl, hb1⟩
  obtain ⟨hc1, hf1⟩ := bcell hb1
  obtain ⟨hz1, hz2⟩ := size_alloc2 hb1
  have hB := Lib.hid (below_alloc2 hb1)
  clear hb1
  go_wp2_with fail
  refine (refvalid_any c d _ (by omega) (by omega) (by omega) (by omega)).mono ?_
  rintro e w2 ⟨rfl, hb2⟩
  obtain ⟨hc2, hf2⟩ := bcell hb2
  have hs2 := hb2.size
  have hz4 : w.heap.size < w2.heap.size := by omega
  have hz5 : w.heap.size + 1 < w2.heap.size := by omega
  have hB2 := Lib.hid (hB.out.trans (hb2.mono (by omega)))
  clear hb2 hs2
  go_wp2
  go_ret2
  exact ret2_of fin.out hB2.out
set_option maxHeartbeats 1000000 in
theorem refcmp_3 (a b c d : Int) (w : World) (ha : I64 a) (hb : I64 b) (hc : I64 c) (hd : I64 d) (h : validR a b = true) (k : validR c d = true) :
    Calls Tryd.prog 18 #[.agg #[.int .i64 a, .int .i64 b], .agg #[.int .i64 c, .int .i64 d]] w (Ret2 (cmpZ a b c d) w) := by
  obtain ⟨p1, p2, p3, p4, _⟩ := valid_parts h
  obtain ⟨q1, q2, q3, q4, _⟩ := valid_parts k
  obtain ⟨m1, m2⟩ := prod_bd p3 p4 (show -2147483647 ≤ d by omega) q2
  obtain ⟨m3, m4⟩ := prod_bd q3 q4 (show -2147483647 ≤ b by omega) p2
  have hh : (a * d < c * b) ∨ (c * b < a * d) ∨ (¬ a * d < c * b ∧ ¬ c * b < a * d) := by omega
  rcases hh with hh | hh | ⟨hh, kk⟩
  · have fin : Hid (cmpZ a b c d = (-1, 0)) := Lib.hid (by rw [cmp_ok h k, cmpI, if_pos hh])
    have e1 : IntKind.i64.wrap (a * d) = a * d := IntWalk.i64_in _ (by omega)
    have e2 : IntKind.i64.wrap (c * b) = c * b := IntWalk.i64_in _ (by omega)
    have E1 := Lib.hid e1
    have E2 := Lib.hid e2
    clear e1 e2
    obtain ⟨a1, a2⟩ := ha
    obtain ⟨b1, b2⟩ := hb
    obtain ⟨c1, c2⟩ := hc
    obtain ⟨d1, d2⟩ := hd
    go_enter Tryd.func18, Tryd.ntmps18
    go_wp2_with fail
    refine (refvalid_any a b _ (by omega) (by omega) (by omega) (by omega)).mono ?_
    rintro e w1 ⟨rfl, hb1⟩
    obtain ⟨hc1, hf1⟩ := bcell hb1
    obtain ⟨hz1, hz2⟩ := size_alloc2 hb1
    have hB := Lib.hid (below_alloc2 hb1)
    clear hb1
    go_wp2_with fail
    refine (refvalid_any c d _ (by omega) (by omega) (by omega) (by omega)).mono ?_
    rintro e w2 ⟨rfl, hb2⟩
    obtain ⟨hc2, hf2⟩ := bcell hb2
    have hs2 := hb2.size
    have hz4 : w.heap.size < w2.heap.size := by omega
    have hz5 : w.heap.size + 1 < w2.heap.size := by omega
    have hB2 := Lib.hid (hB.out.trans (hb2.mono (by omega)))
    clear hb2 hs2
    go_wp2
    have e1 := E1.out
    have e2 := E2.out
    go_quiet (fail)
    clear e1 e2
    go_wp2
    go_ret2
    exact ret2_of fin.out (below_drewN hB2.out _)
  · have fin : Hid (cmpZ a b c d = (1, 0)) := Lib.hid (by rw [cmp_ok h k, cmpI, if_neg (by omega), if_pos hh])
    have e1 : IntKind.i64.wrap (a * d) = a * d := IntWalk.i64_in _ (by omega)
    have e2 : IntKind.i64.wrap (c * b) = c * b := IntWalk.i64_in _ (by omega)
    have E1 := Lib.hid e1
    have E2 := Lib.hid e2
    clear e1 e2
    obtain ⟨a1, a2⟩ := ha
    obtain ⟨b1, b2⟩ := hb
    obtain ⟨c1, c2⟩ := hc
    obtain ⟨d1, d2⟩ := hd
    go_enter Tryd.func18, Tryd.ntmps18
    go_wp2_with fail
    refine (refvalid_any a b _ (by omega) (by omega) (by omega) (by omega)).mono ?_
    rintro e w1 ⟨rfl, hb1⟩
    obtain ⟨hc1, hf1⟩ := bcell hb1
    obtain ⟨hz1, hz2⟩ := size_alloc2 hb1
    have hB := Lib.hid (below_alloc2 hb1)
    clear hb1
    go_wp2_with fail
    refine (refvalid_any c d _ (by omega) (by omega) (by omega) (by omega)).mono ?_
    rintro e w2 ⟨rfl, hb2⟩
    obtain ⟨hc2, hf2⟩ := bcell hb2
    have hs2 := hb2.size
    have hz4 : w.heap.size < w2.heap.size := by omega
    have hz5 : w.heap.size + 1 < w2.heap.size := by omega
    have hB2 := Lib.hid (hB.out.trans (hb2.mono (by omega)))
    clear hb2 hs2
    go_wp2
    have e1 := E1.out
    have e2 := E2.out
    go_quiet (fail)
    clear e1 e2
    go_wp2
    go_ret2
    exact ret2_of fin.out (below_drewN hB2.out _)
  · have fin : Hid (cmpZ a b c d = (0, 0)) := Lib.hid (by rw [cmp_ok h k, cmpI, if_neg (by omega), if_neg (by omega)])
    have e1 : IntKind.i64.wrap (a * d) = a * d := IntWalk.i64_in _ (by omega)
    have e2 : IntKind.i64.wrap (c * b) = c * b := IntWalk.i64_in _ (by omega)
    have E1 := Lib.hid e1
    have E2 := Lib.hid e2
    clear e1 e2
    obtain ⟨a1, a2⟩ := ha
    obtain ⟨b1, b2⟩ := hb
    obtain ⟨c1, c2⟩ := hc
    obtain ⟨d1, d2⟩ := hd
    go_enter Tryd.func18, Tryd.ntmps18
    go_wp2_with fail
    refine (refvalid_any a b _ (by omega) (by omega) (by omega) (by omega)).mono ?_
    rintro e w1 ⟨rfl, hb1⟩
    obtain ⟨hc1, hf1⟩ := bcell hb1
    obtain ⟨hz1, hz2⟩ := size_alloc2 hb1
    have hB := Lib.hid (below_alloc2 hb1)
    clear hb1
    go_wp2_with fail
    refine (refvalid_any c d _ (by omega) (by omega) (by omega) (by omega)).mono ?_
    rintro e w2 ⟨rfl, hb2⟩
    obtain ⟨hc2, hf2⟩ := bcell hb2
    have hs2 := hb2.size
    have hz4 : w.heap.size < w2.heap.size := by omega
    have hz5 : w.heap.size + 1 < w2.heap.size := by omega
    have hB2 := Lib.hid (hB.out.trans (hb2.mono (by omega)))
    clear hb2 hs2
    go_wp2
    have e1 := E1.out
    have e2 := E2.out
    go_quiet (fail)
    clear e1 e2
    go_wp2
    go_ret2
    exact ret2_of fin.out (below_drewN hB2.out _)
/-- Cmp -/
theorem refcmp_any (a b c d : Int) (w : World) (ha : I64 a) (hb : I64 b) (hc : I64 c) (hd : I64 d) :
    Calls Tryd.prog 18 #[.agg #[.int .i64 a, .int .i64 b], .agg #[.int .i64 c, .int .i64 d]] w (Ret2 (cmpZ a b c d) w) := by
  cases h : validR a b
  · exact refcmp_1 a b c d w ha hb hc hd h
  · cases k : validR c d
    · exact refcmp_2 a b c d w ha hb hc hd h k
    · exact refcmp_3 a b c d w ha hb hc hd h k
end Go.Proofs.YtggiljlndenjoaaDoor.RatM
