/- Contracts of Add, Sub, Mul, Div and Neg of package rational and of the reference's. -/
import Derived.Test.YtggiljlndenjoaaDoorRatMake
namespace Go.Proofs.YtggiljlndenjoaaDoor.RatM
open Go Go.RowKit

theorem make_ret {n d : Int} {r : Res} (hr : Hid (makeZ n d = r)) (w : World) (hn1 : -9223372036854775808 ≤ n) (hn2 : n ≤ 9223372036854775807) (hd1 : -9223372036854775808 ≤ d) (hd2 : d ≤ 9223372036854775807) :
    Calls Tryd.prog 36 #[.int .i64 n, .int .i64 d] w (Ret r w) := hr.out ▸ refmake_any n d w hn1 hn2 hd1 hd2
/-- The integers of an argument are integers of 64 bits. -/
structure I64 (n : Int) : Prop where
  lo : -9223372036854775808 ≤ n
  hi : n ≤ 9223372036854775807
theorem below_alloc3 {w w1 : World} {o p q : Obj} (hb : Below (((w.alloc o).alloc p).alloc q).heap.size (((w.alloc o).alloc p).alloc q) w1) : Below w.heap.size w w1 :=
  ((((Below.refl _ _).alloc (Nat.le_refl _) _).alloc (by simp) _).alloc (by simp; omega) _).trans (hb.mono (by simp; omega))
theorem size_alloc3 {w w1 : World} {o p q : Obj} (hb : Below (((w.alloc o).alloc p).alloc q).heap.size (((w.alloc o).alloc p).alloc q) w1) : w.heap.size < w1.heap.size ∧ w.heap.size + 1 < w1.heap.size ∧ w.heap.size + 2 < w1.heap.size := by
  have := hb.size; simp at this; omega
theorem below_set2 {w w1 : World} {x y : Value} (hb : Below w.heap.size w w1) : Below w.heap.size w ((w1.setCell ⟨w.heap.size + 2, 0, none⟩ x).setCell ⟨w.heap.size + 2, 1, none⟩ y) :=
  (hb.setCell (by simp) _).setCell (by simp) _
theorem below_set1 {w w1 : World} {x y : Value} (hb : Below w.heap.size w w1) : Below w.heap.size w ((w1.setCell ⟨w.heap.size + 1, 0, none⟩ x).setCell ⟨w.heap.size + 1, 1, none⟩ y) :=
  (hb.setCell (by simp) _).setCell (by simp) _
theorem below_alloc2 {w w1 : World} {o p : Obj} (hb : Below ((w.alloc o).alloc p).heap.size ((w.alloc o).alloc p) w1) : Below w.heap.size w w1 :=
  (((Below.refl _ _).alloc (Nat.le_refl _) _).alloc (by simp) _).trans (hb.mono (by simp; omega))
theorem size_alloc2 {w w1 : World} {o p : Obj} (hb : Below ((w.alloc o).alloc p).heap.size ((w.alloc o).alloc p) w1) : w.heap.size < w1.heap.size ∧ w.heap.size + 1 < w1.heap.size := by
  have := hb.size; simp at this; omega
theorem addZ_arg1 {a b c d : Int} (h : validR a b = false) : addZ a b c d = (0, 0, 1) := by simp [addZ, h]
theorem addZ_arg2 {a b c d : Int} (h : validR c d = false) : addZ a b c d = (0, 0, 1) := by simp [addZ, h]
theorem subZ_arg1 {a b c d : Int} (h : validR a b = false) : subZ a b c d = (0, 0, 1) := by simp [subZ, h]
theorem subZ_arg2 {a b c d : Int} (h : validR c d = false) : subZ a b c d = (0, 0, 1) := by simp [subZ, h]
theorem mulZ_arg1 {a b c d : Int} (h : validR a b = false) : mulZ a b c d = (0, 0, 1) := by simp [mulZ, h]
theorem mulZ_arg2 {a b c d : Int} (h : validR c d = false) : mulZ a b c d = (0, 0, 1) := by simp [mulZ, h]
theorem divZ_arg1 {a b c d : Int} (h : validR a b = false) : divZ a b c d = (0, 0, 1) := by simp [divZ, h]
theorem divZ_arg2 {a b c d : Int} (h : validR c d = false) : divZ a b c d = (0, 0, 1) := by simp [divZ, h]
theorem make_ne {n d : Int} {r : Res} (hd : d ≠ 0) (h : repr (Rat.divInt n d) = r) : makeZ n d = r := by rw [makeZ, if_neg hd, h]

set_option maxHeartbeats 1000000 in
theorem add_arg1 (a b c d : Int) (w : World) (ha : I64 a) (hb : I64 b) (hc : I64 c) (hd : I64 d) (h : validR a b = false) :
    Calls Tryd.prog 11 #[.agg #[.int .i64 a, .int .i64 b], .agg #[.int .i64 c, .int .i64 d]] w (Ret (addZ a b c d) w) := by
    have fin := Lib.hid (addZ_arg1 (c := c) (d := d) h)
    obtain ⟨a1, a2⟩ := ha
    obtain ⟨b1, b2⟩ := hb
    obtain ⟨c1, c2⟩ := hc
    obtain ⟨d1, d2⟩ := hd
    go_enter Tryd.func11, Tryd.ntmps11
    go_wp2_with fail
    refine (valid_any a b _ (by omega) (by omega) (by omega) (by omega)).mono ?_
    rintro e w1 ⟨rfl, hb1⟩
    obtain ⟨hc1, hf1⟩ := bcell hb1
    obtain ⟨hz1, hz2, hz3⟩ := size_alloc3 hb1
    have hB := Lib.hid (below_alloc3 hb1)
    clear hb1
    go_wp2
    exact bodyPost_ret (v := .tuple #[.agg #[.int .i64 0, .int .i64 0], .int .i64 1]) (by simp [results, Tryd.results11, go_sem, hc1]) rfl (ret_of fin.out (below_set2 hB.out))

set_option maxHeartbeats 1000000 in
theorem add_arg2 (a b c d : Int) (w : World) (ha : I64 a) (hb : I64 b) (hc : I64 c) (hd : I64 d) (h : validR a b = true) (k : validR c d = false) :
    Calls Tryd.prog 11 #[.agg #[.int .i64 a, .int .i64 b], .agg #[.int .i64 c, .int .i64 d]] w (Ret (addZ a b c d) w) := by
    have fin := Lib.hid (addZ_arg2 (a := a) (b := b) k)
    obtain ⟨a1, a2⟩ := ha
    obtain ⟨b1, b2⟩ := hb
    obtain ⟨c1, c2⟩ := hc
    obtain ⟨d1, d2⟩ := hd
    go_enter Tryd.func11, Tryd.ntmps11
    go_wp2_with fail
    refine (valid_any a b _ (by omega) (by omega) (by omega) (by omega)).mono ?_
    rintro e w1 ⟨rfl, hb1⟩
    obtain ⟨hc1, hf1⟩ := bcell hb1
    obtain ⟨hz1, hz2, hz3⟩ := size_alloc3 hb1
    have hB := Lib.hid (below_alloc3 hb1)
    clear hb1
    go_wp2_with fail
    refine (valid_any c d _ (by omega) (by omega) (by omega) (by omega)).mono ?_
    rintro e w2 ⟨rfl, hb2⟩
    obtain ⟨hc2, hf2⟩ := bcell hb2
    have hs2 := hb2.size
    have hz4 : w.heap.size < w2.heap.size := by omega
    have hz5 : w.heap.size + 1 < w2.heap.size := by omega
    have hz6 : w.heap.size + 2 < w2.heap.size := by omega
    have hB2 := Lib.hid (hB.out.trans (hb2.mono (by omega)))
    clear hb2 hs2
    go_wp2
    exact bodyPost_ret (v := .tuple #[.agg #[.int .i64 0, .int .i64 0], .int .i64 1]) (by simp [results, Tryd.results11, go_sem, hc2, hc1, hz3]) rfl (ret_of fin.out (below_set2 hB2.out))

set_option maxHeartbeats 1000000 in
theorem add_ok (a b c d : Int) (w : World) (ha : I64 a) (hb : I64 b) (hc : I64 c) (hd : I64 d) (h : validR a b = true) (k : validR c d = true) :
    Calls Tryd.prog 11 #[.agg #[.int .i64 a, .int .i64 b], .agg #[.int .i64 c, .int .i64 d]] w (Ret (addZ a b c d) w) := by
    obtain ⟨r, hr⟩ : ∃ r, addZ a b c d = r := ⟨_, rfl⟩
    rw [hr]
    have E := (add_make h k).symm.trans hr
    obtain ⟨p1, p2, p3, p4, _⟩ := valid_parts h
    obtain ⟨q1, q2, q3, q4, _⟩ := valid_parts k
    obtain ⟨m1, m2⟩ := prod_bd p3 p4 (show -2147483647 ≤ d by omega) q2
    obtain ⟨m3, m4⟩ := prod_bd q3 q4 (show -2147483647 ≤ b by omega) p2
    obtain ⟨m5, m6⟩ := prod_bd (show -2147483647 ≤ b by omega) p2 (show -2147483647 ≤ d by omega) q2
    have m7 := pos_prod p1 q1
    have hne : b * d ≠ 0 := by omega
    have HR := Lib.hid E
    have HN := Lib.hid hne
    clear E hr hne
    obtain ⟨a1, a2⟩ := ha
    obtain ⟨b1, b2⟩ := hb
    obtain ⟨c1, c2⟩ := hc
    obtain ⟨d1, d2⟩ := hd
    go_enter Tryd.func11, Tryd.ntmps11
    go_wp2_with fail
    refine (valid_any a b _ (by omega) (by omega) (by omega) (by omega)).mono ?_
    rintro e w1 ⟨rfl, hb1⟩
    obtain ⟨hc1, hf1⟩ := bcell hb1
    obtain ⟨hz1, hz2, hz3⟩ := size_alloc3 hb1
    have hB := Lib.hid (below_alloc3 hb1)
    clear hb1
    go_wp2_with fail
    refine (valid_any c d _ (by omega) (by omega) (by omega) (by omega)).mono ?_
    rintro e w2 ⟨rfl, hb2⟩
    obtain ⟨hc2, hf2⟩ := bcell hb2
    have hs2 := hb2.size
    have hz4 : w.heap.size < w2.heap.size := by omega
    have hz5 : w.heap.size + 1 < w2.heap.size := by omega
    have hz6 : w.heap.size + 2 < w2.heap.size := by omega
    have hB2 := Lib.hid (hB.out.trans (hb2.mono (by omega)))
    clear hb2 hs2
    go_wp2_with fail
    refine (reduce_ret HR _ (by omega) (by omega) (by omega) (by omega) HN.out).mono ?_
    rintro e w3 ⟨rfl, hb3⟩
    obtain ⟨hc3, hf3⟩ := bcell hb3
    have hB3 := Lib.hid (hB2.out.trans (hb3.mono (by omega)))
    clear hb3
    go_wp2
    exact bodyPost_ret (v := .tuple #[.agg #[.int .i64 r.1, .int .i64 r.2.1], .int .i64 r.2.2]) (by simp [results, Tryd.results11, go_sem, hc3, hc2, hc1, hz3, hz6]) rfl ⟨rfl, below_set2 hB3.out⟩

/-- rational.Add -/
theorem add_any (a b c d : Int) (w : World) (ha : I64 a) (hb : I64 b) (hc : I64 c) (hd : I64 d) :
    Calls Tryd.prog 11 #[.agg #[.int .i64 a, .int .i64 b], .agg #[.int .i64 c, .int .i64 d]] w (Ret (addZ a b c d) w) := by
  cases h : validR a b
  · exact add_arg1 a b c d w ha hb hc hd h
  · cases k : validR c d with
    | false => exact add_arg2 a b c d w ha hb hc hd h k
    | true => exact add_ok a b c d w ha hb hc hd h k
set_option maxHeartbeats 1000000 in
theorem sub_arg1 (a b c d : Int) (w : World) (ha : I64 a) (hb : I64 b) (hc : I64 c) (hd : I64 d) (h : validR a b = false) :
    Calls Tryd.prog 13 #[.agg #[.int .i64 a, .int .i64 b], .agg #[.int .i64 c, .int .i64 d]] w (Ret (subZ a b c d) w) := by
    have fin := Lib.hid (subZ_arg1 (c := c) (d := d) h)
    obtain ⟨a1, a2⟩ := ha
    obtain ⟨b1, b2⟩ := hb
    obtain ⟨c1, c2⟩ := hc
    obtain ⟨d1, d2⟩ := hd
    go_enter Tryd.func13, Tryd.ntmps13
    go_wp2_with fail
    refine (valid_any a b _ (by omega) (by omega) (by omega) (by omega)).mono ?_
    rintro e w1 ⟨rfl, hb1⟩
    obtain ⟨hc1, hf1⟩ := bcell hb1
    obtain ⟨hz1, hz2, hz3⟩ := size_alloc3 hb1
    have hB := Lib.hid (below_alloc3 hb1)
    clear hb1
    go_wp2
    exact bodyPost_ret (v := .tuple #[.agg #[.int .i64 0, .int .i64 0], .int .i64 1]) (by simp [results, Tryd.results13, go_sem, hc1]) rfl (ret_of fin.out (below_set2 hB.out))

set_option maxHeartbeats 1000000 in
theorem sub_arg2 (a b c d : Int) (w : World) (ha : I64 a) (hb : I64 b) (hc : I64 c) (hd : I64 d) (h : validR a b = true) (k : validR c d = false) :
    Calls Tryd.prog 13 #[.agg #[.int .i64 a, .int .i64 b], .agg #[.int .i64 c, .int .i64 d]] w (Ret (subZ a b c d) w) := by
    have fin := Lib.hid (subZ_arg2 (a := a) (b := b) k)
    obtain ⟨a1, a2⟩ := ha
    obtain ⟨b1, b2⟩ := hb
    obtain ⟨c1, c2⟩ := hc
    obtain ⟨d1, d2⟩ := hd
    go_enter Tryd.func13, Tryd.ntmps13
    go_wp2_with fail
    refine (valid_any a b _ (by omega) (by omega) (by omega) (by omega)).mono ?_
    rintro e w1 ⟨rfl, hb1⟩
    obtain ⟨hc1, hf1⟩ := bcell hb1
    obtain ⟨hz1, hz2, hz3⟩ := size_alloc3 hb1
    have hB := Lib.hid (below_alloc3 hb1)
    clear hb1
    go_wp2_with fail
    refine (valid_any c d _ (by omega) (by omega) (by omega) (by omega)).mono ?_
    rintro e w2 ⟨rfl, hb2⟩
    obtain ⟨hc2, hf2⟩ := bcell hb2
    have hs2 := hb2.size
    have hz4 : w.heap.size < w2.heap.size := by omega
    have hz5 : w.heap.size + 1 < w2.heap.size := by omega
    have hz6 : w.heap.size + 2 < w2.heap.size := by omega
    have hB2 := Lib.hid (hB.out.trans (hb2.mono (by omega)))
    clear hb2 hs2
    go_wp2
    exact bodyPost_ret (v := .tuple #[.agg #[.int .i64 0, .int .i64 0], .int .i64 1]) (by simp [results, Tryd.results13, go_sem, hc2, hc1, hz3]) rfl (ret_of fin.out (below_set2 hB2.out))

set_option maxHeartbeats 1000000 in
theorem sub_ok (a b c d : Int) (w : World) (ha : I64 a) (hb : I64 b) (hc : I64 c) (hd : I64 d) (h : validR a b = true) (k : validR c d = true) :
    Calls Tryd.prog 13 #[.agg #[.int .i64 a, .int .i64 b], .agg #[.int .i64 c, .int .i64 d]] w (Ret (subZ a b c d) w) := by
    obtain ⟨r, hr⟩ : ∃ r, subZ a b c d = r := ⟨_, rfl⟩
    rw [hr]
    have E := (sub_make h k).symm.trans hr
    obtain ⟨p1, p2, p3, p4, _⟩ := valid_parts h
    obtain ⟨q1, q2, q3, q4, _⟩ := valid_parts k
    obtain ⟨m1, m2⟩ := prod_bd p3 p4 (show -2147483647 ≤ d by omega) q2
    obtain ⟨m3, m4⟩ := prod_bd q3 q4 (show -2147483647 ≤ b by omega) p2
    obtain ⟨m5, m6⟩ := prod_bd (show -2147483647 ≤ b by omega) p2 (show -2147483647 ≤ d by omega) q2
    have m7 := pos_prod p1 q1
    have hne : b * d ≠ 0 := by omega
    have HR := Lib.hid E
    have HN := Lib.hid hne
    clear E hr hne
    obtain ⟨a1, a2⟩ := ha
    obtain ⟨b1, b2⟩ := hb
    obtain ⟨c1, c2⟩ := hc
    obtain ⟨d1, d2⟩ := hd
    go_enter Tryd.func13, Tryd.ntmps13
    go_wp2_with fail
    refine (valid_any a b _ (by omega) (by omega) (by omega) (by omega)).mono ?_
    rintro e w1 ⟨rfl, hb1⟩
    obtain ⟨hc1, hf1⟩ := bcell hb1
    obtain ⟨hz1, hz2, hz3⟩ := size_alloc3 hb1
    have hB := Lib.hid (below_alloc3 hb1)
    clear hb1
    go_wp2_with fail
    refine (valid_any c d _ (by omega) (by omega) (by omega) (by omega)).mono ?_
    rintro e w2 ⟨rfl, hb2⟩
    obtain ⟨hc2, hf2⟩ := bcell hb2
    have hs2 := hb2.size
    have hz4 : w.heap.size < w2.heap.size := by omega
    have hz5 : w.heap.size + 1 < w2.heap.size := by omega
    have hz6 : w.heap.size + 2 < w2.heap.size := by omega
    have hB2 := Lib.hid (hB.out.trans (hb2.mono (by omega)))
    clear hb2 hs2
    go_wp2_with fail
    refine (reduce_ret HR _ (by omega) (by omega) (by omega) (by omega) HN.out).mono ?_
    rintro e w3 ⟨rfl, hb3⟩
    obtain ⟨hc3, hf3⟩ := bcell hb3
    have hB3 := Lib.hid (hB2.out.trans (hb3.mono (by omega)))
    clear hb3
    go_wp2
    exact bodyPost_ret (v := .tuple #[.agg #[.int .i64 r.1, .int .i64 r.2.1], .int .i64 r.2.2]) (by simp [results, Tryd.results13, go_sem, hc3, hc2, hc1, hz3, hz6]) rfl ⟨rfl, below_set2 hB3.out⟩

/-- rational.Sub -/
theorem sub_any (a b c d : Int) (w : World) (ha : I64 a) (hb : I64 b) (hc : I64 c) (hd : I64 d) :
    Calls Tryd.prog 13 #[.agg #[.int .i64 a, .int .i64 b], .agg #[.int .i64 c, .int .i64 d]] w (Ret (subZ a b c d) w) := by
  cases h : validR a b
  · exact sub_arg1 a b c d w ha hb hc hd h
  · cases k : validR c d with
    | false => exact sub_arg2 a b c d w ha hb hc hd h k
    | true => exact sub_ok a b c d w ha hb hc hd h k
set_option maxHeartbeats 1000000 in
theorem mul_arg1 (a b c d : Int) (w : World) (ha : I64 a) (hb : I64 b) (hc : I64 c) (hd : I64 d) (h : validR a b = false) :
    Calls Tryd.prog 22 #[.agg #[.int .i64 a, .int .i64 b], .agg #[.int .i64 c, .int .i64 d]] w (Ret (mulZ a b c d) w) := by
    have fin := Lib.hid (mulZ_arg1 (c := c) (d := d) h)
    obtain ⟨a1, a2⟩ := ha
    obtain ⟨b1, b2⟩ := hb
    obtain ⟨c1, c2⟩ := hc
    obtain ⟨d1, d2⟩ := hd
    go_enter Tryd.func22, Tryd.ntmps22
    go_wp2_with fail
    refine (valid_any a b _ (by omega) (by omega) (by omega) (by omega)).mono ?_
    rintro e w1 ⟨rfl, hb1⟩
    obtain ⟨hc1, hf1⟩ := bcell hb1
    obtain ⟨hz1, hz2, hz3⟩ := size_alloc3 hb1
    have hB := Lib.hid (below_alloc3 hb1)
    clear hb1
    go_wp2
    exact bodyPost_ret (v := .tuple #[.agg #[.int .i64 0, .int .i64 0], .int .i64 1]) (by simp [results, Tryd.results22, go_sem, hc1]) rfl (ret_of fin.out (below_set2 hB.out))

set_option maxHeartbeats 1000000 in
theorem mul_arg2 (a b c d : Int) (w : World) (ha : I64 a) (hb : I64 b) (hc : I64 c) (hd : I64 d) (h : validR a b = true) (k : validR c d = false) :
    Calls Tryd.prog 22 #[.agg #[.int .i64 a, .int .i64 b], .agg #[.int .i64 c, .int .i64 d]] w (Ret (mulZ a b c d) w) := by
    have fin := Lib.hid (mulZ_arg2 (a := a) (b := b) k)
    obtain ⟨a1, a2⟩ := ha
    obtain ⟨b1, b2⟩ := hb
    obtain ⟨c1, c2⟩ := hc
    obtain ⟨d1, d2⟩ := hd
    go_enter Tryd.func22, Tryd.ntmps22
    go_wp2_with fail
    refine (valid_any a b _ (by omega) (by omega) (by omega) (by omega)).mono ?_
    rintro e w1 ⟨rfl, hb1⟩
    obtain ⟨hc1, hf1⟩ := bcell hb1
    obtain ⟨hz1, hz2, hz3⟩ := size_alloc3 hb1
    have hB := Lib.hid (below_alloc3 hb1)
    clear hb1
    go_wp2_with fail
    refine (valid_any c d _ (by omega) (by omega) (by omega) (by omega)).mono ?_
    rintro e w2 ⟨rfl, hb2⟩
    obtain ⟨hc2, hf2⟩ := bcell hb2
    have hs2 := hb2.size
    have hz4 : w.heap.size < w2.heap.size := by omega
    have hz5 : w.heap.size + 1 < w2.heap.size := by omega
    have hz6 : w.heap.size + 2 < w2.heap.size := by omega
    have hB2 := Lib.hid (hB.out.trans (hb2.mono (by omega)))
    clear hb2 hs2
    go_wp2
    exact bodyPost_ret (v := .tuple #[.agg #[.int .i64 0, .int .i64 0], .int .i64 1]) (by simp [results, Tryd.results22, go_sem, hc2, hc1, hz3]) rfl (ret_of fin.out (below_set2 hB2.out))

set_option maxHeartbeats 1000000 in
theorem mul_ok (a b c d : Int) (w : World) (ha : I64 a) (hb : I64 b) (hc : I64 c) (hd : I64 d) (h : validR a b = true) (k : validR c d = true) :
    Calls Tryd.prog 22 #[.agg #[.int .i64 a, .int .i64 b], .agg #[.int .i64 c, .int .i64 d]] w (Ret (mulZ a b c d) w) := by
    obtain ⟨r, hr⟩ : ∃ r, mulZ a b c d = r := ⟨_, rfl⟩
    rw [hr]
    have E := (mul_make h k).symm.trans hr
    obtain ⟨p1, p2, p3, p4, _⟩ := valid_parts h
    obtain ⟨q1, q2, q3, q4, _⟩ := valid_parts k
    obtain ⟨m1, m2⟩ := prod_bd p3 p4 q3 q4
    obtain ⟨m5, m6⟩ := prod_bd (show -2147483647 ≤ b by omega) p2 (show -2147483647 ≤ d by omega) q2
    have m7 := pos_prod p1 q1
    have hne : b * d ≠ 0 := by omega
    have HR := Lib.hid E
    have HN := Lib.hid hne
    clear E hr hne
    obtain ⟨a1, a2⟩ := ha
    obtain ⟨b1, b2⟩ := hb
    obtain ⟨c1, c2⟩ := hc
    obtain ⟨d1, d2⟩ := hd
    go_enter Tryd.func22, Tryd.ntmps22
    go_wp2_with fail
    refine (valid_any a b _ (by omega) (by omega) (by omega) (by omega)).mono ?_
    rintro e w1 ⟨rfl, hb1⟩
    obtain ⟨hc1, hf1⟩ := bcell hb1
    obtain ⟨hz1, hz2, hz3⟩ := size_alloc3 hb1
    have hB := Lib.hid (below_alloc3 hb1)
    clear hb1
    go_wp2_with fail
    refine (valid_any c d _ (by omega) (by omega) (by omega) (by omega)).mono ?_
    rintro e w2 ⟨rfl, hb2⟩
    obtain ⟨hc2, hf2⟩ := bcell hb2
    have hs2 := hb2.size
    have hz4 : w.heap.size < w2.heap.size := by omega
    have hz5 : w.heap.size + 1 < w2.heap.size := by omega
    have hz6 : w.heap.size + 2 < w2.heap.size := by omega
    have hB2 := Lib.hid (hB.out.trans (hb2.mono (by omega)))
    clear hb2 hs2
    go_wp2_with fail
    refine (reduce_ret HR _ (by omega) (by omega) (by omega) (by omega) HN.out).mono ?_
    rintro e w3 ⟨rfl, hb3⟩
    obtain ⟨hc3, hf3⟩ := bcell hb3
    have hB3 := Lib.hid (hB2.out.trans (hb3.mono (by omega)))
    clear hb3
    go_wp2
    exact bodyPost_ret (v := .tuple #[.agg #[.int .i64 r.1, .int .i64 r.2.1], .int .i64 r.2.2]) (by simp [results, Tryd.results22, go_sem, hc3, hc2, hc1, hz3, hz6]) rfl ⟨rfl, below_set2 hB3.out⟩

/-- rational.Mul -/
theorem mul_any (a b c d : Int) (w : World) (ha : I64 a) (hb : I64 b) (hc : I64 c) (hd : I64 d) :
    Calls Tryd.prog 22 #[.agg #[.int .i64 a, .int .i64 b], .agg #[.int .i64 c, .int .i64 d]] w (Ret (mulZ a b c d) w) := by
  cases h : validR a b
  · exact mul_arg1 a b c d w ha hb hc hd h
  · cases k : validR c d with
    | false => exact mul_arg2 a b c d w ha hb hc hd h k
    | true => exact mul_ok a b c d w ha hb hc hd h k
set_option maxHeartbeats 1000000 in
theorem div_arg1 (a b c d : Int) (w : World) (ha : I64 a) (hb : I64 b) (hc : I64 c) (hd : I64 d) (h : validR a b = false) :
    Calls Tryd.prog 38 #[.agg #[.int .i64 a, .int .i64 b], .agg #[.int .i64 c, .int .i64 d]] w (Ret (divZ a b c d) w) := by
    have fin := Lib.hid (divZ_arg1 (c := c) (d := d) h)
    obtain ⟨a1, a2⟩ := ha
    obtain ⟨b1, b2⟩ := hb
    obtain ⟨c1, c2⟩ := hc
    obtain ⟨d1, d2⟩ := hd
    go_enter Tryd.func38, Tryd.ntmps38
    go_wp2_with fail
    refine (valid_any a b _ (by omega) (by omega) (by omega) (by omega)).mono ?_
    rintro e w1 ⟨rfl, hb1⟩
    obtain ⟨hc1, hf1⟩ := bcell hb1
    obtain ⟨hz1, hz2, hz3⟩ := size_alloc3 hb1
    have hB := Lib.hid (below_alloc3 hb1)
    clear hb1
    go_wp2
    exact bodyPost_ret (v := .tuple #[.agg #[.int .i64 0, .int .i64 0], .int .i64 1]) (by simp [results, Tryd.results38, go_sem, hc1]) rfl (ret_of fin.out (below_set2 hB.out))

set_option maxHeartbeats 1000000 in
theorem div_arg2 (a b c d : Int) (w : World) (ha : I64 a) (hb : I64 b) (hc : I64 c) (hd : I64 d) (h : validR a b = true) (k : validR c d = false) :
    Calls Tryd.prog 38 #[.agg #[.int .i64 a, .int .i64 b], .agg #[.int .i64 c, .int .i64 d]] w (Ret (divZ a b c d) w) := by
    have fin := Lib.hid (divZ_arg2 (a := a) (b := b) k)
    obtain ⟨a1, a2⟩ := ha
    obtain ⟨b1, b2⟩ := hb
    obtain ⟨c1, c2⟩ := hc
    obtain ⟨d1, d2⟩ := hd
    go_enter Tryd.func38, Tryd.ntmps38
    go_wp2_with fail
    refine (valid_any a b _ (by omega) (by omega) (by omega) (by omega)).mono ?_
    rintro e w1 ⟨rfl, hb1⟩
    obtain ⟨hc1, hf1⟩ := bcell hb1
    obtain ⟨hz1, hz2, hz3⟩ := size_alloc3 hb1
    have hB := Lib.hid (below_alloc3 hb1)
    clear hb1
    go_wp2_with fail
    refine (valid_any c d _ (by omega) (by omega) (by omega) (by omega)).mono ?_
    rintro e w2 ⟨rfl, hb2⟩
    obtain ⟨hc2, hf2⟩ := bcell hb2
    have hs2 := hb2.size
    have hz4 : w.heap.size < w2.heap.size := by omega
    have hz5 : w.heap.size + 1 < w2.heap.size := by omega
    have hz6 : w.heap.size + 2 < w2.heap.size := by omega
    have hB2 := Lib.hid (hB.out.trans (hb2.mono (by omega)))
    clear hb2 hs2
    go_wp2
    exact bodyPost_ret (v := .tuple #[.agg #[.int .i64 0, .int .i64 0], .int .i64 1]) (by simp [results, Tryd.results38, go_sem, hc2, hc1, hz3]) rfl (ret_of fin.out (below_set2 hB2.out))

set_option maxHeartbeats 1000000 in
theorem div_ok (a b c d : Int) (w : World) (ha : I64 a) (hb : I64 b) (hc : I64 c) (hd : I64 d) (h : validR a b = true) (k : validR c d = true) (hz : c ≠ 0) :
    Calls Tryd.prog 38 #[.agg #[.int .i64 a, .int .i64 b], .agg #[.int .i64 c, .int .i64 d]] w (Ret (divZ a b c d) w) := by
    obtain ⟨r, hr⟩ : ∃ r, divZ a b c d = r := ⟨_, rfl⟩
    rw [hr]
    have E := (div_make h k hz).symm.trans hr
    obtain ⟨p1, p2, p3, p4, _⟩ := valid_parts h
    obtain ⟨q1, q2, q3, q4, _⟩ := valid_parts k
    obtain ⟨m1, m2⟩ := prod_bd p3 p4 (show -2147483647 ≤ d by omega) q2
    obtain ⟨m5, m6⟩ := prod_bd (show -2147483647 ≤ b by omega) p2 q3 q4
    have hne : b * c ≠ 0 := Int.mul_ne_zero (by omega) hz
    have hcz : (c == 0) = false := by simp [hz]
    have HR := Lib.hid E
    have HN := Lib.hid hne
    clear E hr hne hz
    obtain ⟨a1, a2⟩ := ha
    obtain ⟨b1, b2⟩ := hb
    obtain ⟨c1, c2⟩ := hc
    obtain ⟨d1, d2⟩ := hd
    go_enter Tryd.func38, Tryd.ntmps38
    go_wp2_with fail
    refine (valid_any a b _ (by omega) (by omega) (by omega) (by omega)).mono ?_
    rintro e w1 ⟨rfl, hb1⟩
    obtain ⟨hc1, hf1⟩ := bcell hb1
    obtain ⟨hz1, hz2, hz3⟩ := size_alloc3 hb1
    have hB := Lib.hid (below_alloc3 hb1)
    clear hb1
    go_wp2_with fail
    refine (valid_any c d _ (by omega) (by omega) (by omega) (by omega)).mono ?_
    rintro e w2 ⟨rfl, hb2⟩
    obtain ⟨hc2, hf2⟩ := bcell hb2
    have hs2 := hb2.size
    have hz4 : w.heap.size < w2.heap.size := by omega
    have hz5 : w.heap.size + 1 < w2.heap.size := by omega
    have hz6 : w.heap.size + 2 < w2.heap.size := by omega
    have hB2 := Lib.hid (hB.out.trans (hb2.mono (by omega)))
    clear hb2 hs2
    go_wp2_with fail
    refine (reduce_ret HR _ (by omega) (by omega) (by omega) (by omega) HN.out).mono ?_
    rintro e w3 ⟨rfl, hb3⟩
    obtain ⟨hc3, hf3⟩ := bcell hb3
    have hB3 := Lib.hid (hB2.out.trans (hb3.mono (by omega)))
    clear hb3
    go_wp2
    exact bodyPost_ret (v := .tuple #[.agg #[.int .i64 r.1, .int .i64 r.2.1], .int .i64 r.2.2]) (by simp [results, Tryd.results38, go_sem, hc3, hc2, hc1, hz3, hz6]) rfl ⟨rfl, below_set2 hB3.out⟩

set_option maxHeartbeats 1000000 in
theorem div_by_zero (a b c d : Int) (w : World) (ha : I64 a) (hb : I64 b) (hc : I64 c) (hd : I64 d) (h : validR a b = true) (k : validR c d = true) (hz : c = 0) :
    Calls Tryd.prog 38 #[.agg #[.int .i64 a, .int .i64 b], .agg #[.int .i64 c, .int .i64 d]] w (Ret (divZ a b c d) w) := by
    have fin : Hid (divZ a b c d = (0, 0, 10)) := Lib.hid (by subst hz; exact div_zero h k)
    have hcz : (c == 0) = true := by simp [hz]
    clear hz
    obtain ⟨a1, a2⟩ := ha
    obtain ⟨b1, b2⟩ := hb
    obtain ⟨c1, c2⟩ := hc
    obtain ⟨d1, d2⟩ := hd
    go_enter Tryd.func38, Tryd.ntmps38
    go_wp2_with fail
    refine (valid_any a b _ (by omega) (by omega) (by omega) (by omega)).mono ?_
    rintro e w1 ⟨rfl, hb1⟩
    obtain ⟨hc1, hf1⟩ := bcell hb1
    obtain ⟨hz1, hz2, hz3⟩ := size_alloc3 hb1
    have hB := Lib.hid (below_alloc3 hb1)
    clear hb1
    go_wp2_with fail
    refine (valid_any c d _ (by omega) (by omega) (by omega) (by omega)).mono ?_
    rintro e w2 ⟨rfl, hb2⟩
    obtain ⟨hc2, hf2⟩ := bcell hb2
    have hs2 := hb2.size
    have hz4 : w.heap.size < w2.heap.size := by omega
    have hz5 : w.heap.size + 1 < w2.heap.size := by omega
    have hz6 : w.heap.size + 2 < w2.heap.size := by omega
    have hB2 := Lib.hid (hB.out.trans (hb2.mono (by omega)))
    clear hb2 hs2
    go_wp2
    exact bodyPost_ret (v := .tuple #[.agg #[.int .i64 0, .int .i64 0], .int .i64 10]) (by simp [results, Tryd.results38, go_sem, hc2, hc1, hz3]) rfl (ret_of fin.out (below_set2 hB2.out))

/-- rational.Div -/
theorem div_any (a b c d : Int) (w : World) (ha : I64 a) (hb : I64 b) (hc : I64 c) (hd : I64 d) :
    Calls Tryd.prog 38 #[.agg #[.int .i64 a, .int .i64 b], .agg #[.int .i64 c, .int .i64 d]] w (Ret (divZ a b c d) w) := by
  cases h : validR a b
  · exact div_arg1 a b c d w ha hb hc hd h
  · cases k : validR c d with
    | false => exact div_arg2 a b c d w ha hb hc hd h k
    | true => 
      by_cases hz : c = 0
      · exact div_by_zero a b c d w ha hb hc hd h k hz
      · exact div_ok a b c d w ha hb hc hd h k hz
end Go.Proofs.YtggiljlndenjoaaDoor.RatM
