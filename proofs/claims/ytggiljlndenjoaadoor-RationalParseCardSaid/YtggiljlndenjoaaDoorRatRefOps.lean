/- Contracts of Add, Mul and Div of the reference. -/
import Derived.Test.YtggiljlndenjoaaDoorRatOps
namespace Go.Proofs.YtggiljlndenjoaaDoor.RatM
open Go Go.RowKit

set_option maxHeartbeats 1000000 in
theorem refadd_arg1 (a b c d : Int) (w : World) (ha : I64 a) (hb : I64 b) (hc : I64 c) (hd : I64 d) (h : validR a b = false) :
    Calls Tryd.prog 12 #[.agg #[.int .i64 a, .int .i64 b], .agg #[.int .i64 c, .int .i64 d]] w (Ret (addZ a b c d) w) := by
    have fin := Lib.hid (addZ_arg1 (c := c) (d := d) h)
    obtain ⟨a1, a2⟩ := ha
    obtain ⟨b1, b2⟩ := hb
    obtain ⟨c1, c2⟩ := hc
    obtain ⟨d1, d2⟩ := hd
    go_enter Tryd.func12, Tryd.ntmps12
    go_wp2_with fail
    refine (refvalid_any a b _ (by omega) (by omega) (by omega) (by omega)).mono ?_
    rintro e w1 ⟨rfl, hb1⟩
    obtain ⟨hc1, hf1⟩ := bcell hb1
    obtain ⟨hz1, hz2, hz3⟩ := size_alloc3 hb1
    have hB := Lib.hid (below_alloc3 hb1)
    clear hb1
    go_wp2
    exact bodyPost_ret (v := .tuple #[.agg #[.int .i64 0, .int .i64 0], .int .i64 1]) (by simp [results, Tryd.results12, go_sem, hc1]) rfl (ret_of fin.out (below_set2 hB.out))

set_option maxHeartbeats 1000000 in
theorem refadd_arg2 (a b c d : Int) (w : World) (ha : I64 a) (hb : I64 b) (hc : I64 c) (hd : I64 d) (h : validR a b = true) (k : validR c d = false) :
    Calls Tryd.prog 12 #[.agg #[.int .i64 a, .int .i64 b], .agg #[.int .i64 c, .int .i64 d]] w (Ret (addZ a b c d) w) := by
    have fin := Lib.hid (addZ_arg2 (a := a) (b := b) k)
    obtain ⟨a1, a2⟩ := ha
    obtain ⟨b1, b2⟩ := hb
    obtain ⟨c1, c2⟩ := hc
    obtain ⟨d1, d2⟩ := hd
    go_enter Tryd.func12, Tryd.ntmps12
    go_wp2_with fail
    refine (refvalid_any a b _ (by omega) (by omega) (by omega) (by omega)).mono ?_
    rintro e w1 ⟨rfl, hb1⟩
    obtain ⟨hc1, hf1⟩ := bcell hb1
    obtain ⟨hz1, hz2, hz3⟩ := size_alloc3 hb1
    have hB := Lib.hid (below_alloc3 hb1)
    clear hb1
    go_wp2_with fail
    refine (refvalid_any c d _ (by omega) (by omega) (by omega) (by omega)).mono ?_
    rintro e w2 ⟨rfl, hb2⟩
    obtain ⟨hc2, hf2⟩ := bcell hb2
    have hs2 := hb2.size
    have hz4 : w.heap.size < w2.heap.size := by omega
    have hz5 : w.heap.size + 1 < w2.heap.size := by omega
    have hz6 : w.heap.size + 2 < w2.heap.size := by omega
    have hB2 := Lib.hid (hB.out.trans (hb2.mono (by omega)))
    clear hb2 hs2
    go_wp2
    exact bodyPost_ret (v := .tuple #[.agg #[.int .i64 0, .int .i64 0], .int .i64 1]) (by simp [results, Tryd.results12, go_sem, hc2, hc1, hz3]) rfl (ret_of fin.out (below_set2 hB2.out))

set_option maxHeartbeats 1000000 in
theorem refadd_ok (a b c d : Int) (w : World) (ha : I64 a) (hb : I64 b) (hc : I64 c) (hd : I64 d) (h : validR a b = true) (k : validR c d = true) :
    Calls Tryd.prog 12 #[.agg #[.int .i64 a, .int .i64 b], .agg #[.int .i64 c, .int .i64 d]] w (Ret (addZ a b c d) w) := by
    obtain ⟨r, hr⟩ : ∃ r, addZ a b c d = r := ⟨_, rfl⟩
    rw [hr]
    have E := (add_make h k).symm.trans hr
    obtain ⟨p1, p2, p3, p4, _⟩ := valid_parts h
    obtain ⟨q1, q2, q3, q4, _⟩ := valid_parts k
    obtain ⟨m1, m2⟩ := prod_bd p3 p4 (show -2147483647 ≤ d by omega) q2
    obtain ⟨m3, m4⟩ := prod_bd q3 q4 (show -2147483647 ≤ b by omega) p2
    obtain ⟨m5, m6⟩ := prod_bd (show -2147483647 ≤ b by omega) p2 (show -2147483647 ≤ d by omega) q2
    have m7 := pos_prod p1 q1
    have hne : b * d ≠ 0 := by omega
    have HR := Lib.hid (make_ne hne E)
    clear E hr hne
    obtain ⟨a1, a2⟩ := ha
    obtain ⟨b1, b2⟩ := hb
    obtain ⟨c1, c2⟩ := hc
    obtain ⟨d1, d2⟩ := hd
    go_enter Tryd.func12, Tryd.ntmps12
    go_wp2_with fail
    refine (refvalid_any a b _ (by omega) (by omega) (by omega) (by omega)).mono ?_
    rintro e w1 ⟨rfl, hb1⟩
    obtain ⟨hc1, hf1⟩ := bcell hb1
    obtain ⟨hz1, hz2, hz3⟩ := size_alloc3 hb1
    have hB := Lib.hid (below_alloc3 hb1)
    clear hb1
    go_wp2_with fail
    refine (refvalid_any c d _ (by omega) (by omega) (by omega) (by omega)).mono ?_
    rintro e w2 ⟨rfl, hb2⟩
    obtain ⟨hc2, hf2⟩ := bcell hb2
    have hs2 := hb2.size
    have hz4 : w.heap.size < w2.heap.size := by omega
    have hz5 : w.heap.size + 1 < w2.heap.size := by omega
    have hz6 : w.heap.size + 2 < w2.heap.size := by omega
    have hB2 := Lib.hid (hB.out.trans (hb2.mono (by omega)))
    clear hb2 hs2
    go_wp2_with fail
    refine (make_ret HR _ (by omega) (by omega) (by omega) (by omega)).mono ?_
    rintro e w3 ⟨rfl, hb3⟩
    obtain ⟨hc3, hf3⟩ := bcell hb3
    have hB3 := Lib.hid (hB2.out.trans (hb3.mono (by omega)))
    clear hb3
    go_wp2
    exact bodyPost_ret (v := .tuple #[.agg #[.int .i64 r.1, .int .i64 r.2.1], .int .i64 r.2.2]) (by simp [results, Tryd.results12, go_sem, hc3, hc2, hc1, hz3, hz6]) rfl ⟨rfl, below_set2 hB3.out⟩

/-- vinculumref02.Add -/
theorem refadd_any (a b c d : Int) (w : World) (ha : I64 a) (hb : I64 b) (hc : I64 c) (hd : I64 d) :
    Calls Tryd.prog 12 #[.agg #[.int .i64 a, .int .i64 b], .agg #[.int .i64 c, .int .i64 d]] w (Ret (addZ a b c d) w) := by
  cases h : validR a b
  · exact refadd_arg1 a b c d w ha hb hc hd h
  · cases k : validR c d with
    | false => exact refadd_arg2 a b c d w ha hb hc hd h k
    | true => exact refadd_ok a b c d w ha hb hc hd h k
end Go.Proofs.YtggiljlndenjoaaDoor.RatM
