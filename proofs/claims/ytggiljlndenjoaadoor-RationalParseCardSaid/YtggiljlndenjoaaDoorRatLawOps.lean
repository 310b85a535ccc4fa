/- Contracts of op and agree of layer 2's laws. -/
import Derived.Test.YtggiljlndenjoaaDoorRatTwo
namespace Go.Proofs.YtggiljlndenjoaaDoor.RatM
open Go Go.RowKit

theorem op_add {r s : Res} (hr : r.2.2 = 0) (hs : s.2.2 = 0) : opZ 0 r s = addZ r.1 r.2.1 s.1 s.2.1 := by rw [opZ, if_pos ⟨hr, hs⟩, if_pos rfl]
theorem op_mul {r s : Res} (hr : r.2.2 = 0) (hs : s.2.2 = 0) : opZ 2 r s = mulZ r.1 r.2.1 s.1 s.2.1 := by rw [opZ, if_pos ⟨hr, hs⟩, if_neg (by decide), if_neg (by decide), if_pos rfl]

theorem op_err1 (k : Int) (x y : Res) (w : World) (h : x.2.2 ≠ 0) :
    Calls Tryd.prog 20 #[.int .i64 k, .agg #[.int .i64 x.1, .int .i64 x.2.1], .int .i64 x.2.2, .agg #[.int .i64 y.1, .int .i64 y.2.1], .int .i64 y.2.2] w (Ret (opZ k x y) w) := by
  have fin : Hid (opZ k x y = (0, 0, 2)) := Lib.hid (op_no1 h)
  have h1 : (x.2.2 != 0) = true := by simpa using h
  clear h
  go_enter Tryd.func20, Tryd.ntmps20
  go_wp2
  exact bodyPost_ret (v := .tuple #[.agg #[.int .i64 0, .int .i64 0], .int .i64 2]) (by simp [results, Tryd.results20, go_sem]) rfl (ret_of fin.out ((((Below.refl _ _).alloc (Nat.le_refl _) _).alloc (by simp) _).alloc (by simp; omega) _))
theorem op_err2 (k : Int) (x y : Res) (w : World) (h0 : x.2.2 = 0) (h : y.2.2 ≠ 0) :
    Calls Tryd.prog 20 #[.int .i64 k, .agg #[.int .i64 x.1, .int .i64 x.2.1], .int .i64 x.2.2, .agg #[.int .i64 y.1, .int .i64 y.2.1], .int .i64 y.2.2] w (Ret (opZ k x y) w) := by
  have fin : Hid (opZ k x y = (0, 0, 2)) := Lib.hid (op_no2 h)
  have h1 : (y.2.2 != 0) = true := by simpa using h
  have h2 : (x.2.2 != 0) = false := by simp [h0]
  clear h h0
  go_enter Tryd.func20, Tryd.ntmps20
  go_wp2
  exact bodyPost_ret (v := .tuple #[.agg #[.int .i64 0, .int .i64 0], .int .i64 2]) (by simp [results, Tryd.results20, go_sem]) rfl (ret_of fin.out ((((Below.refl _ _).alloc (Nat.le_refl _) _).alloc (by simp) _).alloc (by simp; omega) _))
set_option maxHeartbeats 1000000 in
theorem op_ok0 (x y : Res) (w : World) (h0 : x.2.2 = 0) (h : y.2.2 = 0) (x1 : I64 x.1) (x2 : I64 x.2.1) (y1 : I64 y.1) (y2 : I64 y.2.1) :
    Calls Tryd.prog 20 #[.int .i64 0, .agg #[.int .i64 x.1, .int .i64 x.2.1], .int .i64 x.2.2, .agg #[.int .i64 y.1, .int .i64 y.2.1], .int .i64 y.2.2] w (Ret (opZ 0 x y) w) := by
  obtain ⟨r, hr⟩ : ∃ r, opZ 0 x y = r := ⟨_, rfl⟩
  rw [hr]
  have HR : Hid (addZ x.1 x.2.1 y.1 y.2.1 = r) := Lib.hid (by rw [← hr, op_add h0 h])
  have h1 : (y.2.2 != 0) = false := by simp [h]
  have h2 : (x.2.2 != 0) = false := by simp [h0]
  clear h h0 hr
  go_enter Tryd.func20, Tryd.ntmps20
  go_wp2_with fail
  refine (ret_at (add_any _ _ _ _ _ x1 x2 y1 y2) HR).mono ?_
  rintro e w1 ⟨rfl, hb1⟩
  obtain ⟨hc1, hf1⟩ := bcell hb1
  obtain ⟨hz1, hz2, hz3⟩ := size_alloc3 hb1
  have hB := Lib.hid (below_alloc3 hb1)
  clear hb1
  go_wp2
  exact bodyPost_ret (v := .tuple #[.agg #[.int .i64 r.1, .int .i64 r.2.1], .int .i64 r.2.2]) (by simp [results, Tryd.results20, go_sem, hc1]) rfl ⟨rfl, below_set2 hB.out⟩
set_option maxHeartbeats 1000000 in
theorem op_ok2 (x y : Res) (w : World) (h0 : x.2.2 = 0) (h : y.2.2 = 0) (x1 : I64 x.1) (x2 : I64 x.2.1) (y1 : I64 y.1) (y2 : I64 y.2.1) :
    Calls Tryd.prog 20 #[.int .i64 2, .agg #[.int .i64 x.1, .int .i64 x.2.1], .int .i64 x.2.2, .agg #[.int .i64 y.1, .int .i64 y.2.1], .int .i64 y.2.2] w (Ret (opZ 2 x y) w) := by
  obtain ⟨r, hr⟩ : ∃ r, opZ 2 x y = r := ⟨_, rfl⟩
  rw [hr]
  have HR : Hid (mulZ x.1 x.2.1 y.1 y.2.1 = r) := Lib.hid (by rw [← hr, op_mul h0 h])
  have h1 : (y.2.2 != 0) = false := by simp [h]
  have h2 : (x.2.2 != 0) = false := by simp [h0]
  clear h h0 hr
  go_enter Tryd.func20, Tryd.ntmps20
  go_wp2_with fail
  refine (ret_at (mul_any _ _ _ _ _ x1 x2 y1 y2) HR).mono ?_
  rintro e w1 ⟨rfl, hb1⟩
  obtain ⟨hc1, hf1⟩ := bcell hb1
  obtain ⟨hz1, hz2, hz3⟩ := size_alloc3 hb1
  have hB := Lib.hid (below_alloc3 hb1)
  clear hb1
  go_wp2
  exact bodyPost_ret (v := .tuple #[.agg #[.int .i64 r.1, .int .i64 r.2.1], .int .i64 r.2.2]) (by simp [results, Tryd.results20, go_sem, hc1]) rfl ⟨rfl, below_set2 hB.out⟩
/-- op, kind 0 -/
theorem op0_any (x y : Res) (w : World) (x1 : I64 x.1) (x2 : I64 x.2.1) (y1 : I64 y.1) (y2 : I64 y.2.1) :
    Calls Tryd.prog 20 #[.int .i64 0, .agg #[.int .i64 x.1, .int .i64 x.2.1], .int .i64 x.2.2, .agg #[.int .i64 y.1, .int .i64 y.2.1], .int .i64 y.2.2] w (Ret (opZ 0 x y) w) := by
  by_cases h0 : x.2.2 = 0
  · by_cases h : y.2.2 = 0
    · exact op_ok0 x y w h0 h x1 x2 y1 y2
    · exact op_err2 0 x y w h0 h
  · exact op_err1 0 x y w h0
/-- op, kind 2 -/
theorem op2_any (x y : Res) (w : World) (x1 : I64 x.1) (x2 : I64 x.2.1) (y1 : I64 y.1) (y2 : I64 y.2.1) :
    Calls Tryd.prog 20 #[.int .i64 2, .agg #[.int .i64 x.1, .int .i64 x.2.1], .int .i64 x.2.2, .agg #[.int .i64 y.1, .int .i64 y.2.1], .int .i64 y.2.2] w (Ret (opZ 2 x y) w) := by
  by_cases h0 : x.2.2 = 0
  · by_cases h : y.2.2 = 0
    · exact op_ok2 x y w h0 h x1 x2 y1 y2
    · exact op_err2 2 x y w h0 h
  · exact op_err1 2 x y w h0

theorem agree_parts {x y : Res} (h : agreeB x y = true) : x.2.2 ≠ 0 ∨ (x.2.2 = 0 ∧ y.2.2 ≠ 0) ∨ (x.2.2 = 0 ∧ y.2.2 = 0 ∧ x.1 = y.1 ∧ x.2.1 = y.2.1) := by
  have := of_decide_eq_true h
  omega
/-- agree, where it holds -/
theorem agree_any (x y : Res) (w : World) (h : agreeB x y = true) :
    Calls Tryd.prog 21 #[.agg #[.int .i64 x.1, .int .i64 x.2.1], .int .i64 x.2.2, .agg #[.int .i64 y.1, .int .i64 y.2.1], .int .i64 y.2.2] w fun e w' => e = .returned (.bool true) ∧ Below w.heap.size w w' := by
  rcases agree_parts h with h1 | ⟨h0, h1⟩ | ⟨h0, h1, h2, h3⟩
  · have e1 : (x.2.2 != 0) = true := by simpa using h1
    clear h h1
    go_enter Tryd.func21, Tryd.ntmps21
    go_wp2
    go_ret
    exact ⟨rfl, ((Below.refl _ _).alloc (Nat.le_refl _) _).alloc (by simp) _⟩
  · have e1 : (y.2.2 != 0) = true := by simpa using h1
    have e0 : (x.2.2 != 0) = false := by simp [h0]
    clear h h0 h1
    go_enter Tryd.func21, Tryd.ntmps21
    go_wp2
    go_ret
    exact ⟨rfl, ((Below.refl _ _).alloc (Nat.le_refl _) _).alloc (by simp) _⟩
  · obtain ⟨a, b, c⟩ := x
    obtain ⟨a', b', c'⟩ := y
    simp only at h0 h1 h2 h3
    subst h0; subst h1; subst h2; subst h3
    clear h
    go_enter Tryd.func21, Tryd.ntmps21
    go_wp2
    go_ret
    exact ⟨rfl, ((Below.refl _ _).alloc (Nat.le_refl _) _).alloc (by simp) _⟩
end Go.Proofs.YtggiljlndenjoaaDoor.RatM
