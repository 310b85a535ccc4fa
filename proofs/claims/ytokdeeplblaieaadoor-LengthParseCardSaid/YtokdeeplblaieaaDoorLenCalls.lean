/- Contracts of Half, Scale and MulDiv of package length, and of the reference's: the specified result for every argument. -/
import Derived.Test.YtokdeeplblaieaaDoorLenWalks
namespace Go.Proofs.YtokdeeplblaieaaDoor.Len
open Go Go.RowKit

theorem ret_same {w : World} {a b : Int} (h : a = b) : Ending.returned (.int .i64 a) = .returned (.int .i64 b) ∧ ∃ m, w = w.drewN m := ⟨by rw [h], 0, rfl⟩

/-- length.Half -/
theorem half_any (n : Int) (w : World) :
    Calls Tryd.prog 15 #[.int .i64 n] w fun e w' => e = .returned (.int .i64 (halfZ n)) ∧ ∃ m, w' = w.drewN m := by
  cases hv : validZ n with
  | false =>
    have fin := Lib.hid (show halfZ n = 0 by simp [halfZ, hv])
    go_enter Tryd.func15, Tryd.ntmps15
    go_wp2_with (go_at_call 11; refine (valid_any _ _).mono ?_; rintro e w' ⟨rfl, rfl⟩)
    go_ret
    exact ret_same fin.out.symm
  | true =>
    have fin := Lib.hid (show halfZ n = rnd n 2 by simp [halfZ, hv])
    have hb := valid_bd hv
    obtain ⟨hb1, hb2⟩ := hb
    go_enter Tryd.func15, Tryd.ntmps15
    go_wp2_with (first | (go_at_call 11; refine (valid_any _ _).mono ?_; rintro e w' ⟨rfl, rfl⟩) | (go_at_call 27; refine (round_any _ _ _ (by omega) (by omega) (by omega) (by omega) (by omega)).mono ?_; rintro e w' ⟨rfl, m, rfl⟩))
    go_ret
    exact fin_drewN fin.out.symm
theorem refhalf_any (n : Int) (w : World) :
    Calls Tryd.prog 16 #[.int .i64 n] w fun e w' => e = .returned (.int .i64 (halfZ n)) ∧ w' = w := by
  cases hv : validZ n with
  | false =>
    have fin := Lib.hid (show halfZ n = 0 by simp [halfZ, hv])
    go_enter Tryd.func16, Tryd.ntmps16
    go_wp2_with (go_at_call 12; refine (refvalid_any _ _).mono ?_; rintro e w' ⟨rfl, rfl⟩)
    go_ret
    exact ⟨ret_int fin.out.symm, rfl⟩
  | true =>
    have fin := Lib.hid (show halfZ n = rnd n 2 by simp [halfZ, hv])
    have hb := valid_bd hv
    obtain ⟨hb1, hb2⟩ := hb
    go_enter Tryd.func16, Tryd.ntmps16
    go_wp2_with (first | (go_at_call 12; refine (refvalid_any _ _).mono ?_; rintro e w' ⟨rfl, rfl⟩) | (go_at_call 28; refine (refround_any _ _ _ (by omega) (by omega) (by omega) (by omega) (by omega)).mono ?_; rintro e w' ⟨rfl, rfl⟩))
    go_ret
    exact ⟨ret_int fin.out.symm, rfl⟩

/-- length.Scale -/
theorem scale_any (n p : Int) (w : World) :
    Calls Tryd.prog 13 #[.int .i64 n, .int .i64 p] w fun e w' => e = .returned (.int .i64 (scaleZ n p)) ∧ ∃ m, w' = w.drewN m := by
  by_cases h : validZ n = true ∧ 0 ≤ p ∧ p ≤ 10000
  · have fin := Lib.hid (show scaleZ n p = rnd (n * p) 100 by simp [scaleZ, h])
    obtain ⟨hv, hp1, hp2⟩ := h
    obtain ⟨hb1, hb2⟩ := valid_bd hv
    obtain ⟨hm1, hm2⟩ := mul_bd (A := 1073741824) (B := 10000) hb1 hb2 (by omega) hp2
    go_enter Tryd.func13, Tryd.ntmps13
    go_wp2_with (first | (go_at_call 11; refine (valid_any _ _).mono ?_; rintro e w' ⟨rfl, rfl⟩) | (go_at_call 27; refine (round_any _ _ _ (by omega) (by omega) (by omega) (by omega) (by omega)).mono ?_; rintro e w' ⟨rfl, m, rfl⟩))
    go_ret
    exact fin_drewN fin.out.symm
  · have fin := Lib.hid (show scaleZ n p = 0 by rw [scaleZ, if_neg h])
    cases hv : validZ n with
    | false =>
      clear h
      by_cases hp1 : p < 0 <;> by_cases hp2 : 10000 < p
      all_goals
        go_enter Tryd.func13, Tryd.ntmps13
        go_wp2_with (go_at_call 11; refine (valid_any _ _).mono ?_; rintro e w' ⟨rfl, rfl⟩)
        go_ret
        exact ret_same fin.out.symm
    | true =>
      have h3 : p < 0 ∨ 10000 < p := by
        simp only [hv, true_and] at h; omega
      clear h
      rcases h3 with hp1 | hp1
      all_goals
        go_enter Tryd.func13, Tryd.ntmps13
        go_wp2_with (go_at_call 11; refine (valid_any _ _).mono ?_; rintro e w' ⟨rfl, rfl⟩)
        go_ret
        exact ret_same fin.out.symm
theorem refscale_any (n p : Int) (w : World) :
    Calls Tryd.prog 14 #[.int .i64 n, .int .i64 p] w fun e w' => e = .returned (.int .i64 (scaleZ n p)) ∧ w' = w := by
  by_cases h : validZ n = true ∧ 0 ≤ p ∧ p ≤ 10000
  · have fin := Lib.hid (show scaleZ n p = rnd (n * p) 100 by simp [scaleZ, h])
    obtain ⟨hv, hp1, hp2⟩ := h
    obtain ⟨hb1, hb2⟩ := valid_bd hv
    obtain ⟨hm1, hm2⟩ := mul_bd (A := 1073741824) (B := 10000) hb1 hb2 (by omega) hp2
    go_enter Tryd.func14, Tryd.ntmps14
    go_wp2_with (first | (go_at_call 12; refine (refvalid_any _ _).mono ?_; rintro e w' ⟨rfl, rfl⟩) | (go_at_call 28; refine (refround_any _ _ _ (by omega) (by omega) (by omega) (by omega) (by omega)).mono ?_; rintro e w' ⟨rfl, rfl⟩))
    go_ret
    exact ⟨ret_int fin.out.symm, rfl⟩
  · have fin := Lib.hid (show scaleZ n p = 0 by rw [scaleZ, if_neg h])
    cases hv : validZ n with
    | false =>
      clear h
      by_cases hp1 : p < 0 <;> by_cases hp2 : 10000 < p
      all_goals
        go_enter Tryd.func14, Tryd.ntmps14
        go_wp2_with (go_at_call 12; refine (refvalid_any _ _).mono ?_; rintro e w' ⟨rfl, rfl⟩)
        go_ret
        exact ⟨ret_int fin.out.symm, rfl⟩
    | true =>
      have h3 : p < 0 ∨ 10000 < p := by
        simp only [hv, true_and] at h; omega
      clear h
      rcases h3 with hp1 | hp1
      all_goals
        go_enter Tryd.func14, Tryd.ntmps14
        go_wp2_with (go_at_call 12; refine (refvalid_any _ _).mono ?_; rintro e w' ⟨rfl, rfl⟩)
        go_ret
        exact ⟨ret_int fin.out.symm, rfl⟩

theorem muldiv_any (n a b : Int) (w : World) :
    Calls Tryd.prog 17 #[.int .i64 n, .int .i64 a, .int .i64 b] w fun e w' => e = .returned (.int .i64 (mulDivZ n a b)) ∧ ∃ m, w' = w.drewN m := by
  by_cases h : validZ n = true ∧ validZ a = true ∧ validZ b = true ∧ b ≠ 0
  · have fin := Lib.hid (show mulDivZ n a b = rnd (n * a) b by rw [mulDivZ, if_pos h])
    obtain ⟨hv, ha, hb, h0⟩ := h
    obtain ⟨hb1, hb2⟩ := valid_bd hv
    obtain ⟨ha1, ha2⟩ := valid_bd ha
    obtain ⟨hc1, hc2⟩ := valid_bd hb
    obtain ⟨hm1, hm2⟩ := mul_bd (A := 1073741824) (B := 1073741824) hb1 hb2 ha1 ha2
    go_enter Tryd.func17, Tryd.ntmps17
    go_wp2_with (first | (go_at_call 11; refine (valid_any _ _).mono ?_; rintro e w' ⟨rfl, rfl⟩) | (go_at_call 27; refine (round_any _ _ _ (by omega) (by omega) (by omega) (by omega) (by omega)).mono ?_; rintro e w' ⟨rfl, m, rfl⟩))
    go_ret
    exact fin_drewN fin.out.symm
  · have fin := Lib.hid (show mulDivZ n a b = 0 by rw [mulDivZ, if_neg h])
    have hz : validZ n = true → validZ a = true → validZ b = true → b = 0 := fun x y z => by
      by_cases e : b = 0
      · exact e
      · exact absurd ⟨x, y, z, e⟩ h
    clear h
    have HZ := Lib.hid hz
    clear hz
    cases hv : validZ n <;> cases ha : validZ a <;> cases hb : validZ b <;> by_cases h0 : b = 0
    all_goals first
      | exact absurd (HZ.out hv ha hb) h0
      | (have h1 : (b == 0) = true := by simp [h0]
         clear h0
         go_enter Tryd.func17, Tryd.ntmps17
         go_wp2_with (go_at_call 11; refine (valid_any _ _).mono ?_; rintro e w' ⟨rfl, rfl⟩)
         go_ret
         exact ret_same fin.out.symm)
      | (have h1 : (b == 0) = false := by simp [h0]
         go_enter Tryd.func17, Tryd.ntmps17
         go_wp2_with (go_at_call 11; refine (valid_any _ _).mono ?_; rintro e w' ⟨rfl, rfl⟩)
         go_ret
         exact ret_same fin.out.symm)

theorem refmuldiv_any (n a b : Int) (w : World) :
    Calls Tryd.prog 18 #[.int .i64 n, .int .i64 a, .int .i64 b] w fun e w' => e = .returned (.int .i64 (mulDivZ n a b)) ∧ w' = w := by
  by_cases h : validZ n = true ∧ validZ a = true ∧ validZ b = true ∧ b ≠ 0
  · have fin := Lib.hid (show mulDivZ n a b = rnd (n * a) b by rw [mulDivZ, if_pos h])
    obtain ⟨hv, ha, hb, h0⟩ := h
    obtain ⟨hb1, hb2⟩ := valid_bd hv
    obtain ⟨ha1, ha2⟩ := valid_bd ha
    obtain ⟨hc1, hc2⟩ := valid_bd hb
    obtain ⟨hm1, hm2⟩ := mul_bd (A := 1073741824) (B := 1073741824) hb1 hb2 ha1 ha2
    go_enter Tryd.func18, Tryd.ntmps18
    go_wp2_with (first | (go_at_call 12; refine (refvalid_any _ _).mono ?_; rintro e w' ⟨rfl, rfl⟩) | (go_at_call 28; refine (refround_any _ _ _ (by omega) (by omega) (by omega) (by omega) (by omega)).mono ?_; rintro e w' ⟨rfl, rfl⟩))
    go_ret
    exact ⟨ret_int fin.out.symm, rfl⟩
  · have fin := Lib.hid (show mulDivZ n a b = 0 by rw [mulDivZ, if_neg h])
    have hz : validZ n = true → validZ a = true → validZ b = true → b = 0 := fun x y z => by
      by_cases e : b = 0
      · exact e
      · exact absurd ⟨x, y, z, e⟩ h
    clear h
    have HZ := Lib.hid hz
    clear hz
    cases hv : validZ n <;> cases ha : validZ a <;> cases hb : validZ b <;> by_cases h0 : b = 0
    all_goals first
      | exact absurd (HZ.out hv ha hb) h0
      | (have h1 : (b == 0) = true := by simp [h0]
         clear h0
         go_enter Tryd.func18, Tryd.ntmps18
         go_wp2_with (go_at_call 12; refine (refvalid_any _ _).mono ?_; rintro e w' ⟨rfl, rfl⟩)
         go_ret
         exact ⟨ret_int fin.out.symm, rfl⟩)
      | (have h1 : (b == 0) = false := by simp [h0]
         go_enter Tryd.func18, Tryd.ntmps18
         go_wp2_with (go_at_call 12; refine (refvalid_any _ _).mono ?_; rintro e w' ⟨rfl, rfl⟩)
         go_ret
         exact ⟨ret_int fin.out.symm, rfl⟩)
end Go.Proofs.YtokdeeplblaieaaDoor.Len
