/- The program's package font: names, numbers in a range, metrics, parameters, heights. -/
import Derived.Test.YtjhpajdkklklhaaFonRef1
namespace Go.Proofs.Ytjhpajdkklklhaa.Fon
open Go Go.RowKit By

set_option maxHeartbeats 1000000 in
theorem name_any (s : ByteArray) (w : World) (hs : s.size ≤ 9223372036854775807) : Calls Try.prog 46 #[.string s] w fun e w' => e = .returned (.bool (nameB s)) ∧ w' = w := by
  obtain ⟨B, hB⟩ : ∃ B, nameB s = B := ⟨_, rfl⟩
  have HB : Hid ((s.data.toList.all okC && decide (1 ≤ s.size) && decide (s.size ≤ 16)) = B) := Lib.hid hB
  have H0 : Hid ((s.data.toList.take 0).all okC = true) := Lib.hid (by simp)
  rw [hB]
  clear hB
  have hsI : (s.size : Int) ≤ 9223372036854775807 := by omega
  by_cases he : s.size = 0
  · have HF : Hid (B = false) := Lib.hid (by rw [← HB.out, he]; simp)
    obtain rfl : s = ⟨#[]⟩ := by
      obtain ⟨a⟩ := s
      have : a.size = 0 := he
      rw [Array.eq_empty_of_size_eq_zero this]
    clear HB H0 hs hsI he
    go_enter Try.func46, Try.ntmps46
    go_wp2
    go_ret
    exact ⟨ret_bool HF.out.symm, rfl⟩
  have hne : s.toList.isEmpty = false := by
    rw [Go.ByteArray.toList_eq, List.isEmpty_eq_false_iff]
    intro h
    have h2 : s.data.toList.length = s.size := by rw [Array.length_toList]; rfl
    rw [h] at h2
    exact he h2.symm
  by_cases hb : s.size ≤ 16
  rotate_left
  · have hbi : (16 : Int) < (s.size : Int) := by omega
    have HF : Hid (B = false) := Lib.hid (by rw [← HB.out]; simp [hb])
    clear HB H0
    go_enter Try.func46, Try.ntmps46
    go_wp2
    go_ret
    exact ⟨ret_bool HF.out.symm, rfl⟩
  have hbi : ¬ (16 : Int) < (s.size : Int) := by omega
  have HP : Hid (1 ≤ s.size ∧ s.size ≤ 16) := Lib.hid ⟨by omega, hb⟩
  clear hb he
  go_enter Try.func46, Try.ntmps46
  go_wp2
  go_loop [13] (fun i => ∃ k : Nat, k ≤ s.size ∧ i = .int .i64 k ∧ Hid ((s.data.toList.take k).all okC = true)) (fun i => s.size - (intOf i).toNat)
  case atStart => exact ⟨0, Nat.zero_le _, rfl, H0⟩
  case round =>
    obtain ⟨k, hk, rfl, HK⟩ := hrel
    by_cases hlt : k < s.size
    · have hkl : k < s.data.toList.length := by simpa using hlt
      have hg : s.data.toList[k] = s[k] := rfl
      by_cases h1 : (s[k].toNat : Int) < 32
      · have HF : Hid (B = false) := Lib.hid (by
          have hx : okC s[k] = false := by unfold okC; simp; intro h; omega
          have : s.data.toList.all okC = false := by
            rw [List.all_eq_false]
            exact ⟨s[k], hg ▸ List.getElem_mem hkl, by rw [hx]; decide⟩
          rw [← HB.out, this]; rfl)
        clear hg
        go_wp2
        go_ret
        exact ⟨ret_bool HF.out.symm, rfl⟩
      · by_cases h2 : (126 : Int) < (s[k].toNat : Int)
        · have HF : Hid (B = false) := Lib.hid (by
            have hx : okC s[k] = false := by unfold okC; simp; intro _; omega
            have : s.data.toList.all okC = false := by
              rw [List.all_eq_false]
              exact ⟨s[k], hg ▸ List.getElem_mem hkl, by rw [hx]; decide⟩
            rw [← HB.out, this]; rfl)
          clear hg
          go_wp2
          go_ret
          exact ⟨ret_bool HF.out.symm, rfl⟩
        · have HN : Hid ((s.data.toList.take (k + 1)).all okC = true) := Lib.hid (by
            have hx : okC s[k] = true := by unfold okC; simp; omega
            rw [List.take_succ_eq_append_getElem hkl, List.all_append, HK.out, hg]
            simp [hx])
          clear hg
          go_wp2
          go_round
          case rel => exact ⟨k + 1, by omega, by go_num, HN⟩
          case measure => simp [intOf]; omega
    · have HF : Hid (B = true) := Lib.hid (by
        have := HK.out
        rw [List.take_of_length_le (by simp; omega)] at this
        rw [← HB.out, this, decide_eq_true HP.out.1, decide_eq_true HP.out.2]; rfl)
      go_wp2
      go_ret
      exact ⟨ret_bool HF.out.symm, rfl⟩
/-- Height; the sum wraps -/
theorem height_any (nm : ByteArray) (W H D I A : Int) (w : World) :
    Calls Try.prog 23 #[.agg #[.string nm, .int .i64 W, .int .i64 H, .int .i64 D, .int .i64 I, .int .i64 A]] w fun e w' => e = .returned (.int .i64 (wrap64 (H + D))) ∧ Below w.heap.size w w' := by
  go_enter Try.func23, Try.ntmps23
  go_wp2
  go_ret
  exact ⟨ret_int rfl, below_new _ _⟩
/-- the predicate of allWithin -/
theorem out_any (x a b : Int) (X Y : Nat) (w : World) (ha : w.cell? ⟨X, 0, none⟩ = some (.int .i64 a)) (hb : w.cell? ⟨Y, 0, none⟩ = some (.int .i64 b)) :
    Calls Try.prog 55 #[.int .i64 x, .pointer (some ⟨X, 0, none⟩), .pointer (some ⟨Y, 0, none⟩)] w fun e w' => e = .returned (.bool (!within x a b)) ∧ w' = w := by
  by_cases h1 : x < a
  · have HW : Hid ((!within x a b) = true) := Lib.hid (by unfold within; simp; omega)
    go_enter Try.func55, Try.ntmps55
    go_wp2
    go_ret
    exact ⟨ret_bool HW.out.symm, rfl⟩
  · by_cases h2 : b < x
    · have HW : Hid ((!within x a b) = true) := Lib.hid (by unfold within; simp; omega)
      go_enter Try.func55, Try.ntmps55
      go_wp2
      go_ret
      exact ⟨ret_bool HW.out.symm, rfl⟩
    · have HW : Hid ((!within x a b) = false) := Lib.hid (by unfold within; simp; omega)
      go_enter Try.func55, Try.ntmps55
      go_wp2
      go_ret
      exact ⟨ret_bool HW.out.symm, rfl⟩
end Go.Proofs.Ytjhpajdkklklhaa.Fon
