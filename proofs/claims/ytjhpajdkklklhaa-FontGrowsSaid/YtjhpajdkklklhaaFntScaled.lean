/- The program's package font: Scaled. (Written by wip/tools/genscaled.py.) -/
import Derived.Test.YtjhpajdkklklhaaFntFind
import Derived.Test.YtjhpajdkklklhaaFonRef2
import Derived.Test.YtjhpajdkklklhaaLenCalls
import Derived.Test.YtjhpajdkklklhaaFonBox
namespace Go.Proofs.Ytjhpajdkklklhaa.Fon
open Go Go.RowKit By

theorem rnd_scl {n p : Int} (h0 : -20000 ≤ n) (h1 : n ≤ 20000) (p0 : 1 ≤ p) (p1 : p ≤ 1000) : Len.rnd (n * p) 100 = scl n p := by
  unfold Len.rnd Len.absZ
  by_cases h : n < 0
  · have hm : n * p < 0 := Int.mul_neg_of_neg_of_pos h (by omega)
    rw [scl_neg h, scl_pos (by omega), if_neg (by simp [hm]), if_pos hm, if_neg (by omega)]
    congr 2
    rw [show (2 : Int) * -n * p = 2 * -(n * p) by rw [Int.mul_assoc, Int.neg_mul]]
  · have hm : 0 ≤ n * p := Int.mul_nonneg (by omega) (by omega)
    rw [scl_pos (by omega), if_pos (by simp; omega), if_neg (by omega), if_neg (by omega), Int.mul_assoc]; rfl
/-- the closure of Scaled -/
theorem scl1_any (n p : Int) (X : Nat) (w : World) (hx : w.cell? ⟨X, 0, none⟩ = some (.int .i64 p)) (h0 : -20000 ≤ n) (h1 : n ≤ 20000) (p0 : 1 ≤ p) (p1 : p ≤ 1000) :
    Calls Try.prog 41 #[.int .i64 n, .pointer (some ⟨X, 0, none⟩)] w fun e w' => e = .returned (.int .i64 (scl n p)) ∧ Below w.heap.size w w' := by
  have hz : Len.scaleZ n p = scl n p := by
    rw [← rnd_scl h0 h1 p0 p1]
    unfold Len.scaleZ
    rw [if_pos ⟨Len.valid_of (by omega) (by omega), by omega, by omega⟩]
  have HC := Lib.hid (hz ▸ Len.scale_any n p w)
  obtain ⟨R, hR⟩ : ∃ R, scl n p = R := ⟨_, rfl⟩
  rw [hR] at HC ⊢
  clear hz hR
  go_enter Try.func41, Try.ntmps41
  go_wp2_with (first
    | (go_at_call 42; refine HC.out.mono ?_; rintro e w' ⟨rfl, q, rfl⟩)
    | fail)
  go_ret
  exact ⟨rfl, below_drewN w q⟩
set_option maxRecDepth 100000 in
set_option maxHeartbeats 2000000 in
theorem scaled_out (g : Gl) (p : Int) (w : World) (hp : within p 1 1000 = false) :
    Calls Try.prog 21 #[.agg #[.string g.name, .int .i64 g.W, .int .i64 g.H, .int .i64 g.D, .int .i64 g.I, .int .i64 g.A], .int .i64 p] w fun e w' => e = .returned (.tuple #[.agg #[.string ⟨#[]⟩, .int .i64 0, .int .i64 0, .int .i64 0, .int .i64 0, .int .i64 0], .int .i64 2]) ∧ Below w.heap.size w w' := by
  obtain ⟨nm, W, H, D, I, A⟩ := g
  simp only []
  obtain ⟨N, hN⟩ : ∃ N, w.heap.size = N := ⟨_, rfl⟩
  obtain ⟨Wa, hWa⟩ : ∃ W', W' = w.alloc (.cells #[.string nm, .int .i64 W, .int .i64 H, .int .i64 D, .int .i64 I, .int .i64 A] 31) := ⟨_, rfl⟩
  obtain ⟨Wb, hWb⟩ : ∃ W', W' = Wa.alloc (.cells #[.int .i64 p] 3) := ⟨_, rfl⟩
  obtain ⟨W1, hW1⟩ : ∃ W', W' = Wb.alloc (.cells #[.string ⟨#[]⟩, .int .i64 0, .int .i64 0, .int .i64 0, .int .i64 0, .int .i64 0] 31) := ⟨_, rfl⟩
  have sa : Wa.heap.size = N + 1 := by rw [hWa]; exact size_new hN _
  have sb : Wb.heap.size = N + 2 := by rw [hWb]; exact size_new sa _
  have ba : Below w.heap.size w Wa := by rw [hWa]; exact below_new _ _
  have bb : Below Wa.heap.size Wa Wb := by rw [hWb]; exact below_new _ _
  have bc : Below Wb.heap.size Wb W1 := by rw [hW1]; exact below_new _ _
  have hB1 := below_self (below_self ba bb) bc
  have hbc := below_self bb bc
  have HS0 : Hid (Six W1 N (.string nm) (.int .i64 W) (.int .i64 H) (.int .i64 D) (.int .i64 I) (.int .i64 A)) := Lib.hid ((show Six Wa N (.string nm) (.int .i64 W) (.int .i64 H) (.int .i64 D) (.int .i64 I) (.int .i64 A) by rw [hWa]; exact six_new hN _ _ _ _ _ _ _).below hbc)
  have HS : Hid (Six W1 (N + 2) (.string ⟨#[]⟩) (.int .i64 0) (.int .i64 0) (.int .i64 0) (.int .i64 0) (.int .i64 0)) := Lib.hid (by rw [hW1]; exact six_new sb _ _ _ _ _ _ _)
  have cp := keep_cell bc (show Wb.cell? ⟨N + 1, 0, none⟩ = some (.int .i64 p) by rw [hWb]; exact new_cell sa _ _ 0 rfl)
  have HB := Lib.hid hB1
  have HNN : Hid (w.heap.size ≤ N + 2 ∧ N + 2 < W1.heap.size) := Lib.hid ⟨by omega, by rw [hW1, size_new sb]; omega⟩
  have HW : Hid (W1 = ((w.alloc (.cells #[.string nm, .int .i64 W, .int .i64 H, .int .i64 D, .int .i64 I, .int .i64 A] 31)).alloc (.cells #[.int .i64 p] 3)).alloc (.cells #[.string ⟨#[]⟩, .int .i64 0, .int .i64 0, .int .i64 0, .int .i64 0, .int .i64 0] 31)) := Lib.hid (by rw [hW1, hWb, hWa])
  have hp2 : p < 1 ∨ 1000 < p := by unfold within at hp; simp at hp; omega
  clear hp sa sb ba bb bc hbc hB1 hWa hWb hW1 HS0
  rcases hp2 with hp1 | hp1
  · obtain ⟨⟨d0, d1, d2, d3, d4, d5⟩, f0, f1, f2, f3, f4, f5⟩ := HS.out
    have HB2 := HB
    go_enter Try.func21, Try.ntmps21
    go_wp2_with fail
    rw [← HW.out]
    exact bodyPost_ret (v := .tuple #[.agg #[.string ⟨#[]⟩, .int .i64 0, .int .i64 0, .int .i64 0, .int .i64 0, .int .i64 0], .int .i64 2]) (by simp [results, Try.results21, go_sem, d0, d1, d2, d3, d4, d5]) rfl ⟨rfl, hN ▸ HB.out⟩
  · have hp0 : ¬ p < 1 := by omega
    obtain ⟨⟨d0, d1, d2, d3, d4, d5⟩, f0, f1, f2, f3, f4, f5⟩ := HS.out
    have HB2 := HB
    go_enter Try.func21, Try.ntmps21
    go_wp2_with fail
    rw [← HW.out]
    exact bodyPost_ret (v := .tuple #[.agg #[.string ⟨#[]⟩, .int .i64 0, .int .i64 0, .int .i64 0, .int .i64 0, .int .i64 0], .int .i64 2]) (by simp [results, Try.results21, go_sem, d0, d1, d2, d3, d4, d5]) rfl ⟨rfl, hN ▸ HB.out⟩
set_option maxRecDepth 100000 in
set_option maxHeartbeats 2000000 in
theorem scaled_arg (g : Gl) (p : Int) (w : World) (hp : within p 1 1000 = true) (hm : metB g = false) :
    Calls Try.prog 21 #[.agg #[.string g.name, .int .i64 g.W, .int .i64 g.H, .int .i64 g.D, .int .i64 g.I, .int .i64 g.A], .int .i64 p] w fun e w' => e = .returned (.tuple #[.agg #[.string ⟨#[]⟩, .int .i64 0, .int .i64 0, .int .i64 0, .int .i64 0, .int .i64 0], .int .i64 1]) ∧ Below w.heap.size w w' := by
  have HMC : Hid (∀ w, Calls Try.prog 40 #[.agg #[.string g.name, .int .i64 g.W, .int .i64 g.H, .int .i64 g.D, .int .i64 g.I, .int .i64 g.A]] w fun e w' => e = .returned (.bool false) ∧ Below w.heap.size w w') := Lib.hid fun w => hm ▸ mets_any g w
  obtain ⟨nm, W, H, D, I, A⟩ := g
  simp only [] at HMC ⊢
  obtain ⟨N, hN⟩ : ∃ N, w.heap.size = N := ⟨_, rfl⟩
  obtain ⟨Wa, hWa⟩ : ∃ W', W' = w.alloc (.cells #[.string nm, .int .i64 W, .int .i64 H, .int .i64 D, .int .i64 I, .int .i64 A] 31) := ⟨_, rfl⟩
  obtain ⟨Wb, hWb⟩ : ∃ W', W' = Wa.alloc (.cells #[.int .i64 p] 3) := ⟨_, rfl⟩
  obtain ⟨W1, hW1⟩ : ∃ W', W' = Wb.alloc (.cells #[.string ⟨#[]⟩, .int .i64 0, .int .i64 0, .int .i64 0, .int .i64 0, .int .i64 0] 31) := ⟨_, rfl⟩
  have sa : Wa.heap.size = N + 1 := by rw [hWa]; exact size_new hN _
  have sb : Wb.heap.size = N + 2 := by rw [hWb]; exact size_new sa _
  have ba : Below w.heap.size w Wa := by rw [hWa]; exact below_new _ _
  have bb : Below Wa.heap.size Wa Wb := by rw [hWb]; exact below_new _ _
  have bc : Below Wb.heap.size Wb W1 := by rw [hW1]; exact below_new _ _
  have hB1 := below_self (below_self ba bb) bc
  have hbc := below_self bb bc
  have HS0 : Hid (Six W1 N (.string nm) (.int .i64 W) (.int .i64 H) (.int .i64 D) (.int .i64 I) (.int .i64 A)) := Lib.hid ((show Six Wa N (.string nm) (.int .i64 W) (.int .i64 H) (.int .i64 D) (.int .i64 I) (.int .i64 A) by rw [hWa]; exact six_new hN _ _ _ _ _ _ _).below hbc)
  have HS : Hid (Six W1 (N + 2) (.string ⟨#[]⟩) (.int .i64 0) (.int .i64 0) (.int .i64 0) (.int .i64 0) (.int .i64 0)) := Lib.hid (by rw [hW1]; exact six_new sb _ _ _ _ _ _ _)
  have cp := keep_cell bc (show Wb.cell? ⟨N + 1, 0, none⟩ = some (.int .i64 p) by rw [hWb]; exact new_cell sa _ _ 0 rfl)
  have HB := Lib.hid hB1
  have HNN : Hid (w.heap.size ≤ N + 2 ∧ N + 2 < W1.heap.size) := Lib.hid ⟨by omega, by rw [hW1, size_new sb]; omega⟩
  have HW : Hid (W1 = ((w.alloc (.cells #[.string nm, .int .i64 W, .int .i64 H, .int .i64 D, .int .i64 I, .int .i64 A] 31)).alloc (.cells #[.int .i64 p] 3)).alloc (.cells #[.string ⟨#[]⟩, .int .i64 0, .int .i64 0, .int .i64 0, .int .i64 0, .int .i64 0] 31)) := Lib.hid (by rw [hW1, hWb, hWa])
  obtain ⟨hp1, hp2⟩ := within_iff.1 hp
  obtain ⟨⟨c0, c1, c2, c3, c4, c5⟩, _⟩ := HS0.out
  have hpa : ¬ p < 1 := by omega
  have hpb : ¬ 1000 < p := by omega
  clear hp hm sa sb ba bb bc hbc hB1 hWa hWb hW1 HS0 hp1 hp2
  go_enter Try.func21, Try.ntmps21
  go_wp2_with (first
    | (go_at_call 40; rw [← HW.out]; refine (HMC.out _).mono ?_; rintro e w2 ⟨rfl, hb2⟩
       have HB2 := Lib.hid (below_self HB.out hb2)
       obtain ⟨⟨d0, d1, d2, d3, d4, d5⟩, f0, f1, f2, f3, f4, f5⟩ := HS.out.below hb2
       clear hb2)
    | fail)
  obtain ⟨W4, hW4⟩ : ∃ W4, W4 = ((((((w2.setCell ⟨N + 2, 0, none⟩ (.string ⟨#[]⟩)).setCell ⟨N + 2, 1, none⟩ (.int .i64 0)).setCell ⟨N + 2, 2, none⟩ (.int .i64 0)).setCell ⟨N + 2, 3, none⟩ (.int .i64 0)).setCell ⟨N + 2, 4, none⟩ (.int .i64 0)).setCell ⟨N + 2, 5, none⟩ (.int .i64 0)) := ⟨_, rfl⟩
  rw [← hW4]
  obtain ⟨k0, k1, k2, k3, k4, k5⟩ := set6_cells d0 d1 d2 d3 d4 d5 _ _ _ _ _ _ hW4
  have hB4 : Below w.heap.size w W4 := by rw [hW4]; exact below_set6 HB2.out HNN.out.1 _ _ _ _ _ _
  clear hW4
  exact bodyPost_ret (v := .tuple #[.agg #[.string ⟨#[]⟩, .int .i64 0, .int .i64 0, .int .i64 0, .int .i64 0, .int .i64 0], .int .i64 1]) (by simp [results, Try.results21, go_sem, k0, k1, k2, k3, k4, k5]) rfl ⟨rfl, hN ▸ hB4⟩
end Go.Proofs.Ytjhpajdkklklhaa.Fon
