/- The reference of layer 5: Scaled. -/
import Derived.Test.YtjhpajdkklklhaaFonRef1
import Derived.StillTailTactics
namespace Go.Proofs.Ytjhpajdkklklhaa.Fon
open Go Go.RowKit By

set_option maxRecDepth 100000 in
set_option maxHeartbeats 2000000 in
theorem rscaled_good (g : Gl) (p : Int) (w : World) (hp : within p 1 1000 = true) (hm : metB g = true) :
    Calls Try.prog 22 #[.agg #[.string g.name, .int .i64 g.W, .int .i64 g.H, .int .i64 g.D, .int .i64 g.I, .int .i64 g.A], .int .i64 p] w fun e w' =>
      e = .returned (.tuple #[.agg #[.string (sclG g p).name, .int .i64 (sclG g p).W, .int .i64 (sclG g p).H, .int .i64 (sclG g p).D, .int .i64 (sclG g p).I, .int .i64 (sclG g p).A], .int .i64 0]) ∧ Below w.heap.size w w' := by
  have hpp := within_iff.1 hp
  have hmp := (met_iff g).1 hm
  have HMC : Hid (∀ w, Calls Try.prog 44 #[.agg #[.string g.name, .int .i64 g.W, .int .i64 g.H, .int .i64 g.D, .int .i64 g.I, .int .i64 g.A]] w fun e w' => e = .returned (.bool true) ∧ Below w.heap.size w w') := Lib.hid fun w => hm ▸ rmetrics_any g w
  have HPC : Hid (∀ w, Calls Try.prog 43 #[.int .i64 p, .int .i64 1, .int .i64 1000] w fun e w' => e = .returned (.bool true) ∧ w' = w) := Lib.hid fun w => hp ▸ rwithin_any p 1 1000 w
  clear hp hm
  obtain ⟨nm, W, H, D, I, A⟩ := g
  obtain ⟨⟨hW0, hW1⟩, ⟨hH0, hH1⟩, ⟨hD0, hD1⟩, ⟨hI0, hI1⟩, ⟨hA0, hA1⟩⟩ := hmp
  simp only [] at hW0 hW1 hH0 hH1 hD0 hD1 hI0 hI1 hA0 hA1
  obtain ⟨W', hWs⟩ : ∃ x, scl W p = x := ⟨_, rfl⟩
  obtain ⟨H', hHs⟩ : ∃ x, scl H p = x := ⟨_, rfl⟩
  obtain ⟨D', hDs⟩ : ∃ x, scl D p = x := ⟨_, rfl⟩
  obtain ⟨I', hIs⟩ : ∃ x, scl I p = x := ⟨_, rfl⟩
  obtain ⟨A', hAs⟩ : ∃ x, scl A p = x := ⟨_, rfl⟩
  have sc : ∀ (n n' : Int), -20000 ≤ n → n ≤ 20000 → scl n p = n' → ∀ w, Calls Try.prog 45 #[.int .i64 n, .int .i64 p] w fun e w' => e = .returned (.int .i64 n') ∧ w' = w := fun n n' h0 h1 hn w => by
    subst hn
    exact rscale_any n p w h0 h1 hpp.1 hpp.2
  have SW := Lib.hid (sc W W' hW0 hW1 hWs)
  have SH := Lib.hid (sc H H' hH0 hH1 hHs)
  have SD := Lib.hid (sc D D' hD0 hD1 hDs)
  have SI := Lib.hid (sc I I' hI0 hI1 hIs)
  have SA := Lib.hid (sc A A' hA0 hA1 hAs)
  simp only [sclG, hWs, hHs, hDs, hIs, hAs]
  obtain ⟨N, hN⟩ : ∃ N, w.heap.size = N := ⟨_, rfl⟩
  obtain ⟨Wa, hWa⟩ : ∃ W', W' = w.alloc (.cells #[.string nm, .int .i64 W, .int .i64 H, .int .i64 D, .int .i64 I, .int .i64 A] 31) := ⟨_, rfl⟩
  obtain ⟨W1, hW1'⟩ : ∃ W', W' = Wa.alloc (.cells #[.string ⟨#[]⟩, .int .i64 0, .int .i64 0, .int .i64 0, .int .i64 0, .int .i64 0] 31) := ⟨_, rfl⟩
  have sa : Wa.heap.size = N + 1 := by rw [hWa]; exact size_new hN _
  have ba : Below w.heap.size w Wa := by rw [hWa]; exact below_new _ _
  have bb : Below Wa.heap.size Wa W1 := by rw [hW1']; exact below_new _ _
  have hB1 := below_self ba bb
  have c0 := keep_cell bb (show Wa.cell? ⟨N, 0, none⟩ = some (.string nm) by rw [hWa]; exact new_cell hN _ _ 0 rfl)
  have c1 := keep_cell bb (show Wa.cell? ⟨N, 1, none⟩ = some (.int .i64 W) by rw [hWa]; exact new_cell hN _ _ 1 rfl)
  have c2 := keep_cell bb (show Wa.cell? ⟨N, 2, none⟩ = some (.int .i64 H) by rw [hWa]; exact new_cell hN _ _ 2 rfl)
  have c3 := keep_cell bb (show Wa.cell? ⟨N, 3, none⟩ = some (.int .i64 D) by rw [hWa]; exact new_cell hN _ _ 3 rfl)
  have c4 := keep_cell bb (show Wa.cell? ⟨N, 4, none⟩ = some (.int .i64 I) by rw [hWa]; exact new_cell hN _ _ 4 rfl)
  have c5 := keep_cell bb (show Wa.cell? ⟨N, 5, none⟩ = some (.int .i64 A) by rw [hWa]; exact new_cell hN _ _ 5 rfl)
  have HW : Hid (W1 = (w.alloc (.cells #[.string nm, .int .i64 W, .int .i64 H, .int .i64 D, .int .i64 I, .int .i64 A] 31)).alloc (.cells #[.string ⟨#[]⟩, .int .i64 0, .int .i64 0, .int .i64 0, .int .i64 0, .int .i64 0] 31)) := Lib.hid (by rw [hW1', hWa])
  have d0 : W1.cell? ⟨N + 1, 0, none⟩ = some (.string ⟨#[]⟩) := by rw [hW1']; exact new_cell sa _ _ 0 rfl
  have d1 : W1.cell? ⟨N + 1, 1, none⟩ = some (.int .i64 0) := by rw [hW1']; exact new_cell sa _ _ 1 rfl
  have d2 : W1.cell? ⟨N + 1, 2, none⟩ = some (.int .i64 0) := by rw [hW1']; exact new_cell sa _ _ 2 rfl
  have d3 : W1.cell? ⟨N + 1, 3, none⟩ = some (.int .i64 0) := by rw [hW1']; exact new_cell sa _ _ 3 rfl
  have d4 : W1.cell? ⟨N + 1, 4, none⟩ = some (.int .i64 0) := by rw [hW1']; exact new_cell sa _ _ 4 rfl
  have d5 : W1.cell? ⟨N + 1, 5, none⟩ = some (.int .i64 0) := by rw [hW1']; exact new_cell sa _ _ 5 rfl
  have FZ : Hid (∀ j, W1.frozen? ⟨N + 1, j, none⟩ = false) := Lib.hid fun j => by rw [hW1']; exact new_frozen sa _ _ j
  have HB := Lib.hid hB1
  have HN1 : Hid (N + 1 < W1.heap.size) := Lib.hid (by rw [hW1', size_new sa]; omega)
  clear ba bb hB1 sa hWa hW1' sc hWs hHs hDs hIs hAs hpp
  go_enter Try.func22, Try.ntmps22
  go_wp2_with fail
  rw [← HW.out]
  refine (HPC.out _).mono ?_
  rintro e w' ⟨rfl, rfl⟩
  go_wp2_with fail
  refine (HMC.out _).mono ?_
  rintro e w2 ⟨rfl, hb2⟩
  replace c0 := keep_cell hb2 c0
  replace c1 := keep_cell hb2 c1
  replace c2 := keep_cell hb2 c2
  replace c3 := keep_cell hb2 c3
  replace c4 := keep_cell hb2 c4
  replace c5 := keep_cell hb2 c5
  replace d0 := keep_cell hb2 d0
  replace d1 := keep_cell hb2 d1
  replace d2 := keep_cell hb2 d2
  replace d3 := keep_cell hb2 d3
  replace d4 := keep_cell hb2 d4
  replace d5 := keep_cell hb2 d5
  have f0 := (hb2.frozen (p := ⟨N + 1, 0, none⟩) HN1.out).trans (FZ.out 0)
  have f1 := (hb2.frozen (p := ⟨N + 1, 1, none⟩) HN1.out).trans (FZ.out 1)
  have f2 := (hb2.frozen (p := ⟨N + 1, 2, none⟩) HN1.out).trans (FZ.out 2)
  have f3 := (hb2.frozen (p := ⟨N + 1, 3, none⟩) HN1.out).trans (FZ.out 3)
  have f4 := (hb2.frozen (p := ⟨N + 1, 4, none⟩) HN1.out).trans (FZ.out 4)
  have f5 := (hb2.frozen (p := ⟨N + 1, 5, none⟩) HN1.out).trans (FZ.out 5)
  have HB2 := Lib.hid (below_self HB.out hb2)
  have HN2 : Hid (N + 1 < w2.heap.size) := Lib.hid (Nat.lt_of_lt_of_le HN1.out hb2.size)
  clear hb2
  go_wp2_with fail
  refine wp_region_still_tail 23 (by kernel_rfl) (by kernel_rfl) ?_
  simp only [List.take_succ_cons, List.take_zero, List.drop_succ_cons, List.drop_zero]
  iterate 5 still_step
  still_call (SW.out _)
  iterate 3 still_step
  still_call (SH.out _)
  iterate 3 still_step
  still_call (SD.out _)
  iterate 3 still_step
  still_call (SI.out _)
  iterate 3 still_step
  still_call (SA.out _)
  still_step
  refine wpStill_nil ?_
  change wpList _ _ _ _ _ w2.drew
  have hb3 := below_drew w2
  have e0 := keep_cell hb3 d0
  have e1 := keep_cell hb3 d1
  have e2 := keep_cell hb3 d2
  have e3 := keep_cell hb3 d3
  have e4 := keep_cell hb3 d4
  have e5 := keep_cell hb3 d5
  have g0 := (hb3.frozen (p := ⟨N + 1, 0, none⟩) HN2.out).trans f0
  have g1 := (hb3.frozen (p := ⟨N + 1, 1, none⟩) HN2.out).trans f1
  have g2 := (hb3.frozen (p := ⟨N + 1, 2, none⟩) HN2.out).trans f2
  have g3 := (hb3.frozen (p := ⟨N + 1, 3, none⟩) HN2.out).trans f3
  have g4 := (hb3.frozen (p := ⟨N + 1, 4, none⟩) HN2.out).trans f4
  have g5 := (hb3.frozen (p := ⟨N + 1, 5, none⟩) HN2.out).trans f5
  have HB3 := Lib.hid (below_self HB2.out hb3)
  generalize w2.drew = w3 at *
  clear hb3 c0 c1 c2 c3 c4 c5 d0 d1 d2 d3 d4 d5 f0 f1 f2 f3 f4 f5
  go_wp2_with fail
  obtain ⟨W4, hW4⟩ : ∃ W4, W4 = ((((((w3.setCell ⟨N + 1, 0, none⟩ (.string nm)).setCell ⟨N + 1, 1, none⟩ (.int .i64 W')).setCell ⟨N + 1, 2, none⟩ (.int .i64 H')).setCell ⟨N + 1, 3, none⟩ (.int .i64 D')).setCell ⟨N + 1, 4, none⟩ (.int .i64 I')).setCell ⟨N + 1, 5, none⟩ (.int .i64 A')) := ⟨_, rfl⟩
  rw [← hW4]
  obtain ⟨k0, k1, k2, k3, k4, k5⟩ := set6_cells e0 e1 e2 e3 e4 e5 _ _ _ _ _ _ hW4
  have hB4 : Below w.heap.size w W4 := by rw [hW4]; exact below_set6 HB3.out (by omega) _ _ _ _ _ _
  clear hW4
  exact bodyPost_ret (v := .tuple #[.agg #[.string nm, .int .i64 W', .int .i64 H', .int .i64 D', .int .i64 I', .int .i64 A'], .int .i64 0]) (by simp [results, Try.results22, go_sem, k0, k1, k2, k3, k4, k5]) rfl ⟨rfl, hN ▸ hB4⟩
set_option maxRecDepth 100000 in
set_option maxHeartbeats 2000000 in
theorem rscaled_out (g : Gl) (p : Int) (w : World) (hp : within p 1 1000 = false) :
    Calls Try.prog 22 #[.agg #[.string g.name, .int .i64 g.W, .int .i64 g.H, .int .i64 g.D, .int .i64 g.I, .int .i64 g.A], .int .i64 p] w fun e w' =>
      e = .returned (.tuple #[.agg #[.string ⟨#[]⟩, .int .i64 0, .int .i64 0, .int .i64 0, .int .i64 0, .int .i64 0], .int .i64 2]) ∧ Below w.heap.size w w' := by
  have HPC : Hid (∀ w, Calls Try.prog 43 #[.int .i64 p, .int .i64 1, .int .i64 1000] w fun e w' => e = .returned (.bool false) ∧ w' = w) := Lib.hid fun w => hp ▸ rwithin_any p 1 1000 w
  clear hp
  obtain ⟨nm, W, H, D, I, A⟩ := g
  obtain ⟨N, hN⟩ : ∃ N, w.heap.size = N := ⟨_, rfl⟩
  obtain ⟨Wa, hWa⟩ : ∃ W', W' = w.alloc (.cells #[.string nm, .int .i64 W, .int .i64 H, .int .i64 D, .int .i64 I, .int .i64 A] 31) := ⟨_, rfl⟩
  obtain ⟨W1, hW1'⟩ : ∃ W', W' = Wa.alloc (.cells #[.string ⟨#[]⟩, .int .i64 0, .int .i64 0, .int .i64 0, .int .i64 0, .int .i64 0] 31) := ⟨_, rfl⟩
  have sa : Wa.heap.size = N + 1 := by rw [hWa]; exact size_new hN _
  have ba : Below w.heap.size w Wa := by rw [hWa]; exact below_new _ _
  have bb : Below Wa.heap.size Wa W1 := by rw [hW1']; exact below_new _ _
  have hB1 := below_self ba bb
  have c0 := keep_cell bb (show Wa.cell? ⟨N, 0, none⟩ = some (.string nm) by rw [hWa]; exact new_cell hN _ _ 0 rfl)
  have c1 := keep_cell bb (show Wa.cell? ⟨N, 1, none⟩ = some (.int .i64 W) by rw [hWa]; exact new_cell hN _ _ 1 rfl)
  have c2 := keep_cell bb (show Wa.cell? ⟨N, 2, none⟩ = some (.int .i64 H) by rw [hWa]; exact new_cell hN _ _ 2 rfl)
  have c3 := keep_cell bb (show Wa.cell? ⟨N, 3, none⟩ = some (.int .i64 D) by rw [hWa]; exact new_cell hN _ _ 3 rfl)
  have c4 := keep_cell bb (show Wa.cell? ⟨N, 4, none⟩ = some (.int .i64 I) by rw [hWa]; exact new_cell hN _ _ 4 rfl)
  have c5 := keep_cell bb (show Wa.cell? ⟨N, 5, none⟩ = some (.int .i64 A) by rw [hWa]; exact new_cell hN _ _ 5 rfl)
  have HW : Hid (W1 = (w.alloc (.cells #[.string nm, .int .i64 W, .int .i64 H, .int .i64 D, .int .i64 I, .int .i64 A] 31)).alloc (.cells #[.string ⟨#[]⟩, .int .i64 0, .int .i64 0, .int .i64 0, .int .i64 0, .int .i64 0] 31)) := Lib.hid (by rw [hW1', hWa])
  have d0 : W1.cell? ⟨N + 1, 0, none⟩ = some (.string ⟨#[]⟩) := by rw [hW1']; exact new_cell sa _ _ 0 rfl
  have d1 : W1.cell? ⟨N + 1, 1, none⟩ = some (.int .i64 0) := by rw [hW1']; exact new_cell sa _ _ 1 rfl
  have d2 : W1.cell? ⟨N + 1, 2, none⟩ = some (.int .i64 0) := by rw [hW1']; exact new_cell sa _ _ 2 rfl
  have d3 : W1.cell? ⟨N + 1, 3, none⟩ = some (.int .i64 0) := by rw [hW1']; exact new_cell sa _ _ 3 rfl
  have d4 : W1.cell? ⟨N + 1, 4, none⟩ = some (.int .i64 0) := by rw [hW1']; exact new_cell sa _ _ 4 rfl
  have d5 : W1.cell? ⟨N + 1, 5, none⟩ = some (.int .i64 0) := by rw [hW1']; exact new_cell sa _ _ 5 rfl
  have FZ : Hid (∀ j, W1.frozen? ⟨N + 1, j, none⟩ = false) := Lib.hid fun j => by rw [hW1']; exact new_frozen sa _ _ j
  have HB := Lib.hid hB1
  have HN1 : Hid (N + 1 < W1.heap.size) := Lib.hid (by rw [hW1', size_new sa]; omega)
  clear ba bb hB1 sa hWa hW1'
  have f0 := FZ.out 0
  have f1 := FZ.out 1
  have f2 := FZ.out 2
  have f3 := FZ.out 3
  have f4 := FZ.out 4
  have f5 := FZ.out 5
  go_enter Try.func22, Try.ntmps22
  go_wp2_with fail
  rw [← HW.out]
  refine (HPC.out _).mono ?_
  rintro e w' ⟨rfl, rfl⟩
  go_wp2_with fail
  obtain ⟨W4, hW4⟩ : ∃ W4, W4 = ((((((w'.setCell ⟨N + 1, 0, none⟩ (.string ⟨#[]⟩)).setCell ⟨N + 1, 1, none⟩ (.int .i64 0)).setCell ⟨N + 1, 2, none⟩ (.int .i64 0)).setCell ⟨N + 1, 3, none⟩ (.int .i64 0)).setCell ⟨N + 1, 4, none⟩ (.int .i64 0)).setCell ⟨N + 1, 5, none⟩ (.int .i64 0)) := ⟨_, rfl⟩
  rw [← hW4]
  obtain ⟨k0, k1, k2, k3, k4, k5⟩ := set6_cells d0 d1 d2 d3 d4 d5 _ _ _ _ _ _ hW4
  have hB4 : Below w.heap.size w W4 := by rw [hW4]; exact below_set6 HB.out (by omega) _ _ _ _ _ _
  clear hW4
  exact bodyPost_ret (v := .tuple #[.agg #[.string ⟨#[]⟩, .int .i64 0, .int .i64 0, .int .i64 0, .int .i64 0, .int .i64 0], .int .i64 2]) (by simp [results, Try.results22, go_sem, k0, k1, k2, k3, k4, k5]) rfl ⟨rfl, hN ▸ hB4⟩
set_option maxRecDepth 100000 in
set_option maxHeartbeats 2000000 in
theorem rscaled_arg (g : Gl) (p : Int) (w : World) (hp : within p 1 1000 = true) (hm : metB g = false) :
    Calls Try.prog 22 #[.agg #[.string g.name, .int .i64 g.W, .int .i64 g.H, .int .i64 g.D, .int .i64 g.I, .int .i64 g.A], .int .i64 p] w fun e w' =>
      e = .returned (.tuple #[.agg #[.string ⟨#[]⟩, .int .i64 0, .int .i64 0, .int .i64 0, .int .i64 0, .int .i64 0], .int .i64 1]) ∧ Below w.heap.size w w' := by
  have HMC : Hid (∀ w, Calls Try.prog 44 #[.agg #[.string g.name, .int .i64 g.W, .int .i64 g.H, .int .i64 g.D, .int .i64 g.I, .int .i64 g.A]] w fun e w' => e = .returned (.bool false) ∧ Below w.heap.size w w') := Lib.hid fun w => hm ▸ rmetrics_any g w
  have HPC : Hid (∀ w, Calls Try.prog 43 #[.int .i64 p, .int .i64 1, .int .i64 1000] w fun e w' => e = .returned (.bool true) ∧ w' = w) := Lib.hid fun w => hp ▸ rwithin_any p 1 1000 w
  clear hp hm
  obtain ⟨nm, W, H, D, I, A⟩ := g
  obtain ⟨N, hN⟩ : ∃ N, w.heap.size = N := ⟨_, rfl⟩
  obtain ⟨Wa, hWa⟩ : ∃ W', W' = w.alloc (.cells #[.string nm, .int .i64 W, .int .i64 H, .int .i64 D, .int .i64 I, .int .i64 A] 31) := ⟨_, rfl⟩
  obtain ⟨W1, hW1'⟩ : ∃ W', W' = Wa.alloc (.cells #[.string ⟨#[]⟩, .int .i64 0, .int .i64 0, .int .i64 0, .int .i64 0, .int .i64 0] 31) := ⟨_, rfl⟩
  have sa : Wa.heap.size = N + 1 := by rw [hWa]; exact size_new hN _
  have ba : Below w.heap.size w Wa := by rw [hWa]; exact below_new _ _
  have bb : Below Wa.heap.size Wa W1 := by rw [hW1']; exact below_new _ _
  have hB1 := below_self ba bb
  have c0 := keep_cell bb (show Wa.cell? ⟨N, 0, none⟩ = some (.string nm) by rw [hWa]; exact new_cell hN _ _ 0 rfl)
  have c1 := keep_cell bb (show Wa.cell? ⟨N, 1, none⟩ = some (.int .i64 W) by rw [hWa]; exact new_cell hN _ _ 1 rfl)
  have c2 := keep_cell bb (show Wa.cell? ⟨N, 2, none⟩ = some (.int .i64 H) by rw [hWa]; exact new_cell hN _ _ 2 rfl)
  have c3 := keep_cell bb (show Wa.cell? ⟨N, 3, none⟩ = some (.int .i64 D) by rw [hWa]; exact new_cell hN _ _ 3 rfl)
  have c4 := keep_cell bb (show Wa.cell? ⟨N, 4, none⟩ = some (.int .i64 I) by rw [hWa]; exact new_cell hN _ _ 4 rfl)
  have c5 := keep_cell bb (show Wa.cell? ⟨N, 5, none⟩ = some (.int .i64 A) by rw [hWa]; exact new_cell hN _ _ 5 rfl)
  have HW : Hid (W1 = (w.alloc (.cells #[.string nm, .int .i64 W, .int .i64 H, .int .i64 D, .int .i64 I, .int .i64 A] 31)).alloc (.cells #[.string ⟨#[]⟩, .int .i64 0, .int .i64 0, .int .i64 0, .int .i64 0, .int .i64 0] 31)) := Lib.hid (by rw [hW1', hWa])
  have d0 : W1.cell? ⟨N + 1, 0, none⟩ = some (.string ⟨#[]⟩) := by rw [hW1']; exact new_cell sa _ _ 0 rfl
  have d1 : W1.cell? ⟨N + 1, 1, none⟩ = some (.int .i64 0) := by rw [hW1']; exact new_cell sa _ _ 1 rfl
  have d2 : W1.cell? ⟨N + 1, 2, none⟩ = some (.int .i64 0) := by rw [hW1']; exact new_cell sa _ _ 2 rfl
  have d3 : W1.cell? ⟨N + 1, 3, none⟩ = some (.int .i64 0) := by rw [hW1']; exact new_cell sa _ _ 3 rfl
  have d4 : W1.cell? ⟨N + 1, 4, none⟩ = some (.int .i64 0) := by rw [hW1']; exact new_cell sa _ _ 4 rfl
  have d5 : W1.cell? ⟨N + 1, 5, none⟩ = some (.int .i64 0) := by rw [hW1']; exact new_cell sa _ _ 5 rfl
  have FZ : Hid (∀ j, W1.frozen? ⟨N + 1, j, none⟩ = false) := Lib.hid fun j => by rw [hW1']; exact new_frozen sa _ _ j
  have HB := Lib.hid hB1
  have HN1 : Hid (N + 1 < W1.heap.size) := Lib.hid (by rw [hW1', size_new sa]; omega)
  clear ba bb hB1 sa hWa hW1'
  go_enter Try.func22, Try.ntmps22
  go_wp2_with fail
  rw [← HW.out]
  refine (HPC.out _).mono ?_
  rintro e w' ⟨rfl, rfl⟩
  go_wp2_with fail
  refine (HMC.out _).mono ?_
  rintro e w2 ⟨rfl, hb2⟩
  have e0 := keep_cell hb2 d0
  have e1 := keep_cell hb2 d1
  have e2 := keep_cell hb2 d2
  have e3 := keep_cell hb2 d3
  have e4 := keep_cell hb2 d4
  have e5 := keep_cell hb2 d5
  have f0 := (hb2.frozen (p := ⟨N + 1, 0, none⟩) HN1.out).trans (FZ.out 0)
  have f1 := (hb2.frozen (p := ⟨N + 1, 1, none⟩) HN1.out).trans (FZ.out 1)
  have f2 := (hb2.frozen (p := ⟨N + 1, 2, none⟩) HN1.out).trans (FZ.out 2)
  have f3 := (hb2.frozen (p := ⟨N + 1, 3, none⟩) HN1.out).trans (FZ.out 3)
  have f4 := (hb2.frozen (p := ⟨N + 1, 4, none⟩) HN1.out).trans (FZ.out 4)
  have f5 := (hb2.frozen (p := ⟨N + 1, 5, none⟩) HN1.out).trans (FZ.out 5)
  have HB2 := Lib.hid (below_self HB.out hb2)
  clear hb2
  go_wp2_with fail
  obtain ⟨W4, hW4⟩ : ∃ W4, W4 = ((((((w2.setCell ⟨N + 1, 0, none⟩ (.string ⟨#[]⟩)).setCell ⟨N + 1, 1, none⟩ (.int .i64 0)).setCell ⟨N + 1, 2, none⟩ (.int .i64 0)).setCell ⟨N + 1, 3, none⟩ (.int .i64 0)).setCell ⟨N + 1, 4, none⟩ (.int .i64 0)).setCell ⟨N + 1, 5, none⟩ (.int .i64 0)) := ⟨_, rfl⟩
  rw [← hW4]
  obtain ⟨k0, k1, k2, k3, k4, k5⟩ := set6_cells e0 e1 e2 e3 e4 e5 _ _ _ _ _ _ hW4
  have hB4 : Below w.heap.size w W4 := by rw [hW4]; exact below_set6 HB2.out (by omega) _ _ _ _ _ _
  clear hW4
  exact bodyPost_ret (v := .tuple #[.agg #[.string ⟨#[]⟩, .int .i64 0, .int .i64 0, .int .i64 0, .int .i64 0, .int .i64 0], .int .i64 1]) (by simp [results, Try.results22, go_sem, k0, k1, k2, k3, k4, k5]) rfl ⟨rfl, hN ▸ hB4⟩
/-- Scaled of the reference -/
theorem rscaled_any (g : Gl) (p : Int) (w : World) :
    Calls Try.prog 22 #[.agg #[.string g.name, .int .i64 g.W, .int .i64 g.H, .int .i64 g.D, .int .i64 g.I, .int .i64 g.A], .int .i64 p] w fun e w' =>
      e = .returned (.tuple #[.agg #[.string (scaled g p).1.name, .int .i64 (scaled g p).1.W, .int .i64 (scaled g p).1.H, .int .i64 (scaled g p).1.D, .int .i64 (scaled g p).1.I, .int .i64 (scaled g p).1.A], .int .i64 (scaled g p).2]) ∧ Below w.heap.size w w' := by
  cases hp : within p 1 1000 with
  | false =>
    have e : scaled g p = (zeroG, 2) := by unfold scaled; rw [if_pos hp]
    rw [e]
    exact rscaled_out g p w hp
  | true =>
    cases hm : metB g with
    | false =>
      have e : scaled g p = (zeroG, 1) := by unfold scaled; rw [if_neg (by rw [hp]; decide), if_pos hm]
      rw [e]
      exact rscaled_arg g p w hp hm
    | true =>
      have e : scaled g p = (sclG g p, 0) := by unfold scaled; rw [if_neg (by rw [hp]; decide), if_neg (by rw [hm]; decide)]
      rw [e]
      exact rscaled_good g p w hp hm
end Go.Proofs.Ytjhpajdkklklhaa.Fon
