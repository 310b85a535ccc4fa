/- The program's package font: Scaled where nothing is refused. (Written by wip/tools/genscaled.py.) -/
import Derived.Test.YtjhpajdkklklhaaFntScaled
import Derived.Test.YtjhpajdkklklhaaHeld
import Derived.Deep.DeepCutAuto
namespace Go.Proofs.Ytjhpajdkklklhaa.Fon
open Go Go.RowKit By

set_option maxRecDepth 100000 in
set_option maxHeartbeats 4000000 in
theorem scaled_good (g : Gl) (p : Int) (w : World) (hp : within p 1 1000 = true) (hm : metB g = true) :
    Calls Try.prog 21 #[.agg #[.string g.name, .int .i64 g.W, .int .i64 g.H, .int .i64 g.D, .int .i64 g.I, .int .i64 g.A], .int .i64 p] w fun e w' => e = .returned (.tuple #[.agg #[.string (sclG g p).name, .int .i64 (sclG g p).W, .int .i64 (sclG g p).H, .int .i64 (sclG g p).D, .int .i64 (sclG g p).I, .int .i64 (sclG g p).A], .int .i64 0]) ∧ Below w.heap.size w w' := by
  have hpp := within_iff.1 hp
  have hmp := (met_iff g).1 hm
  have HMC : Hid (∀ w, Calls Try.prog 40 #[.agg #[.string g.name, .int .i64 g.W, .int .i64 g.H, .int .i64 g.D, .int .i64 g.I, .int .i64 g.A]] w fun e w' => e = .returned (.bool true) ∧ Below w.heap.size w w') := Lib.hid fun w => hm ▸ mets_any g w
  clear hp hm
  obtain ⟨nm, W, H, D, I, A⟩ := g
  obtain ⟨⟨hW0, hW1'⟩, ⟨hH0, hH1⟩, ⟨hD0, hD1⟩, ⟨hI0, hI1⟩, ⟨hA0, hA1⟩⟩ := hmp
  simp only [] at hW0 hW1' hH0 hH1 hD0 hD1 hI0 hI1 hA0 hA1 HMC
  obtain ⟨W', hWs⟩ : ∃ x, scl W p = x := ⟨_, rfl⟩
  obtain ⟨H', hHs⟩ : ∃ x, scl H p = x := ⟨_, rfl⟩
  obtain ⟨D', hDs⟩ : ∃ x, scl D p = x := ⟨_, rfl⟩
  obtain ⟨I', hIs⟩ : ∃ x, scl I p = x := ⟨_, rfl⟩
  obtain ⟨A', hAs⟩ : ∃ x, scl A p = x := ⟨_, rfl⟩
  have HPP := Lib.hid hpp
  simp only [sclG, hWs, hHs, hDs, hIs, hAs]
  obtain ⟨N, hN⟩ : ∃ N, w.heap.size = N := ⟨_, rfl⟩
  obtain ⟨Wa, hWa⟩ : ∃ W', W' = w.alloc (.cells #[.string nm, .int .i64 W, .int .i64 H, .int .i64 D, .int .i64 I, .int .i64 A] 31) := ⟨_, rfl⟩
  obtain ⟨Wb, hWb⟩ : ∃ W', W' = Wa.alloc (.cells #[.int .i64 p] 3) := ⟨_, rfl⟩
  obtain ⟨W1, hW1⟩ : ∃ W', W' = Wb.alloc (.cells #[.string ⟨#[]⟩, .int .i64 0, .int .i64 0, .int .i64 0, .int .i64 0, .int .i64 0] 31) := ⟨_, rfl⟩
  have sa : Wa.heap.size = N + 1 := by rw [hWa]; exact size_new hN _
  have sb : Wb.heap.size = N + 2 := by rw [hWb]; exact size_new sa _
  have ba : Below w.heap.size w Wa := by rw [hWa]; exact below_new _ _
  have bb : Below Wa.heap.size Wa Wb := by rw [hWb]; exact below_new _ _
  have bc : Below Wb.heap.size Wb W1 := by rw [hW1]; exact below_new _ _
  have hB1 := below_self (below_self ba bb) bc
  have hbc := below_self bb bc
  have HS0 : Hid (Six W1 N (.string nm) (.int .i64 W) (.int .i64 H) (.int .i64 D) (.int .i64 I) (.int .i64 A)) := Lib.hid ((show Six Wa N (.string nm) (.int .i64 W) (.int .i64 H) (.int .i64 D) (.int .i64 I) (.int .i64 A) by rw [hWa]; exact six_new hN _ _ _ _ _ _ _).below hbc)
  have HS : Hid (Six W1 (N + 2) (.string ⟨#[]⟩) (.int .i64 0) (.int .i64 0) (.int .i64 0) (.int .i64 0) (.int .i64 0)) := Lib.hid (by rw [hW1]; exact six_new sb _ _ _ _ _ _ _)
  have cp := keep_cell bc (show Wb.cell? ⟨N + 1, 0, none⟩ = some (.int .i64 p) by rw [hWb]; exact new_cell sa _ _ 0 rfl)
  have HB := Lib.hid hB1
  have HNN : Hid (w.heap.size ≤ N + 2 ∧ N + 2 < W1.heap.size) := Lib.hid ⟨by omega, by rw [hW1, size_new sb]; omega⟩
  have HW : Hid (W1 = ((w.alloc (.cells #[.string nm, .int .i64 W, .int .i64 H, .int .i64 D, .int .i64 I, .int .i64 A] 31)).alloc (.cells #[.int .i64 p] 3)).alloc (.cells #[.string ⟨#[]⟩, .int .i64 0, .int .i64 0, .int .i64 0, .int .i64 0, .int .i64 0] 31)) := Lib.hid (by rw [hW1, hWb, hWa])
  have sc : ∀ (n n' : Int), -20000 ≤ n → n ≤ 20000 → scl n p = n' → ∀ W, Below W1.heap.size W1 W → Calls Try.prog 41 #[.int .i64 n, .pointer (some ⟨N + 1, 0, none⟩)] W fun e w' => e = .returned (.int .i64 n') ∧ Below W.heap.size W w' := fun n n' h0 h1 hn W hb => by
    subst hn
    exact scl1_any n p (N + 1) W (keep_cell hb cp) h0 h1 HPP.out.1 HPP.out.2
  have SW0 := Lib.hid (sc W W' hW0 hW1' hWs)
  have SH0 := Lib.hid (sc H H' hH0 hH1 hHs)
  have SD0 := Lib.hid (sc D D' hD0 hD1 hDs)
  have SI0 := Lib.hid (sc I I' hI0 hI1 hIs)
  have SA0 := Lib.hid (sc A A' hA0 hA1 hAs)
  obtain ⟨⟨c0, c1, c2, c3, c4, c5⟩, _⟩ := HS0.out
  have hpa : ¬ p < 1 := by omega
  have hpb : ¬ 1000 < p := by omega
  clear sc hWs hHs hDs hIs hAs hpp sa sb ba bb bc hbc hB1 hWa hWb hW1 hW0 hW1' hH0 hH1 hD0 hD1 hI0 hI1 hA0 hA1
  go_enter Try.func21, Try.ntmps21
  go_upto_region 6 with (first
    | (go_at_call 40; rw [← HW.out]; refine (HMC.out _).mono ?_; rintro e w2 ⟨rfl, hb2⟩
       have HB2 := Lib.hid (below_self HB.out hb2)
       have HS2 := Lib.hid (HS.out.below hb2)
       have HB2S := Lib.hid hb2.size
       have SW : Hid (∀ W', Below w2.heap.size w2 W' → _) := Lib.hid fun W' h => SW0.out W' (below_self hb2 h)
       have SH : Hid (∀ W', Below w2.heap.size w2 W' → _) := Lib.hid fun W' h => SH0.out W' (below_self hb2 h)
       have SD : Hid (∀ W', Below w2.heap.size w2 W' → _) := Lib.hid fun W' h => SD0.out W' (below_self hb2 h)
       have SI : Hid (∀ W', Below w2.heap.size w2 W' → _) := Lib.hid fun W' h => SI0.out W' (below_self hb2 h)
       have SA : Hid (∀ W', Below w2.heap.size w2 W' → _) := Lib.hid fun W' h => SA0.out W' (below_self hb2 h)
       replace c0 := keep_cell hb2 c0
       replace c1 := keep_cell hb2 c1
       replace c2 := keep_cell hb2 c2
       replace c3 := keep_cell hb2 c3
       replace c4 := keep_cell hb2 c4
       replace c5 := keep_cell hb2 c5
       clear hb2)
    | fail)
  have mk : ∀ W', Below (N + 2) w2 W' → (fun w' => w'.cell? ⟨N, 0, none⟩ = some (.string nm) ∧ w'.cell? ⟨N, 1, none⟩ = some (.int .i64 W) ∧ w'.cell? ⟨N, 2, none⟩ = some (.int .i64 H) ∧ w'.cell? ⟨N, 3, none⟩ = some (.int .i64 D) ∧ w'.cell? ⟨N, 4, none⟩ = some (.int .i64 I) ∧ w'.cell? ⟨N, 5, none⟩ = some (.int .i64 A) ∧ Below (N + 2) w2 w') W' := fun W' h => ⟨old_cell h c0 (by omega), old_cell h c1 (by omega), old_cell h c2 (by omega), old_cell h c3 (by omega), old_cell h c4 (by omega), old_cell h c5 (by omega), h⟩
  have HM2 : Hid (N + 2 ≤ w2.heap.size) := Lib.hid (by have := HNN.out; have := HB2S.out; omega)
  have HQ := Lib.hid (below_drew w2)
  refine wp_region_held_drew (S := fun w' => w'.cell? ⟨N, 0, none⟩ = some (.string nm) ∧ w'.cell? ⟨N, 1, none⟩ = some (.int .i64 W) ∧ w'.cell? ⟨N, 2, none⟩ = some (.int .i64 H) ∧ w'.cell? ⟨N, 3, none⟩ = some (.int .i64 D) ∧ w'.cell? ⟨N, 4, none⟩ = some (.int .i64 I) ∧ w'.cell? ⟨N, 5, none⟩ = some (.int .i64 A) ∧ Below (N + 2) w2 w') (by kernel_rfl) (mk _ ((below_drew _).mono HM2.out)) (fun hHeld => ?_)
  refine wpAnyH_take (i := 0) (v := ?_) rfl (by kernel_rfl) (by kernel_rfl) (by kernel_rfl) (fun _ _ _ h => h) (Or.inl ⟨by rfl, ?_⟩) hHeld ?_
  rotate_left
  · intro w hSw; (try dsimp only at hSw); go_simp; try with_reducible rfl
  simp only [Act.put]; (try simp only [List.setIfInBounds_toArray, List.set_cons_zero, List.set_cons_succ])
  refine wpAnyH_take (i := 1) (v := ?_) rfl (by kernel_rfl) (by kernel_rfl) (by kernel_rfl) (fun _ _ _ h => h) (Or.inl ⟨by rfl, ?_⟩) hHeld ?_
  rotate_left
  · intro w hSw; (try dsimp only at hSw); go_simp; try with_reducible rfl
  simp only [Act.put]; (try simp only [List.setIfInBounds_toArray, List.set_cons_zero, List.set_cons_succ])
  refine wpAnyH_take (i := 2) (v := ?_) rfl (by kernel_rfl) (by kernel_rfl) (by kernel_rfl) (fun _ _ _ h => h) (Or.inl ⟨by rfl, ?_⟩) hHeld ?_
  rotate_left
  · intro w hSw; (try dsimp only at hSw); go_simp; try with_reducible rfl
  simp only [Act.put]; (try simp only [List.setIfInBounds_toArray, List.set_cons_zero, List.set_cons_succ])
  refine wpAnyH_take (i := 3) (v := ?_) rfl (by kernel_rfl) (by kernel_rfl) (by kernel_rfl) (fun _ _ _ h => h) (Or.inl ⟨by rfl, ?_⟩) hHeld ?_
  rotate_left
  · intro w hSw; (try dsimp only at hSw); go_simp; try with_reducible rfl
  simp only [Act.put]; (try simp only [List.setIfInBounds_toArray, List.set_cons_zero, List.set_cons_succ])
  refine wpAnyH_take (i := 4) (v := ?_) rfl (by kernel_rfl) (by kernel_rfl) (by kernel_rfl) (fun _ _ _ h => h) (Or.inl ⟨by rfl, ?_⟩) hHeld ?_
  rotate_left
  · intro w hSw; (try dsimp only at hSw); go_simp; try with_reducible rfl
  simp only [Act.put]; (try simp only [List.setIfInBounds_toArray, List.set_cons_zero, List.set_cons_succ])
  refine wpAnyH_take (i := 6) (v := ?_) rfl (by kernel_rfl) (by kernel_rfl) (by kernel_rfl) (fun _ _ _ h => h) (Or.inl ⟨by rfl, ?_⟩) hHeld ?_
  rotate_left
  · intro w hSw; (try dsimp only at hSw); go_simp; try with_reducible rfl
  simp only [Act.put]; (try simp only [List.setIfInBounds_toArray, List.set_cons_zero, List.set_cons_succ])
  refine wpAnyH_take (i := 7) (v := ?_) rfl (by kernel_rfl) (by kernel_rfl) (by kernel_rfl) (fun _ _ _ h => h) (Or.inl ⟨by rfl, ?_⟩) hHeld ?_
  rotate_left
  · intro w hSw; (try dsimp only at hSw); go_simp; try with_reducible rfl
  simp only [Act.put]; (try simp only [List.setIfInBounds_toArray, List.set_cons_zero, List.set_cons_succ])
  refine wpAnyH_take (i := 8) (v := ?_) rfl (by kernel_rfl) (by kernel_rfl) (by kernel_rfl) (fun _ _ _ h => h) (Or.inl ⟨by rfl, ?_⟩) hHeld ?_
  rotate_left
  · intro w hSw; (try dsimp only at hSw); go_simp; try with_reducible rfl
  simp only [Act.put]; (try simp only [List.setIfInBounds_toArray, List.set_cons_zero, List.set_cons_succ])
  refine wpAnyH_take (i := 10) (v := ?_) rfl (by kernel_rfl) (by kernel_rfl) (by kernel_rfl) (fun _ _ _ h => h) (Or.inl ⟨by rfl, ?_⟩) hHeld ?_
  rotate_left
  · intro w hSw; (try dsimp only at hSw); go_simp; try with_reducible rfl
  simp only [Act.put]; (try simp only [List.setIfInBounds_toArray, List.set_cons_zero, List.set_cons_succ])
  refine wpAnyH_take (i := 11) (v := ?_) rfl (by kernel_rfl) (by kernel_rfl) (by kernel_rfl) (fun _ _ _ h => h) (Or.inl ⟨by rfl, ?_⟩) hHeld ?_
  rotate_left
  · intro w hSw; (try dsimp only at hSw); go_simp; try with_reducible rfl
  simp only [Act.put]; (try simp only [List.setIfInBounds_toArray, List.set_cons_zero, List.set_cons_succ])
  refine wpAnyH_take (i := 12) (v := ?_) rfl (by kernel_rfl) (by kernel_rfl) (by kernel_rfl) (fun _ _ _ h => h) (Or.inl ⟨by rfl, ?_⟩) hHeld ?_
  rotate_left
  · intro w hSw; (try dsimp only at hSw); go_simp; try with_reducible rfl
  simp only [Act.put]; (try simp only [List.setIfInBounds_toArray, List.set_cons_zero, List.set_cons_succ])
  refine wpAnyH_take (i := 14) (v := ?_) rfl (by kernel_rfl) (by kernel_rfl) (by kernel_rfl) (fun _ _ _ h => h) (Or.inl ⟨by rfl, ?_⟩) hHeld ?_
  rotate_left
  · intro w hSw; (try dsimp only at hSw); go_simp; try with_reducible rfl
  simp only [Act.put]; (try simp only [List.setIfInBounds_toArray, List.set_cons_zero, List.set_cons_succ])
  refine wpAnyH_take (i := 15) (v := ?_) rfl (by kernel_rfl) (by kernel_rfl) (by kernel_rfl) (fun _ _ _ h => h) (Or.inl ⟨by rfl, ?_⟩) hHeld ?_
  rotate_left
  · intro w hSw; (try dsimp only at hSw); go_simp; try with_reducible rfl
  simp only [Act.put]; (try simp only [List.setIfInBounds_toArray, List.set_cons_zero, List.set_cons_succ])
  refine wpAnyH_take (i := 16) (v := ?_) rfl (by kernel_rfl) (by kernel_rfl) (by kernel_rfl) (fun _ _ _ h => h) (Or.inl ⟨by rfl, ?_⟩) hHeld ?_
  rotate_left
  · intro w hSw; (try dsimp only at hSw); go_simp; try with_reducible rfl
  simp only [Act.put]; (try simp only [List.setIfInBounds_toArray, List.set_cons_zero, List.set_cons_succ])
  refine wpAnyH_take (i := 18) (v := ?_) rfl (by kernel_rfl) (by kernel_rfl) (by kernel_rfl) (fun _ _ _ h => h) (Or.inl ⟨by rfl, ?_⟩) hHeld ?_
  rotate_left
  · intro w hSw; (try dsimp only at hSw); go_simp; try with_reducible rfl
  simp only [Act.put]; (try simp only [List.setIfInBounds_toArray, List.set_cons_zero, List.set_cons_succ])
  refine wpAnyH_take (i := 19) (v := ?_) rfl (by kernel_rfl) (by kernel_rfl) (by kernel_rfl) (fun _ _ _ h => h) (Or.inl ⟨by rfl, ?_⟩) hHeld ?_
  rotate_left
  · intro w hSw; (try dsimp only at hSw); go_simp; try with_reducible rfl
  simp only [Act.put]; (try simp only [List.setIfInBounds_toArray, List.set_cons_zero, List.set_cons_succ])
  refine wpAnyH_take (i := 20) (v := ?_) rfl (by kernel_rfl) (by kernel_rfl) (by kernel_rfl) (fun _ _ _ h => h) (Or.inl ⟨by rfl, ?_⟩) hHeld ?_
  rotate_left
  · intro w hSw; (try dsimp only at hSw); go_simp; try with_reducible rfl
  simp only [Act.put]; (try simp only [List.setIfInBounds_toArray, List.set_cons_zero, List.set_cons_succ])
  clear hHeld
  refine wpAnyH_one (a' := ?_) 5 (fun w' => Below w2.heap.size w2 w') (by kernel_rfl) rfl (by rfl) (fun K hK => ?_) (fun w6 hR => ⟨mk _ (hR.mono HM2.out), ?_⟩)
  rotate_left
  · go_simp
    refine (SW.out _ HQ.out).mono ?_
    rintro e w6 ⟨rfl, hb6⟩
    exact hK _ (below_self HQ.out hb6)
  replace HQ := Lib.hid hR
  have hHeld := mk _ (hR.mono HM2.out)
  clear hHeld
  refine wpAnyH_one (a' := ?_) 9 (fun w' => Below w2.heap.size w2 w') (by kernel_rfl) rfl (by rfl) (fun K hK => ?_) (fun w6 hR => ⟨mk _ (hR.mono HM2.out), ?_⟩)
  rotate_left
  · go_simp
    refine (SH.out _ HQ.out).mono ?_
    rintro e w6 ⟨rfl, hb6⟩
    exact hK _ (below_self HQ.out hb6)
  replace HQ := Lib.hid hR
  have hHeld := mk _ (hR.mono HM2.out)
  clear hHeld
  refine wpAnyH_one (a' := ?_) 13 (fun w' => Below w2.heap.size w2 w') (by kernel_rfl) rfl (by rfl) (fun K hK => ?_) (fun w6 hR => ⟨mk _ (hR.mono HM2.out), ?_⟩)
  rotate_left
  · go_simp
    refine (SD.out _ HQ.out).mono ?_
    rintro e w6 ⟨rfl, hb6⟩
    exact hK _ (below_self HQ.out hb6)
  replace HQ := Lib.hid hR
  have hHeld := mk _ (hR.mono HM2.out)
  clear hHeld
  refine wpAnyH_one (a' := ?_) 17 (fun w' => Below w2.heap.size w2 w') (by kernel_rfl) rfl (by rfl) (fun K hK => ?_) (fun w6 hR => ⟨mk _ (hR.mono HM2.out), ?_⟩)
  rotate_left
  · go_simp
    refine (SI.out _ HQ.out).mono ?_
    rintro e w6 ⟨rfl, hb6⟩
    exact hK _ (below_self HQ.out hb6)
  replace HQ := Lib.hid hR
  have hHeld := mk _ (hR.mono HM2.out)
  clear hHeld
  refine wpAnyH_one (a' := ?_) 21 (fun w' => Below w2.heap.size w2 w') (by kernel_rfl) rfl (by rfl) (fun K hK => ?_) (fun w6 hR => ⟨mk _ (hR.mono HM2.out), ?_⟩)
  rotate_left
  · go_simp
    refine (SA.out _ HQ.out).mono ?_
    rintro e w6 ⟨rfl, hb6⟩
    exact hK _ (below_self HQ.out hb6)
  replace HQ := Lib.hid hR
  have hHeld := mk _ (hR.mono HM2.out)
  refine wpAnyH_take (i := 22) (v := ?_) rfl (by kernel_rfl) (by kernel_rfl) (by kernel_rfl) (fun _ _ _ h => h) (Or.inl ⟨by rfl, ?_⟩) hHeld ?_
  rotate_left
  · intro w hSw; (try dsimp only at hSw); go_simp; try with_reducible rfl
  simp only [Act.put]; (try simp only [List.setIfInBounds_toArray, List.set_cons_zero, List.set_cons_succ])
  obtain ⟨⟨d0, d1, d2, d3, d4, d5⟩, f0, f1, f2, f3, f4, f5⟩ := HS2.out.below HQ.out
  clear hHeld c0 c1 c2 c3 c4 c5
  obtain ⟨W4, hW4⟩ : ∃ W4, W4 = ((((((w6.setCell ⟨N + 2, 0, none⟩ (.string nm)).setCell ⟨N + 2, 1, none⟩ (.int .i64 W')).setCell ⟨N + 2, 2, none⟩ (.int .i64 H')).setCell ⟨N + 2, 3, none⟩ (.int .i64 D')).setCell ⟨N + 2, 4, none⟩ (.int .i64 I')).setCell ⟨N + 2, 5, none⟩ (.int .i64 A')) := ⟨_, rfl⟩
  refine wpAnyH_one (a' := ?_) 23 (fun w' => w' = W4) (by kernel_rfl) rfl (by rfl) (fun K hK => ?_) (fun w7 hR => ⟨?_, ?_⟩)
  rotate_left
  · go_simp
    rw [← hW4]
    exact hK _ rfl
  · subst hR
    exact mk _ (hW4 ▸ below_set6 (HQ.out.mono HM2.out) (Nat.le_refl _) _ _ _ _ _ _)
  subst hR
  obtain ⟨k0, k1, k2, k3, k4, k5⟩ := set6_cells d0 d1 d2 d3 d4 d5 _ _ _ _ _ _ hW4
  have hB4 : Below w.heap.size w w7 := by rw [hW4]; exact below_set6 (below_self HB2.out HQ.out) HNN.out.1 _ _ _ _ _ _
  have HQ8 : Hid (Below (N + 2) w2 w7) := Lib.hid (hW4 ▸ below_set6 (HQ.out.mono HM2.out) (Nat.le_refl _) _ _ _ _ _ _)
  clear hW4 d0 d1 d2 d3 d4 d5 f0 f1 f2 f3 f4 f5
  have hHeld := mk _ HQ8.out
  refine wpAnyH_one (a' := ?_) 24 (fun w' => w' = w7) (by kernel_rfl) rfl (by rfl) (fun K hK => ?_) (fun w8 hR => ⟨?_, ?_⟩)
  rotate_left
  · go_simp
    exact hK _ rfl
  · subst hR
    exact hHeld
  subst hR
  (try simp only [Act.put]; (try simp only [List.setIfInBounds_toArray, List.set_cons_zero, List.set_cons_succ]))
  refine wpAnyH_done (by kernel_rfl) ?_ _
  go_wp2_with fail
  exact bodyPost_ret (v := .tuple #[.agg #[.string nm, .int .i64 W', .int .i64 H', .int .i64 D', .int .i64 I', .int .i64 A'], .int .i64 0]) (by simp [results, Try.results21, go_sem, k0, k1, k2, k3, k4, k5]) rfl ⟨rfl, hN ▸ hB4⟩
end Go.Proofs.Ytjhpajdkklklhaa.Fon
