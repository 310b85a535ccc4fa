/- FontScaled: for every glyph and percentage the law returns true and turns nothing that lay in memory. No condition. -/
import Derived.SevenTiedAt
import Derived.OpenShut
import Derived.Test.YtjhpajdkklklhaaFrame
import Derived.Test.YtjhpajdkklklhaaFntLaw
import Derived.Test.YtjhpajdkklklhaaFonOpen
import Derived.Deep.DeepCutAuto
import Derived.Test.YtjhpajdkklklhaaHeld
namespace Go.Proofs.Ytjhpajdkklklhaa.fontScaled
open Go Go.RowKit Go.WideShapes Go.ChangeShapes By Fon

set_option maxRecDepth 100000 in
set_option maxHeartbeats 4000000 in
theorem walk (g : Gl) (p : Int) (w : World) :
    Calls Try.prog 5 #[.agg #[.string g.name, .int .i64 g.W, .int .i64 g.H, .int .i64 g.D, .int .i64 g.I, .int .i64 g.A], .int .i64 p] w fun e w' => e = .returned (.bool true) ∧ Below w.heap.size w w' := by
  obtain ⟨r, hr⟩ : ∃ r, (scaled g p).1 = r := ⟨_, rfl⟩
  obtain ⟨E, hE⟩ : ∃ E, (scaled g p).2 = E := ⟨_, rfl⟩
  have HA : Hid (∀ w, Calls Try.prog 21 #[.agg #[.string g.name, .int .i64 g.W, .int .i64 g.H, .int .i64 g.D, .int .i64 g.I, .int .i64 g.A], .int .i64 p] w fun e w' => e = .returned (.tuple #[.agg #[.string r.name, .int .i64 r.W, .int .i64 r.H, .int .i64 r.D, .int .i64 r.I, .int .i64 r.A], .int .i64 E]) ∧ Below w.heap.size w w') := Lib.hid fun w => hr ▸ hE ▸ scaled_any g p w
  have HB : Hid (∀ w, Calls Try.prog 22 #[.agg #[.string g.name, .int .i64 g.W, .int .i64 g.H, .int .i64 g.D, .int .i64 g.I, .int .i64 g.A], .int .i64 p] w fun e w' => e = .returned (.tuple #[.agg #[.string r.name, .int .i64 r.W, .int .i64 r.H, .int .i64 r.D, .int .i64 r.I, .int .i64 r.A], .int .i64 E]) ∧ Below w.heap.size w w') := Lib.hid fun w => hr ▸ hE ▸ rscaled_any g p w
  have HH : Hid (∀ w, Calls Try.prog 23 #[.agg #[.string g.name, .int .i64 g.W, .int .i64 g.H, .int .i64 g.D, .int .i64 g.I, .int .i64 g.A]] w fun e w' => e = .returned (.int .i64 (wrap64 (g.H + g.D))) ∧ Below w.heap.size w w') := Lib.hid fun w => height_any g.name g.W g.H g.D g.I g.A w
  obtain ⟨N, hN⟩ : ∃ N, w.heap.size = N := ⟨_, rfl⟩
  obtain ⟨W1, hW1⟩ : ∃ W', w.alloc (.cells #[.string g.name, .int .i64 g.W, .int .i64 g.H, .int .i64 g.D, .int .i64 g.I, .int .i64 g.A] 31) = W' := ⟨_, rfl⟩
  have hB1 : Below w.heap.size w W1 := by rw [← hW1]; exact below_new _ _
  have hs : Six W1 N (.string g.name) (.int .i64 g.W) (.int .i64 g.H) (.int .i64 g.D) (.int .i64 g.I) (.int .i64 g.A) := by rw [← hW1]; exact six_new hN _ _ _ _ _ _ _
  have HB1 := Lib.hid hB1
  have HS := Lib.hid hs
  obtain ⟨⟨a0, a1, a2, a3, a4, a5⟩, _⟩ := hs
  have HW := Lib.hid hW1
  clear hr hE hB1 hW1
  go_enter Try.func5, Try.ntmps5
  go_upto_region 5 with (first
    | (go_at_call 10; rw [HW.out]; refine (awake_any _).mono ?_; rintro e w2 ⟨rfl, hb2⟩
       replace HS := Lib.hid (HS.out.below hb2)
       replace HB1 := Lib.hid (below_self HB1.out hb2)
       replace a0 := keep_cell hb2 a0
       replace a1 := keep_cell hb2 a1
       replace a2 := keep_cell hb2 a2
       replace a3 := keep_cell hb2 a3
       replace a4 := keep_cell hb2 a4
       replace a5 := keep_cell hb2 a5
       clear hb2)
    | (go_at_call 21; refine (HA.out _).mono ?_; rintro e w4 ⟨rfl, hb4⟩
       obtain ⟨M1, hM1⟩ : ∃ M1, w4.heap.size = M1 := ⟨_, rfl⟩
       obtain ⟨w5, hw5⟩ : ∃ w5, w4.alloc (.cells #[.string r.name, .int .i64 r.W, .int .i64 r.H, .int .i64 r.D, .int .i64 r.I, .int .i64 r.A] 31) = w5 := ⟨_, rfl⟩
       have hb5 := below_self hb4 (hw5 ▸ below_new w4 (.cells #[.string r.name, .int .i64 r.W, .int .i64 r.H, .int .i64 r.D, .int .i64 r.I, .int .i64 r.A] 31))
       have h5 : Six w5 M1 (.string r.name) (.int .i64 r.W) (.int .i64 r.H) (.int .i64 r.D) (.int .i64 r.I) (.int .i64 r.A) := by rw [← hw5]; exact six_new hM1 _ _ _ _ _ _ _
       obtain ⟨⟨b0, b1, b2, b3, b4, b5⟩, _⟩ := h5
       replace HB1 := Lib.hid (below_self HB1.out hb5)
       replace HS := Lib.hid (HS.out.below hb5)
       replace a0 := keep_cell (below_self hb4 (below_new w4 (.cells #[.string r.name, .int .i64 r.W, .int .i64 r.H, .int .i64 r.D, .int .i64 r.I, .int .i64 r.A] 31))) a0
       replace a1 := keep_cell (below_self hb4 (below_new w4 (.cells #[.string r.name, .int .i64 r.W, .int .i64 r.H, .int .i64 r.D, .int .i64 r.I, .int .i64 r.A] 31))) a1
       replace a2 := keep_cell (below_self hb4 (below_new w4 (.cells #[.string r.name, .int .i64 r.W, .int .i64 r.H, .int .i64 r.D, .int .i64 r.I, .int .i64 r.A] 31))) a2
       replace a3 := keep_cell (below_self hb4 (below_new w4 (.cells #[.string r.name, .int .i64 r.W, .int .i64 r.H, .int .i64 r.D, .int .i64 r.I, .int .i64 r.A] 31))) a3
       replace a4 := keep_cell (below_self hb4 (below_new w4 (.cells #[.string r.name, .int .i64 r.W, .int .i64 r.H, .int .i64 r.D, .int .i64 r.I, .int .i64 r.A] 31))) a4
       replace a5 := keep_cell (below_self hb4 (below_new w4 (.cells #[.string r.name, .int .i64 r.W, .int .i64 r.H, .int .i64 r.D, .int .i64 r.I, .int .i64 r.A] 31))) a5
       have HW5 := Lib.hid hw5
       have HM1 := Lib.hid hM1
       clear hb4 hb5 hw5 hM1)
    | (go_at_call 22; rw [HW5.out, HM1.out]; refine (HB.out _).mono ?_; rintro e w6 ⟨rfl, hb6⟩
       obtain ⟨M2, hM2⟩ : ∃ M2, w6.heap.size = M2 := ⟨_, rfl⟩
       obtain ⟨w3, hw3⟩ : ∃ w3, w6.alloc (.cells #[.string r.name, .int .i64 r.W, .int .i64 r.H, .int .i64 r.D, .int .i64 r.I, .int .i64 r.A] 31) = w3 := ⟨_, rfl⟩
       have hb7 := below_self hb6 (hw3 ▸ below_new w6 (.cells #[.string r.name, .int .i64 r.W, .int .i64 r.H, .int .i64 r.D, .int .i64 r.I, .int .i64 r.A] 31))
       have h7 : Six w3 M2 (.string r.name) (.int .i64 r.W) (.int .i64 r.H) (.int .i64 r.D) (.int .i64 r.I) (.int .i64 r.A) := by rw [← hw3]; exact six_new hM2 _ _ _ _ _ _ _
       obtain ⟨⟨c0, c1, c2, c3, c4, c5⟩, _⟩ := h7
       replace HB1 := Lib.hid (below_self HB1.out hb7)
       clear a0 a1 a2 a3 a4 a5
       obtain ⟨⟨a0, a1, a2, a3, a4, a5⟩, _⟩ := HS.out.below hb7
       replace b0 := keep_cell hb7 b0
       replace b1 := keep_cell hb7 b1
       replace b2 := keep_cell hb7 b2
       replace b3 := keep_cell hb7 b3
       replace b4 := keep_cell hb7 b4
       replace b5 := keep_cell hb7 b5
       have HW3 := Lib.hid hw3
       have HM2 := Lib.hid hM2
       clear hb6 hb7 hw3 hM2)
    | fail)
  rw [HW3.out, HM2.out]
  have mk : ∀ W', Below w3.heap.size w3 W' → (fun w' => w'.cell? ⟨N, 0, none⟩ = some (.string g.name) ∧ w'.cell? ⟨N, 1, none⟩ = some (.int .i64 g.W) ∧ w'.cell? ⟨N, 2, none⟩ = some (.int .i64 g.H) ∧ w'.cell? ⟨N, 3, none⟩ = some (.int .i64 g.D) ∧ w'.cell? ⟨N, 4, none⟩ = some (.int .i64 g.I) ∧ w'.cell? ⟨N, 5, none⟩ = some (.int .i64 g.A) ∧ w'.cell? ⟨M1, 0, none⟩ = some (.string r.name) ∧ w'.cell? ⟨M1, 1, none⟩ = some (.int .i64 r.W) ∧ w'.cell? ⟨M1, 2, none⟩ = some (.int .i64 r.H) ∧ w'.cell? ⟨M1, 3, none⟩ = some (.int .i64 r.D) ∧ w'.cell? ⟨M1, 4, none⟩ = some (.int .i64 r.I) ∧ w'.cell? ⟨M1, 5, none⟩ = some (.int .i64 r.A) ∧ w'.cell? ⟨M2, 0, none⟩ = some (.string r.name) ∧ w'.cell? ⟨M2, 1, none⟩ = some (.int .i64 r.W) ∧ w'.cell? ⟨M2, 2, none⟩ = some (.int .i64 r.H) ∧ w'.cell? ⟨M2, 3, none⟩ = some (.int .i64 r.D) ∧ w'.cell? ⟨M2, 4, none⟩ = some (.int .i64 r.I) ∧ w'.cell? ⟨M2, 5, none⟩ = some (.int .i64 r.A) ∧ Below w3.heap.size w3 w') W' := fun W' h => ⟨keep_cell h a0, keep_cell h a1, keep_cell h a2, keep_cell h a3, keep_cell h a4, keep_cell h a5, keep_cell h b0, keep_cell h b1, keep_cell h b2, keep_cell h b3, keep_cell h b4, keep_cell h b5, keep_cell h c0, keep_cell h c1, keep_cell h c2, keep_cell h c3, keep_cell h c4, keep_cell h c5, h⟩
  have MK := Lib.hid mk
  clear mk a0 a1 a2 a3 a4 a5 b0 b1 b2 b3 b4 b5 c0 c1 c2 c3 c4 c5
  have HQ := Lib.hid (below_drew w3)
  refine wp_region_held_drew (S := fun w' => w'.cell? ⟨N, 0, none⟩ = some (.string g.name) ∧ w'.cell? ⟨N, 1, none⟩ = some (.int .i64 g.W) ∧ w'.cell? ⟨N, 2, none⟩ = some (.int .i64 g.H) ∧ w'.cell? ⟨N, 3, none⟩ = some (.int .i64 g.D) ∧ w'.cell? ⟨N, 4, none⟩ = some (.int .i64 g.I) ∧ w'.cell? ⟨N, 5, none⟩ = some (.int .i64 g.A) ∧ w'.cell? ⟨M1, 0, none⟩ = some (.string r.name) ∧ w'.cell? ⟨M1, 1, none⟩ = some (.int .i64 r.W) ∧ w'.cell? ⟨M1, 2, none⟩ = some (.int .i64 r.H) ∧ w'.cell? ⟨M1, 3, none⟩ = some (.int .i64 r.D) ∧ w'.cell? ⟨M1, 4, none⟩ = some (.int .i64 r.I) ∧ w'.cell? ⟨M1, 5, none⟩ = some (.int .i64 r.A) ∧ w'.cell? ⟨M2, 0, none⟩ = some (.string r.name) ∧ w'.cell? ⟨M2, 1, none⟩ = some (.int .i64 r.W) ∧ w'.cell? ⟨M2, 2, none⟩ = some (.int .i64 r.H) ∧ w'.cell? ⟨M2, 3, none⟩ = some (.int .i64 r.D) ∧ w'.cell? ⟨M2, 4, none⟩ = some (.int .i64 r.I) ∧ w'.cell? ⟨M2, 5, none⟩ = some (.int .i64 r.A) ∧ Below w3.heap.size w3 w') (by kernel_rfl) (MK.out _ (below_drew _)) (fun hHeld => ?_)
  refine wpAnyH_take (i := 0) (v := ?_) rfl (by kernel_rfl) (by kernel_rfl) (by kernel_rfl) (fun _ _ _ h => h) (Or.inl ⟨by rfl, ?_⟩) hHeld ?_
  rotate_left
  · intro w hSw; (try dsimp only at hSw); go_simp; try with_reducible rfl
  simp only [Act.put]; (try simp only [List.setIfInBounds_toArray, List.set_cons_zero, List.set_cons_succ, List.getElem_toArray, List.getElem_cons_zero, List.getElem_cons_succ])
  refine wpAnyH_take (i := 1) (v := ?_) rfl (by kernel_rfl) (by kernel_rfl) (by kernel_rfl) (fun _ _ _ h => h) (Or.inl ⟨by rfl, ?_⟩) hHeld ?_
  rotate_left
  · intro w hSw; (try dsimp only at hSw); go_simp; try with_reducible rfl
  simp only [Act.put]; (try simp only [List.setIfInBounds_toArray, List.set_cons_zero, List.set_cons_succ, List.getElem_toArray, List.getElem_cons_zero, List.getElem_cons_succ])
  refine wpAnyH_take (i := 2) (v := ?_) rfl (by kernel_rfl) (by kernel_rfl) (by kernel_rfl) (fun _ _ _ h => h) (Or.inl ⟨by rfl, ?_⟩) hHeld ?_
  rotate_left
  · intro w hSw; (try dsimp only at hSw); go_simp; try with_reducible rfl
  simp only [Act.put]; (try simp only [List.setIfInBounds_toArray, List.set_cons_zero, List.set_cons_succ, List.getElem_toArray, List.getElem_cons_zero, List.getElem_cons_succ])
  refine wpAnyH_take (i := 3) (v := ?_) rfl (by kernel_rfl) (by kernel_rfl) (by kernel_rfl) (fun _ _ _ h => h) (Or.inl ⟨by rfl, ?_⟩) hHeld ?_
  rotate_left
  · intro w hSw; (try dsimp only at hSw); go_simp; try with_reducible rfl
  simp only [Act.put]; (try simp only [List.setIfInBounds_toArray, List.set_cons_zero, List.set_cons_succ, List.getElem_toArray, List.getElem_cons_zero, List.getElem_cons_succ])
  refine wpAnyH_take (i := 4) (v := ?_) rfl (by kernel_rfl) (by kernel_rfl) (by kernel_rfl) (fun _ _ _ h => h) (Or.inl ⟨by rfl, ?_⟩) hHeld ?_
  rotate_left
  · intro w hSw; (try dsimp only at hSw); go_simp; try with_reducible rfl
  simp only [Act.put]; (try simp only [List.setIfInBounds_toArray, List.set_cons_zero, List.set_cons_succ, List.getElem_toArray, List.getElem_cons_zero, List.getElem_cons_succ])
  refine wpAnyH_take (i := 5) (v := ?_) rfl (by kernel_rfl) (by kernel_rfl) (by kernel_rfl) (fun _ _ _ h => h) (Or.inl ⟨by rfl, ?_⟩) hHeld ?_
  rotate_left
  · intro w hSw; (try dsimp only at hSw); go_simp; try with_reducible rfl
  simp only [Act.put]; (try simp only [List.setIfInBounds_toArray, List.set_cons_zero, List.set_cons_succ, List.getElem_toArray, List.getElem_cons_zero, List.getElem_cons_succ])
  refine wpAnyH_take (i := 6) (v := ?_) rfl (by kernel_rfl) (by kernel_rfl) (by kernel_rfl) (fun _ _ _ h => h) (Or.inl ⟨by rfl, ?_⟩) hHeld ?_
  rotate_left
  · intro w hSw; (try dsimp only at hSw); go_simp; try with_reducible rfl
  simp only [Act.put]; (try simp only [List.setIfInBounds_toArray, List.set_cons_zero, List.set_cons_succ, List.getElem_toArray, List.getElem_cons_zero, List.getElem_cons_succ])
  refine wpAnyH_take (i := 7) (v := ?_) rfl (by kernel_rfl) (by kernel_rfl) (by kernel_rfl) (fun _ _ _ h => h) (Or.inl ⟨by rfl, ?_⟩) hHeld ?_
  rotate_left
  · intro w hSw; (try dsimp only at hSw); go_simp; try with_reducible rfl
  simp only [Act.put]; (try simp only [List.setIfInBounds_toArray, List.set_cons_zero, List.set_cons_succ, List.getElem_toArray, List.getElem_cons_zero, List.getElem_cons_succ])
  refine wpAnyH_take (i := 8) (v := ?_) rfl (by kernel_rfl) (by kernel_rfl) (by kernel_rfl) (fun _ _ _ h => h) (Or.inl ⟨by rfl, ?_⟩) hHeld ?_
  rotate_left
  · intro w hSw; (try dsimp only at hSw); go_simp; try with_reducible rfl
  simp only [Act.put]; (try simp only [List.setIfInBounds_toArray, List.set_cons_zero, List.set_cons_succ, List.getElem_toArray, List.getElem_cons_zero, List.getElem_cons_succ])
  refine wpAnyH_take (i := 9) (v := ?_) rfl (by kernel_rfl) (by kernel_rfl) (by kernel_rfl) (fun _ _ _ h => h) (Or.inl ⟨by rfl, ?_⟩) hHeld ?_
  rotate_left
  · intro w hSw; (try dsimp only at hSw); go_simp; try with_reducible rfl
  simp only [Act.put]; (try simp only [List.setIfInBounds_toArray, List.set_cons_zero, List.set_cons_succ, List.getElem_toArray, List.getElem_cons_zero, List.getElem_cons_succ])
  refine wpAnyH_take (i := 11) (v := ?_) rfl (by kernel_rfl) (by kernel_rfl) (by kernel_rfl) (fun _ _ _ h => h) (Or.inl ⟨by rfl, ?_⟩) hHeld ?_
  rotate_left
  · intro w hSw; (try dsimp only at hSw); go_simp; try with_reducible rfl
  simp only [Act.put]; (try simp only [List.setIfInBounds_toArray, List.set_cons_zero, List.set_cons_succ, List.getElem_toArray, List.getElem_cons_zero, List.getElem_cons_succ])
  refine wpAnyH_take (i := 12) (v := ?_) rfl (by kernel_rfl) (by kernel_rfl) (by kernel_rfl) (fun _ _ _ h => h) (Or.inl ⟨by rfl, ?_⟩) hHeld ?_
  rotate_left
  · intro w hSw; (try dsimp only at hSw); go_simp; try with_reducible rfl
  simp only [Act.put]; (try simp only [List.setIfInBounds_toArray, List.set_cons_zero, List.set_cons_succ, List.getElem_toArray, List.getElem_cons_zero, List.getElem_cons_succ])
  refine wpAnyH_take (i := 13) (v := ?_) rfl (by kernel_rfl) (by kernel_rfl) (by kernel_rfl) (fun _ _ _ h => h) (Or.inl ⟨by rfl, ?_⟩) hHeld ?_
  rotate_left
  · intro w hSw; (try dsimp only at hSw); go_simp; try with_reducible rfl
  simp only [Act.put]; (try simp only [List.setIfInBounds_toArray, List.set_cons_zero, List.set_cons_succ, List.getElem_toArray, List.getElem_cons_zero, List.getElem_cons_succ])
  refine wpAnyH_take (i := 14) (v := ?_) rfl (by kernel_rfl) (by kernel_rfl) (by kernel_rfl) (fun _ _ _ h => h) (Or.inl ⟨by rfl, ?_⟩) hHeld ?_
  rotate_left
  · intro w hSw; (try dsimp only at hSw); go_simp; try with_reducible rfl
  simp only [Act.put]; (try simp only [List.setIfInBounds_toArray, List.set_cons_zero, List.set_cons_succ, List.getElem_toArray, List.getElem_cons_zero, List.getElem_cons_succ])
  refine wpAnyH_take (i := 15) (v := ?_) rfl (by kernel_rfl) (by kernel_rfl) (by kernel_rfl) (fun _ _ _ h => h) (Or.inl ⟨by rfl, ?_⟩) hHeld ?_
  rotate_left
  · intro w hSw; (try dsimp only at hSw); go_simp; try with_reducible rfl
  simp only [Act.put]; (try simp only [List.setIfInBounds_toArray, List.set_cons_zero, List.set_cons_succ, List.getElem_toArray, List.getElem_cons_zero, List.getElem_cons_succ])
  clear hHeld
  refine wpAnyH_one (a' := ?_) 10 (fun w' => Below w3.heap.size w3 w') (by kernel_rfl) rfl (by rfl) (fun K hK => ?_) (fun w6 hR => ⟨MK.out _ hR, ?_⟩)
  rotate_left
  · go_simp
    refine (HH.out _).mono ?_
    rintro e w6 ⟨rfl, hb6⟩
    exact hK _ (below_self HQ.out hb6)
  replace HQ := Lib.hid hR
  have hHeld := MK.out _ hR
  refine wpAnyH_take (i := 16) (v := ?_) rfl (by kernel_rfl) (by kernel_rfl) (by kernel_rfl) (fun _ _ _ h => h) (Or.inl ⟨by rfl, ?_⟩) hHeld ?_
  rotate_left
  · intro w hSw; (try dsimp only at hSw); go_simp; try with_reducible rfl
  simp only [Act.put]; (try simp only [List.setIfInBounds_toArray, List.set_cons_zero, List.set_cons_succ, List.getElem_toArray, List.getElem_cons_zero, List.getElem_cons_succ])
  refine wpAnyH_take (i := 17) (v := ?_) rfl (by kernel_rfl) (by kernel_rfl) (by kernel_rfl) (fun _ _ _ h => h) (Or.inl ⟨by rfl, ?_⟩) hHeld ?_
  rotate_left
  · intro w hSw; (try dsimp only at hSw); go_simp; try with_reducible rfl
  simp only [Act.put]; (try simp only [List.setIfInBounds_toArray, List.set_cons_zero, List.set_cons_succ, List.getElem_toArray, List.getElem_cons_zero, List.getElem_cons_succ])
  refine wpAnyH_take (i := 18) (v := ?_) rfl (by kernel_rfl) (by kernel_rfl) (by kernel_rfl) (fun _ _ _ h => h) (Or.inl ⟨by rfl, ?_⟩) hHeld ?_
  rotate_left
  · intro w hSw; (try dsimp only at hSw); go_simp; try with_reducible rfl
  simp only [Act.put]; (try simp only [List.setIfInBounds_toArray, List.set_cons_zero, List.set_cons_succ, List.getElem_toArray, List.getElem_cons_zero, List.getElem_cons_succ])
  clear hHeld
  (try simp only [Act.put]; (try simp only [List.setIfInBounds_toArray, List.set_cons_zero, List.set_cons_succ, List.getElem_toArray, List.getElem_cons_zero, List.getElem_cons_succ]))
  refine wpAnyH_done (by kernel_rfl) ?_ _
  go_wp2_with fail
  go_ret
  exact ⟨by show Ending.returned (.bool (wrap64 (g.H + g.D) == IntKind.i64.wrap (g.H + g.D))) = _; rw [IntWalk.i64_left, show (wrap64 (g.H + g.D) == wrap64 (g.H + g.D)) = true from beq_self_eq_true _], hN ▸ below_self HB1.out HQ.out⟩

theorem readable : ∀ t ∈ Try.f5.params.toList, Try.prog.readableRec t = true ∧ t < Try.prog.types.size := Frame.readable_of (by kernel_rfl)

set_option maxRecDepth 100000 in
theorem contract (H : Type) (enc : TypeId × Value → H) (W : World) (base : Nat) (args : Array Value) (ds gs : List (DataW H)) (before : List MemPlace)
    (hval : ∀ (j : Nat) t v, Try.f5.params[j]? = some t → args[j]? = some v → Value.okWide Try.prog W .any base t v)
    (hW : DataW.Whole enc Try.prog Try.f5.params.toList Rows.fontScaledSpec.vars false W args.toList ds gs before) (hT : True) :
    Calls Try.prog 5 args W fun e W' => ∃ v, e = .returned v ∧ Rows.fontScaledSpec.post enc Try.prog Try.f5 false true false false W args v W' := by
  have hW' := hW
  obtain ⟨p, q, hA0, hV, rfl, hfz, hnd⟩ := hW
  have hA : DataW.TrodAll enc Try.prog W 0 (fun _ => true) true Try.f5.params.toList args.toList ds p := hA0
  rw [Try.params5] at hA hval
  obtain ⟨v0, vs0, d0, ds0, p0, q0, hargs, rfl, rfl, h0, r0⟩ := trodAll_cons hA
  obtain ⟨v1, vs1, d1, ds1, p1, q1, rfl, rfl, rfl, h1, r1⟩ := trodAll_cons r0
  obtain ⟨rfl, rfl, rfl⟩ := trodAll_nil r1
  obtain rfl : args = #[v0, v1] := by cases args; simp_all
  obtain ⟨g0, rfl, wg0⟩ := Fon.open_glyph (hval 0 31 v0 rfl rfl) h0
  obtain ⟨a1, rfl, rfl, rfl, w1⟩ := open_int Try.underlying3 (hval 1 3 v1 rfl rfl) h1
  refine (walk g0 a1 W).mono fun e W' ⟨he, hb⟩ => ⟨_, he, Frame.post_law Frame.laidOut readable (by kernel_rfl) Try.underlying4 hW' rfl rfl hb⟩

theorem laid_met (os : Os) : laidMetH Try.prog Rows.fontScaledRow.laid ((World.laidAll Try.prog os Rows.fontScaledRow.laid).forCall (fun _ _ => 0) ⟨#[], #[.agg #[.string ⟨#[]⟩, .int .i64 0, .int .i64 0, .int .i64 0, .int .i64 0, .int .i64 0], .int .i64 0], []⟩).memory := by
  rw [MakeChecks.laidMetH_plain _ _ _ (by kernel_rfl)]; exact laidMet_laidAll _ (by kernel_rfl) (by kernel_rfl)
theorem reads (os : Os) {H : Type} (enc : TypeId × Value → H) : ∃ places, DataW.whole enc Try.prog ((World.laidAll Try.prog os Rows.fontScaledRow.laid).forCall (fun _ _ => 0) ⟨#[], #[.agg #[.string ⟨#[]⟩, .int .i64 0, .int .i64 0, .int .i64 0, .int .i64 0, .int .i64 0], .int .i64 0], []⟩).memory Try.f5.params.toList Rows.fontScaledSpec.vars false (#[.agg #[.string ⟨#[]⟩, .int .i64 0, .int .i64 0, .int .i64 0, .int .i64 0, .int .i64 0], .int .i64 0] : Array Value).toList 8 = some ([.agg [.lit (.string []), .lit (.int .i64 0), .lit (.int .i64 0), .lit (.int .i64 0), .lit (.int .i64 0), .lit (.int .i64 0)], .lit (.int .i64 0)], [], places) :=
  ⟨[], by kernel_rfl⟩
set_option maxRecDepth 100000 in
theorem lifted (os : Os) (started : os.Started) (H : Type) (enc : TypeId × Value → H) (F : Stop.Interp) :
    ReturnsInHanded {} Try.checked os 5 .any ((OpenSpec.ofChange Rows.fontScaledSpec).preRow enc Try.prog Try.f5 Rows.fontScaledRow.domain false Rows.fontScaledRow.laid) (((OpenSpec.ofChange Rows.fontScaledSpec).at F).post enc Try.prog Try.f5 false true false false) := by
  obtain ⟨places, hx⟩ := reads os enc
  refine returnsInHanded_of_row (C := Try.checked) (s := OpenSpec.ofChange Rows.fontScaledSpec) Frame.own started (by kernel_rfl) Try.func5
    (Frame.witness_row_shaped (enc := enc) (C := Try.checked) false (World.laidAll Try.prog os Rows.fontScaledRow.laid) #[.agg #[.string ⟨#[]⟩, .int .i64 0, .int .i64 0, .int .i64 0, .int .i64 0, .int .i64 0], .int .i64 0] (World.laidAll_os _ _ _) (World.shaped_of_ZipB (by kernel_rfl) (by kernel_rfl)) (by kernel_rfl)
      (OpenSpec.preRow_of_cond 8 hx (by kernel_rfl) (fun k hk => by cases hk) (by kernel_rfl) (laid_met os))) ?_
  intro W base args ds gs before hval hW _ _ hsz hL hsh _
  rw [MakeChecks.laidMetH_plain _ _ _ (by kernel_rfl)] at hL
  exact contract H enc W base args ds gs before hval hW (trivial)

theorem said : Rows.FontScaledSaid :=
  OpenClaim.holds_of_cond 5 Try.f5 rfl rfl rfl rfl rfl rfl rfl ⟨rfl, rfl, rfl, rfl, rfl⟩ rfl rfl rfl rfl rfl (by kernel_rfl) Try.func5 (by kernel_rfl)
    (of_decide_eq_true (by kernel_rfl)) (by unfold Func.isWrapper; first | (rw [if_pos (by decide +kernel)]; kernel_rfl) | (rw [if_neg (by decide +kernel)]; exact ⟨rfl, rfl⟩))
    (fun os started H enc _ F => by rw [OpenClaim.pre_eq_preRow]; exact lifted os started H enc F)

end Go.Proofs.Ytjhpajdkklklhaa.fontScaled
