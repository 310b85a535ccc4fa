/- The program's package font: validMetrics, validParams. -/
import Derived.Test.YtjhpajdkklklhaaFntIdx
namespace Go.Proofs.Ytjhpajdkklklhaa.Fon
open Go Go.RowKit By

theorem ints_new {w : World} {n : Nat} (hn : w.heap.size = n) (m : List Int) (ty : TypeId) (k : Nat) (h : k < m.length) : (w.alloc (.cells (m.map (Value.int .i64)).toArray ty)).cell? ⟨n, k, none⟩ = some (.int .i64 m[k]) := by
  refine new_cell hn _ _ _ ?_
  rw [List.getElem?_toArray, List.getElem?_map, List.getElem?_eq_getElem h]; rfl
theorem mets_any (g : Gl) (w : World) :
    Calls Try.prog 40 #[.agg #[.string g.name, .int .i64 g.W, .int .i64 g.H, .int .i64 g.D, .int .i64 g.I, .int .i64 g.A]] w fun e w' => e = .returned (.bool (metB g)) ∧ Below w.heap.size w w' := by
  obtain ⟨B, hB⟩ : ∃ B, metB g = B := ⟨_, rfl⟩
  have hB2 : ([g.W, g.H, g.D, g.I, g.A].all fun x => within x (-20000) 20000) = B := hB
  rw [hB]
  clear hB
  obtain ⟨nm, W, H, D, I, A⟩ := g
  simp only [] at hB2 ⊢
  obtain ⟨N, hN⟩ : ∃ N, w.heap.size = N := ⟨_, rfl⟩
  obtain ⟨Wa, hWa⟩ : ∃ W', W' = w.alloc (.cells #[.string nm, .int .i64 W, .int .i64 H, .int .i64 D, .int .i64 I, .int .i64 A] 31) := ⟨_, rfl⟩
  obtain ⟨W1, hW1⟩ : ∃ W', W' = Wa.alloc (.cells #[.int .i64 W, .int .i64 H, .int .i64 D, .int .i64 I, .int .i64 A] 3) := ⟨_, rfl⟩
  have sa : Wa.heap.size = N + 1 := by rw [hWa]; exact size_new hN _
  have ba : Below w.heap.size w Wa := by rw [hWa]; exact below_new _ _
  have bb : Below Wa.heap.size Wa W1 := by rw [hW1]; exact below_new _ _
  have HC := Lib.hid (within_all (b := N + 1) (n := 5) (c := 5) (m := [W, H, D, I, A]) (a := -20000) (z := 20000) W1 rfl (by simp) (by rw [hW1, size_new sa]; omega) (fun k h => by rw [hW1]; exact ints_new sa [W, H, D, I, A] _ k h))
  rw [hB2] at HC
  have HB := Lib.hid (below_self ba bb)
  have HW : Hid (W1 = (w.alloc (.cells #[.string nm, .int .i64 W, .int .i64 H, .int .i64 D, .int .i64 I, .int .i64 A] 31)).alloc (.cells #[.int .i64 W, .int .i64 H, .int .i64 D, .int .i64 I, .int .i64 A] 3)) := Lib.hid (by rw [hW1, hWa])
  clear sa ba bb hWa hW1 hB2
  go_enter Try.func40, Try.ntmps40
  go_wp2_with (first
    | (go_at_call 49; rw [← HW.out]; refine HC.out.mono ?_; rintro e w' ⟨rfl, hb⟩
       have HB2 := Lib.hid (below_self HB.out hb)
       clear hb)
    | fail)
  go_ret
  exact ⟨rfl, hN ▸ HB2.out⟩
set_option maxRecDepth 100000 in
set_option maxHeartbeats 4000000 in
theorem params_any {p0 p1 p2 p3 p4 p5 p6 p7 p8 p9 p10 p11 p12 p13 p14 p15 p16 p17 p18 p19 : Int} (w : World) :
    Calls Try.prog 30 #[.agg #[.int .i64 p0, .int .i64 p1, .int .i64 p2, .int .i64 p3, .int .i64 p4, .int .i64 p5, .int .i64 p6, .int .i64 p7, .int .i64 p8, .int .i64 p9, .int .i64 p10, .int .i64 p11, .int .i64 p12, .int .i64 p13, .int .i64 p14, .int .i64 p15, .int .i64 p16, .int .i64 p17, .int .i64 p18, .int .i64 p19]] w fun e w' => e = .returned (.bool (paramsB [p0, p1, p2, p3, p4, p5, p6, p7, p8, p9, p10, p11, p12, p13, p14, p15, p16, p17, p18, p19])) ∧ Below w.heap.size w w' := by
  obtain ⟨B1, hB1⟩ : ∃ B, ([p15, p16, p17].all fun x => within x 1 100) = B := ⟨_, rfl⟩
  obtain ⟨B2, hB2⟩ : ∃ B, ([p0, p1, p2, p3, p4, p5, p6, p7, p8, p9, p10, p11, p12, p13, p14, p18, p19].all fun x => within x 0 20000) = B := ⟨_, rfl⟩
  have hF : paramsB [p0, p1, p2, p3, p4, p5, p6, p7, p8, p9, p10, p11, p12, p13, p14, p15, p16, p17, p18, p19] = (B2 && B1) := by rw [← hB1, ← hB2]; rfl
  rw [hF]
  obtain ⟨N, hN⟩ : ∃ N, w.heap.size = N := ⟨_, rfl⟩
  obtain ⟨Wa, hWa⟩ : ∃ W', W' = w.alloc (.cells #[.int .i64 p0, .int .i64 p1, .int .i64 p2, .int .i64 p3, .int .i64 p4, .int .i64 p5, .int .i64 p6, .int .i64 p7, .int .i64 p8, .int .i64 p9, .int .i64 p10, .int .i64 p11, .int .i64 p12, .int .i64 p13, .int .i64 p14, .int .i64 p15, .int .i64 p16, .int .i64 p17, .int .i64 p18, .int .i64 p19] 25) := ⟨_, rfl⟩
  obtain ⟨W1, hW1⟩ : ∃ W', W' = Wa.alloc (.cells #[.int .i64 p15, .int .i64 p16, .int .i64 p17] 3) := ⟨_, rfl⟩
  have sa : Wa.heap.size = N + 1 := by rw [hWa]; exact size_new hN _
  have ba : Below w.heap.size w Wa := by rw [hWa]; exact below_new _ _
  have bb : Below Wa.heap.size Wa W1 := by rw [hW1]; exact below_new _ _
  have hcs : ∀ (j : Nat) (v : Value), #[.int .i64 p0, .int .i64 p1, .int .i64 p2, .int .i64 p3, .int .i64 p4, .int .i64 p5, .int .i64 p6, .int .i64 p7, .int .i64 p8, .int .i64 p9, .int .i64 p10, .int .i64 p11, .int .i64 p12, .int .i64 p13, .int .i64 p14, .int .i64 p15, .int .i64 p16, .int .i64 p17, .int .i64 p18, .int .i64 p19][j]? = some v → Wa.cell? ⟨N, j, none⟩ = some v := fun j v h => by rw [hWa]; exact new_cell hN _ _ j h
  have HC := Lib.hid (within_all (b := N + 1) (n := 3) (c := 3) (m := [p15, p16, p17]) (a := 1) (z := 100) W1 rfl (by simp) (by rw [hW1, size_new sa]; omega) (fun k h => by rw [hW1]; exact ints_new sa [p15, p16, p17] _ k h))
  rw [hB1] at HC
  have HD : Hid (∀ (w6 : World) (M : Nat), w6.heap.size = M → Calls Try.prog 49 #[.int .i64 0, .int .i64 20000, .slice (some ⟨M, 0, none⟩) 17 17] (w6.alloc (.cells #[.int .i64 p0, .int .i64 p1, .int .i64 p2, .int .i64 p3, .int .i64 p4, .int .i64 p5, .int .i64 p6, .int .i64 p7, .int .i64 p8, .int .i64 p9, .int .i64 p10, .int .i64 p11, .int .i64 p12, .int .i64 p13, .int .i64 p14, .int .i64 p18, .int .i64 p19] 3)) fun e w' => e = .returned (.bool B2) ∧ Below w6.heap.size w6 w') := Lib.hid fun w6 M hM => by
    have h := within_all (b := M) (n := 17) (c := 17) (m := [p0, p1, p2, p3, p4, p5, p6, p7, p8, p9, p10, p11, p12, p13, p14, p18, p19]) (a := 0) (z := 20000) (w6.alloc (.cells #[.int .i64 p0, .int .i64 p1, .int .i64 p2, .int .i64 p3, .int .i64 p4, .int .i64 p5, .int .i64 p6, .int .i64 p7, .int .i64 p8, .int .i64 p9, .int .i64 p10, .int .i64 p11, .int .i64 p12, .int .i64 p13, .int .i64 p14, .int .i64 p18, .int .i64 p19] 3)) rfl (by simp) (by rw [size_new hM]; omega) (fun k h => ints_new hM [p0, p1, p2, p3, p4, p5, p6, p7, p8, p9, p10, p11, p12, p13, p14, p18, p19] _ k h)
    rw [hB2] at h
    exact h.mono fun e w' ⟨h1, h2⟩ => ⟨h1, below_self (below_new _ _) h2⟩
  have HB := Lib.hid (below_self ba bb)
  have HBA := Lib.hid bb
  have HCS := Lib.hid hcs
  have HW : Hid (W1 = (w.alloc (.cells #[.int .i64 p0, .int .i64 p1, .int .i64 p2, .int .i64 p3, .int .i64 p4, .int .i64 p5, .int .i64 p6, .int .i64 p7, .int .i64 p8, .int .i64 p9, .int .i64 p10, .int .i64 p11, .int .i64 p12, .int .i64 p13, .int .i64 p14, .int .i64 p15, .int .i64 p16, .int .i64 p17, .int .i64 p18, .int .i64 p19] 25)).alloc (.cells #[.int .i64 p15, .int .i64 p16, .int .i64 p17] 3)) := Lib.hid (by rw [hW1, hWa])
  clear sa ba bb hWa hW1 hB1 hB2 hcs hF
  cases B1 with
  | false =>
    rw [Bool.and_false]
    go_enter Try.func30, Try.ntmps30
    go_wp2_with (first
      | (go_at_call 49; rw [← HW.out]; refine HC.out.mono ?_; rintro e w' ⟨rfl, hb⟩
         have HB2 := Lib.hid (below_self HB.out hb)
         clear hb)
      | fail)
    go_ret
    exact ⟨rfl, hN ▸ HB2.out⟩
  | true =>
    rw [Bool.and_true]
    go_enter Try.func30, Try.ntmps30
    go_wp2_with (first
      | (go_at_call 49; first
          | (rw [← HW.out]; refine HC.out.mono ?_; rintro e w7 ⟨rfl, hb⟩
             have HB2 := Lib.hid (below_self HB.out hb)
             have hk := below_self HBA.out hb
             have z0 := keep_cell hk (HCS.out 0 _ rfl)
             have z1 := keep_cell hk (HCS.out 1 _ rfl)
             have z2 := keep_cell hk (HCS.out 2 _ rfl)
             have z3 := keep_cell hk (HCS.out 3 _ rfl)
             have z4 := keep_cell hk (HCS.out 4 _ rfl)
             have z5 := keep_cell hk (HCS.out 5 _ rfl)
             have z6 := keep_cell hk (HCS.out 6 _ rfl)
             have z7 := keep_cell hk (HCS.out 7 _ rfl)
             have z8 := keep_cell hk (HCS.out 8 _ rfl)
             have z9 := keep_cell hk (HCS.out 9 _ rfl)
             have z10 := keep_cell hk (HCS.out 10 _ rfl)
             have z11 := keep_cell hk (HCS.out 11 _ rfl)
             have z12 := keep_cell hk (HCS.out 12 _ rfl)
             have z13 := keep_cell hk (HCS.out 13 _ rfl)
             have z14 := keep_cell hk (HCS.out 14 _ rfl)
             have z18 := keep_cell hk (HCS.out 18 _ rfl)
             have z19 := keep_cell hk (HCS.out 19 _ rfl)
             obtain ⟨M, hM⟩ : ∃ M, w7.heap.size = M := ⟨_, rfl⟩
             clear hb hk HC HW)
          | (refine (HD.out w7 M hM).mono ?_; rintro e w8 ⟨rfl, hb⟩
             have HB3 := Lib.hid (below_self HB2.out hb)
             clear hb)
          | fail)
      | fail)
    go_ret
    exact ⟨rfl, hN ▸ HB3.out⟩
end Go.Proofs.Ytjhpajdkklklhaa.Fon
