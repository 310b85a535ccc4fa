/- The reference of layer 5: Pick. (Written by wip/tools/genpick.py.) -/
import Derived.Test.YtjhpajdkklklhaaFonFindS
import Derived.Deep.DeepCutAuto
namespace Go.Proofs.Ytjhpajdkklklhaa.Fon
open Go Go.RowKit By

set_option maxRecDepth 100000 in
set_option maxHeartbeats 4000000 in
theorem rpick_a {w : World} {A B : Option Addr} {c m d : Nat} {p0 p1 p2 p3 p4 p5 p6 p7 p8 p9 p10 p11 p12 p13 p14 p15 p16 p17 p18 p19 : Int} {gs : List Gl} {nm : ByteArray} {g : Gl} (hf : findG gs nm = some g) (hg : GlsAt w w.heap.size A gs) (hl : gs.length ≤ 9223372036854775807) :
    Calls Try.prog 19 #[.agg #[.slice A gs.length c, .slice B m d, .int .i64 p0, .int .i64 p1, .int .i64 p2, .int .i64 p3, .int .i64 p4, .int .i64 p5, .int .i64 p6, .int .i64 p7, .int .i64 p8, .int .i64 p9, .int .i64 p10, .int .i64 p11, .int .i64 p12, .int .i64 p13, .int .i64 p14, .int .i64 p15, .int .i64 p16, .int .i64 p17, .int .i64 p18, .int .i64 p19], .string nm] w fun e w' => e = .returned (.agg #[.string g.name, .int .i64 g.W, .int .i64 g.H, .int .i64 g.D, .int .i64 g.I, .int .i64 g.A]) ∧ Below w.heap.size w w' := by
  obtain ⟨q, hq⟩ : ∃ q, gs.length = q := ⟨_, rfl⟩
  have HQ := Lib.hid hq
  rw [hq] at hl ⊢
  have HL : Hid (gs.length ≤ 9223372036854775807) := Lib.hid (by omega)
  obtain ⟨N, hN⟩ : ∃ N, w.heap.size = N := ⟨_, rfl⟩
  obtain ⟨Wa, hWa⟩ : ∃ W', W' = w.alloc (.cells #[.slice A q c, .slice B m d, .int .i64 p0, .int .i64 p1, .int .i64 p2, .int .i64 p3, .int .i64 p4, .int .i64 p5, .int .i64 p6, .int .i64 p7, .int .i64 p8, .int .i64 p9, .int .i64 p10, .int .i64 p11, .int .i64 p12, .int .i64 p13, .int .i64 p14, .int .i64 p15, .int .i64 p16, .int .i64 p17, .int .i64 p18, .int .i64 p19] 27) := ⟨_, rfl⟩
  obtain ⟨W1, hW1⟩ : ∃ W', W' = Wa.alloc (.cells #[.string ⟨#[]⟩, .int .i64 0, .int .i64 0, .int .i64 0, .int .i64 0, .int .i64 0] 31) := ⟨_, rfl⟩
  have sa : Wa.heap.size = N + 1 := by rw [hWa]; exact size_new hN _
  have ba : Below w.heap.size w Wa := by rw [hWa]; exact below_new _ _
  have bb : Below Wa.heap.size Wa W1 := by rw [hW1]; exact below_new _ _
  have hB1 := below_self ba bb
  have HR : Hid (W1.rangeAt N 0 [.slice A q c, .slice B m d, .int .i64 p0, .int .i64 p1, .int .i64 p2, .int .i64 p3, .int .i64 p4, .int .i64 p5, .int .i64 p6, .int .i64 p7, .int .i64 p8, .int .i64 p9, .int .i64 p10, .int .i64 p11, .int .i64 p12, .int .i64 p13, .int .i64 p14, .int .i64 p15, .int .i64 p16, .int .i64 p17, .int .i64 p18, .int .i64 p19]) := Lib.hid (range_below (by rw [hWa]; exact range_new hN _ _) bb)
  have d0 : W1.cell? ⟨N + 1, 0, none⟩ = some (.string ⟨#[]⟩) := by rw [hW1]; exact new_cell sa _ _ 0 rfl
  have d1 : W1.cell? ⟨N + 1, 1, none⟩ = some (.int .i64 0) := by rw [hW1]; exact new_cell sa _ _ 1 rfl
  have d2 : W1.cell? ⟨N + 1, 2, none⟩ = some (.int .i64 0) := by rw [hW1]; exact new_cell sa _ _ 2 rfl
  have d3 : W1.cell? ⟨N + 1, 3, none⟩ = some (.int .i64 0) := by rw [hW1]; exact new_cell sa _ _ 3 rfl
  have d4 : W1.cell? ⟨N + 1, 4, none⟩ = some (.int .i64 0) := by rw [hW1]; exact new_cell sa _ _ 4 rfl
  have d5 : W1.cell? ⟨N + 1, 5, none⟩ = some (.int .i64 0) := by rw [hW1]; exact new_cell sa _ _ 5 rfl
  have FZ : Hid (∀ j, W1.frozen? ⟨N + 1, j, none⟩ = false) := Lib.hid fun j => by rw [hW1]; exact new_frozen sa _ _ j
  have HN1 : Hid (N + 1 < W1.heap.size) := Lib.hid (by rw [hW1, size_new sa]; omega)
  have HW : Hid (W1 = (w.alloc (.cells #[.slice A q c, .slice B m d, .int .i64 p0, .int .i64 p1, .int .i64 p2, .int .i64 p3, .int .i64 p4, .int .i64 p5, .int .i64 p6, .int .i64 p7, .int .i64 p8, .int .i64 p9, .int .i64 p10, .int .i64 p11, .int .i64 p12, .int .i64 p13, .int .i64 p14, .int .i64 p15, .int .i64 p16, .int .i64 p17, .int .i64 p18, .int .i64 p19] 27)).alloc (.cells #[.string ⟨#[]⟩, .int .i64 0, .int .i64 0, .int .i64 0, .int .i64 0, .int .i64 0] 31)) := Lib.hid (by rw [hW1, hWa])
  have HB := Lib.hid hB1
  have HGA := Lib.hid (hg.below hB1)
  clear ba bb hB1 sa hWa hW1 hg hq
  go_enter Try.func19, Try.ntmps19
  go_upto_region 1 with fail
  rw [← HW.out]
  go_wp2_with (first | (refine wpList_load_mid rfl 27 (.tmp 2) rfl N 0 rfl [.slice A q c, .slice B m d, .int .i64 p0, .int .i64 p1, .int .i64 p2, .int .i64 p3, .int .i64 p4, .int .i64 p5, .int .i64 p6, .int .i64 p7, .int .i64 p8, .int .i64 p9, .int .i64 p10, .int .i64 p11, .int .i64 p12, .int .i64 p13, .int .i64 p14, .int .i64 p15, .int .i64 p16, .int .i64 p17, .int .i64 p18, .int .i64 p19] _ HR.out Try.underlying27 rfl (by kernel_rfl) ?_) | fail)
  refine (rfind_let (g := g) HQ.out.symm HGA.out HL.out (.inl ⟨rfl, hf⟩)).mono ?_
  rintro e w2 ⟨rfl, hb⟩
  have hbn := below_new w2 (.cells #[.string g.name, .int .i64 g.W, .int .i64 g.H, .int .i64 g.D, .int .i64 g.I, .int .i64 g.A] 31)
  have hbx := below_self hb hbn
  replace d0 := keep_cell hbx d0
  replace d1 := keep_cell hbx d1
  replace d2 := keep_cell hbx d2
  replace d3 := keep_cell hbx d3
  replace d4 := keep_cell hbx d4
  replace d5 := keep_cell hbx d5
  have f0 := (hbx.frozen (p := ⟨N + 1, 0, none⟩) HN1.out).trans (FZ.out 0)
  have f1 := (hbx.frozen (p := ⟨N + 1, 1, none⟩) HN1.out).trans (FZ.out 1)
  have f2 := (hbx.frozen (p := ⟨N + 1, 2, none⟩) HN1.out).trans (FZ.out 2)
  have f3 := (hbx.frozen (p := ⟨N + 1, 3, none⟩) HN1.out).trans (FZ.out 3)
  have f4 := (hbx.frozen (p := ⟨N + 1, 4, none⟩) HN1.out).trans (FZ.out 4)
  have f5 := (hbx.frozen (p := ⟨N + 1, 5, none⟩) HN1.out).trans (FZ.out 5)
  replace HB := Lib.hid (below_self HB.out hbx)
  clear hb hbn hbx HR
  go_wp2_with fail
  obtain ⟨W4, hW4⟩ : ∃ W4, W4 = (((((((w2.alloc (.cells #[.string g.name, .int .i64 g.W, .int .i64 g.H, .int .i64 g.D, .int .i64 g.I, .int .i64 g.A] 31)).setCell ⟨N + 1, 0, none⟩ (.string g.name)).setCell ⟨N + 1, 1, none⟩ (.int .i64 g.W)).setCell ⟨N + 1, 2, none⟩ (.int .i64 g.H)).setCell ⟨N + 1, 3, none⟩ (.int .i64 g.D)).setCell ⟨N + 1, 4, none⟩ (.int .i64 g.I)).setCell ⟨N + 1, 5, none⟩ (.int .i64 g.A)) := ⟨_, rfl⟩
  rw [← hW4]
  obtain ⟨k0, k1, k2, k3, k4, k5⟩ := set6_cells d0 d1 d2 d3 d4 d5 _ _ _ _ _ _ hW4
  have hB4 : Below w.heap.size w W4 := by rw [hW4]; exact below_set6 HB.out (by omega) _ _ _ _ _ _
  clear hW4
  exact bodyPost_ret (v := .agg #[.string g.name, .int .i64 g.W, .int .i64 g.H, .int .i64 g.D, .int .i64 g.I, .int .i64 g.A]) (by simp [results, Try.results19, go_sem, k0, k1, k2, k3, k4, k5]) rfl ⟨rfl, hN ▸ hB4⟩
set_option maxRecDepth 100000 in
set_option maxHeartbeats 4000000 in
theorem rpick_b {w : World} {A B : Option Addr} {c m d : Nat} {p0 p1 p2 p3 p4 p5 p6 p7 p8 p9 p10 p11 p12 p13 p14 p15 p16 p17 p18 p19 : Int} {gs : List Gl} {nm : ByteArray} {g : Gl} (hf : findG gs nm = none) (hf2 : findG gs ⟨#[63]⟩ = some g) (hg : GlsAt w w.heap.size A gs) (hl : gs.length ≤ 9223372036854775807) :
    Calls Try.prog 19 #[.agg #[.slice A gs.length c, .slice B m d, .int .i64 p0, .int .i64 p1, .int .i64 p2, .int .i64 p3, .int .i64 p4, .int .i64 p5, .int .i64 p6, .int .i64 p7, .int .i64 p8, .int .i64 p9, .int .i64 p10, .int .i64 p11, .int .i64 p12, .int .i64 p13, .int .i64 p14, .int .i64 p15, .int .i64 p16, .int .i64 p17, .int .i64 p18, .int .i64 p19], .string nm] w fun e w' => e = .returned (.agg #[.string g.name, .int .i64 g.W, .int .i64 g.H, .int .i64 g.D, .int .i64 g.I, .int .i64 g.A]) ∧ Below w.heap.size w w' := by
  obtain ⟨q, hq⟩ : ∃ q, gs.length = q := ⟨_, rfl⟩
  have HQ := Lib.hid hq
  rw [hq] at hl ⊢
  have HL : Hid (gs.length ≤ 9223372036854775807) := Lib.hid (by omega)
  obtain ⟨N, hN⟩ : ∃ N, w.heap.size = N := ⟨_, rfl⟩
  obtain ⟨Wa, hWa⟩ : ∃ W', W' = w.alloc (.cells #[.slice A q c, .slice B m d, .int .i64 p0, .int .i64 p1, .int .i64 p2, .int .i64 p3, .int .i64 p4, .int .i64 p5, .int .i64 p6, .int .i64 p7, .int .i64 p8, .int .i64 p9, .int .i64 p10, .int .i64 p11, .int .i64 p12, .int .i64 p13, .int .i64 p14, .int .i64 p15, .int .i64 p16, .int .i64 p17, .int .i64 p18, .int .i64 p19] 27) := ⟨_, rfl⟩
  obtain ⟨W1, hW1⟩ : ∃ W', W' = Wa.alloc (.cells #[.string ⟨#[]⟩, .int .i64 0, .int .i64 0, .int .i64 0, .int .i64 0, .int .i64 0] 31) := ⟨_, rfl⟩
  have sa : Wa.heap.size = N + 1 := by rw [hWa]; exact size_new hN _
  have ba : Below w.heap.size w Wa := by rw [hWa]; exact below_new _ _
  have bb : Below Wa.heap.size Wa W1 := by rw [hW1]; exact below_new _ _
  have hB1 := below_self ba bb
  have HR : Hid (W1.rangeAt N 0 [.slice A q c, .slice B m d, .int .i64 p0, .int .i64 p1, .int .i64 p2, .int .i64 p3, .int .i64 p4, .int .i64 p5, .int .i64 p6, .int .i64 p7, .int .i64 p8, .int .i64 p9, .int .i64 p10, .int .i64 p11, .int .i64 p12, .int .i64 p13, .int .i64 p14, .int .i64 p15, .int .i64 p16, .int .i64 p17, .int .i64 p18, .int .i64 p19]) := Lib.hid (range_below (by rw [hWa]; exact range_new hN _ _) bb)
  have d0 : W1.cell? ⟨N + 1, 0, none⟩ = some (.string ⟨#[]⟩) := by rw [hW1]; exact new_cell sa _ _ 0 rfl
  have d1 : W1.cell? ⟨N + 1, 1, none⟩ = some (.int .i64 0) := by rw [hW1]; exact new_cell sa _ _ 1 rfl
  have d2 : W1.cell? ⟨N + 1, 2, none⟩ = some (.int .i64 0) := by rw [hW1]; exact new_cell sa _ _ 2 rfl
  have d3 : W1.cell? ⟨N + 1, 3, none⟩ = some (.int .i64 0) := by rw [hW1]; exact new_cell sa _ _ 3 rfl
  have d4 : W1.cell? ⟨N + 1, 4, none⟩ = some (.int .i64 0) := by rw [hW1]; exact new_cell sa _ _ 4 rfl
  have d5 : W1.cell? ⟨N + 1, 5, none⟩ = some (.int .i64 0) := by rw [hW1]; exact new_cell sa _ _ 5 rfl
  have FZ : Hid (∀ j, W1.frozen? ⟨N + 1, j, none⟩ = false) := Lib.hid fun j => by rw [hW1]; exact new_frozen sa _ _ j
  have HN1 : Hid (N + 1 < W1.heap.size) := Lib.hid (by rw [hW1, size_new sa]; omega)
  have HW : Hid (W1 = (w.alloc (.cells #[.slice A q c, .slice B m d, .int .i64 p0, .int .i64 p1, .int .i64 p2, .int .i64 p3, .int .i64 p4, .int .i64 p5, .int .i64 p6, .int .i64 p7, .int .i64 p8, .int .i64 p9, .int .i64 p10, .int .i64 p11, .int .i64 p12, .int .i64 p13, .int .i64 p14, .int .i64 p15, .int .i64 p16, .int .i64 p17, .int .i64 p18, .int .i64 p19] 27)).alloc (.cells #[.string ⟨#[]⟩, .int .i64 0, .int .i64 0, .int .i64 0, .int .i64 0, .int .i64 0] 31)) := Lib.hid (by rw [hW1, hWa])
  have HB := Lib.hid hB1
  have HGA := Lib.hid (hg.below hB1)
  clear ba bb hB1 sa hWa hW1 hg hq
  go_enter Try.func19, Try.ntmps19
  go_upto_region 1 with fail
  rw [← HW.out]
  go_wp2_with (first | (refine wpList_load_mid rfl 27 (.tmp 2) rfl N 0 rfl [.slice A q c, .slice B m d, .int .i64 p0, .int .i64 p1, .int .i64 p2, .int .i64 p3, .int .i64 p4, .int .i64 p5, .int .i64 p6, .int .i64 p7, .int .i64 p8, .int .i64 p9, .int .i64 p10, .int .i64 p11, .int .i64 p12, .int .i64 p13, .int .i64 p14, .int .i64 p15, .int .i64 p16, .int .i64 p17, .int .i64 p18, .int .i64 p19] _ HR.out Try.underlying27 rfl (by kernel_rfl) ?_) | fail)
  refine (rfind_let (g := zeroG) HQ.out.symm HGA.out HL.out (.inr ⟨rfl, rfl, hf⟩)).mono ?_
  rintro e w2 ⟨rfl, hb⟩
  have hbn := below_new w2 (.cells #[.string zeroG.name, .int .i64 zeroG.W, .int .i64 zeroG.H, .int .i64 zeroG.D, .int .i64 zeroG.I, .int .i64 zeroG.A] 31)
  have hbx := below_self hb hbn
  replace HR := Lib.hid (range_below HR.out hbx)
  replace d0 := keep_cell hbx d0
  replace d1 := keep_cell hbx d1
  replace d2 := keep_cell hbx d2
  replace d3 := keep_cell hbx d3
  replace d4 := keep_cell hbx d4
  replace d5 := keep_cell hbx d5
  have FZ2 : Hid (∀ j, (w2.alloc (.cells #[.string zeroG.name, .int .i64 zeroG.W, .int .i64 zeroG.H, .int .i64 zeroG.D, .int .i64 zeroG.I, .int .i64 zeroG.A] 31)).frozen? ⟨N + 1, j, none⟩ = false) := Lib.hid fun j => (hbx.frozen (p := ⟨N + 1, j, none⟩) HN1.out).trans (FZ.out j)
  have HN2 : Hid (N + 1 < (w2.alloc (.cells #[.string zeroG.name, .int .i64 zeroG.W, .int .i64 zeroG.H, .int .i64 zeroG.D, .int .i64 zeroG.I, .int .i64 zeroG.A] 31)).heap.size) := Lib.hid (Nat.lt_of_lt_of_le HN1.out hbx.size)
  replace HB := Lib.hid (below_self HB.out hbx)
  replace HGA := Lib.hid (HGA.out.below hbx)
  clear hb hbn hbx FZ HN1
  have FZ := FZ2
  have HN1 := HN2
  clear FZ2 HN2
  go_wp2_with (first | (refine wpList_load_mid rfl 27 (.tmp 2) rfl N 0 rfl [.slice A q c, .slice B m d, .int .i64 p0, .int .i64 p1, .int .i64 p2, .int .i64 p3, .int .i64 p4, .int .i64 p5, .int .i64 p6, .int .i64 p7, .int .i64 p8, .int .i64 p9, .int .i64 p10, .int .i64 p11, .int .i64 p12, .int .i64 p13, .int .i64 p14, .int .i64 p15, .int .i64 p16, .int .i64 p17, .int .i64 p18, .int .i64 p19] _ HR.out Try.underlying27 rfl (by kernel_rfl) ?_) | fail)
  refine (rfind_let (g := g) HQ.out.symm HGA.out HL.out (.inl ⟨rfl, hf2⟩)).mono ?_
  rintro e w4 ⟨rfl, hb⟩
  have hbn := below_new w4 (.cells #[.string g.name, .int .i64 g.W, .int .i64 g.H, .int .i64 g.D, .int .i64 g.I, .int .i64 g.A] 31)
  have hbx := below_self hb hbn
  replace d0 := keep_cell hbx d0
  replace d1 := keep_cell hbx d1
  replace d2 := keep_cell hbx d2
  replace d3 := keep_cell hbx d3
  replace d4 := keep_cell hbx d4
  replace d5 := keep_cell hbx d5
  have f0 := (hbx.frozen (p := ⟨N + 1, 0, none⟩) HN1.out).trans (FZ.out 0)
  have f1 := (hbx.frozen (p := ⟨N + 1, 1, none⟩) HN1.out).trans (FZ.out 1)
  have f2 := (hbx.frozen (p := ⟨N + 1, 2, none⟩) HN1.out).trans (FZ.out 2)
  have f3 := (hbx.frozen (p := ⟨N + 1, 3, none⟩) HN1.out).trans (FZ.out 3)
  have f4 := (hbx.frozen (p := ⟨N + 1, 4, none⟩) HN1.out).trans (FZ.out 4)
  have f5 := (hbx.frozen (p := ⟨N + 1, 5, none⟩) HN1.out).trans (FZ.out 5)
  replace HB := Lib.hid (below_self HB.out hbx)
  clear hb hbn hbx HR
  go_wp2_with fail
  obtain ⟨W4, hW4⟩ : ∃ W4, W4 = (((((((w4.alloc (.cells #[.string g.name, .int .i64 g.W, .int .i64 g.H, .int .i64 g.D, .int .i64 g.I, .int .i64 g.A] 31)).setCell ⟨N + 1, 0, none⟩ (.string g.name)).setCell ⟨N + 1, 1, none⟩ (.int .i64 g.W)).setCell ⟨N + 1, 2, none⟩ (.int .i64 g.H)).setCell ⟨N + 1, 3, none⟩ (.int .i64 g.D)).setCell ⟨N + 1, 4, none⟩ (.int .i64 g.I)).setCell ⟨N + 1, 5, none⟩ (.int .i64 g.A)) := ⟨_, rfl⟩
  rw [← hW4]
  obtain ⟨k0, k1, k2, k3, k4, k5⟩ := set6_cells d0 d1 d2 d3 d4 d5 _ _ _ _ _ _ hW4
  have hB4 : Below w.heap.size w W4 := by rw [hW4]; exact below_set6 HB.out (by omega) _ _ _ _ _ _
  clear hW4
  exact bodyPost_ret (v := .agg #[.string g.name, .int .i64 g.W, .int .i64 g.H, .int .i64 g.D, .int .i64 g.I, .int .i64 g.A]) (by simp [results, Try.results19, go_sem, k0, k1, k2, k3, k4, k5]) rfl ⟨rfl, hN ▸ hB4⟩
set_option maxRecDepth 100000 in
set_option maxHeartbeats 4000000 in
theorem rpick_c {w : World} {A B : Option Addr} {c m d : Nat} {p0 p1 p2 p3 p4 p5 p6 p7 p8 p9 p10 p11 p12 p13 p14 p15 p16 p17 p18 p19 : Int} {gs : List Gl} {nm : ByteArray} (hf : findG gs nm = none) (hf2 : findG gs ⟨#[63]⟩ = none) (hg : GlsAt w w.heap.size A gs) (hl : gs.length ≤ 9223372036854775807) :
    Calls Try.prog 19 #[.agg #[.slice A gs.length c, .slice B m d, .int .i64 p0, .int .i64 p1, .int .i64 p2, .int .i64 p3, .int .i64 p4, .int .i64 p5, .int .i64 p6, .int .i64 p7, .int .i64 p8, .int .i64 p9, .int .i64 p10, .int .i64 p11, .int .i64 p12, .int .i64 p13, .int .i64 p14, .int .i64 p15, .int .i64 p16, .int .i64 p17, .int .i64 p18, .int .i64 p19], .string nm] w fun e w' => e = .returned (.agg #[.string nm, .int .i64 0, .int .i64 0, .int .i64 0, .int .i64 0, .int .i64 0]) ∧ Below w.heap.size w w' := by
  obtain ⟨q, hq⟩ : ∃ q, gs.length = q := ⟨_, rfl⟩
  have HQ := Lib.hid hq
  rw [hq] at hl ⊢
  have HL : Hid (gs.length ≤ 9223372036854775807) := Lib.hid (by omega)
  obtain ⟨N, hN⟩ : ∃ N, w.heap.size = N := ⟨_, rfl⟩
  obtain ⟨Wa, hWa⟩ : ∃ W', W' = w.alloc (.cells #[.slice A q c, .slice B m d, .int .i64 p0, .int .i64 p1, .int .i64 p2, .int .i64 p3, .int .i64 p4, .int .i64 p5, .int .i64 p6, .int .i64 p7, .int .i64 p8, .int .i64 p9, .int .i64 p10, .int .i64 p11, .int .i64 p12, .int .i64 p13, .int .i64 p14, .int .i64 p15, .int .i64 p16, .int .i64 p17, .int .i64 p18, .int .i64 p19] 27) := ⟨_, rfl⟩
  obtain ⟨W1, hW1⟩ : ∃ W', W' = Wa.alloc (.cells #[.string ⟨#[]⟩, .int .i64 0, .int .i64 0, .int .i64 0, .int .i64 0, .int .i64 0] 31) := ⟨_, rfl⟩
  have sa : Wa.heap.size = N + 1 := by rw [hWa]; exact size_new hN _
  have ba : Below w.heap.size w Wa := by rw [hWa]; exact below_new _ _
  have bb : Below Wa.heap.size Wa W1 := by rw [hW1]; exact below_new _ _
  have hB1 := below_self ba bb
  have HR : Hid (W1.rangeAt N 0 [.slice A q c, .slice B m d, .int .i64 p0, .int .i64 p1, .int .i64 p2, .int .i64 p3, .int .i64 p4, .int .i64 p5, .int .i64 p6, .int .i64 p7, .int .i64 p8, .int .i64 p9, .int .i64 p10, .int .i64 p11, .int .i64 p12, .int .i64 p13, .int .i64 p14, .int .i64 p15, .int .i64 p16, .int .i64 p17, .int .i64 p18, .int .i64 p19]) := Lib.hid (range_below (by rw [hWa]; exact range_new hN _ _) bb)
  have d0 : W1.cell? ⟨N + 1, 0, none⟩ = some (.string ⟨#[]⟩) := by rw [hW1]; exact new_cell sa _ _ 0 rfl
  have d1 : W1.cell? ⟨N + 1, 1, none⟩ = some (.int .i64 0) := by rw [hW1]; exact new_cell sa _ _ 1 rfl
  have d2 : W1.cell? ⟨N + 1, 2, none⟩ = some (.int .i64 0) := by rw [hW1]; exact new_cell sa _ _ 2 rfl
  have d3 : W1.cell? ⟨N + 1, 3, none⟩ = some (.int .i64 0) := by rw [hW1]; exact new_cell sa _ _ 3 rfl
  have d4 : W1.cell? ⟨N + 1, 4, none⟩ = some (.int .i64 0) := by rw [hW1]; exact new_cell sa _ _ 4 rfl
  have d5 : W1.cell? ⟨N + 1, 5, none⟩ = some (.int .i64 0) := by rw [hW1]; exact new_cell sa _ _ 5 rfl
  have FZ : Hid (∀ j, W1.frozen? ⟨N + 1, j, none⟩ = false) := Lib.hid fun j => by rw [hW1]; exact new_frozen sa _ _ j
  have HN1 : Hid (N + 1 < W1.heap.size) := Lib.hid (by rw [hW1, size_new sa]; omega)
  have HW : Hid (W1 = (w.alloc (.cells #[.slice A q c, .slice B m d, .int .i64 p0, .int .i64 p1, .int .i64 p2, .int .i64 p3, .int .i64 p4, .int .i64 p5, .int .i64 p6, .int .i64 p7, .int .i64 p8, .int .i64 p9, .int .i64 p10, .int .i64 p11, .int .i64 p12, .int .i64 p13, .int .i64 p14, .int .i64 p15, .int .i64 p16, .int .i64 p17, .int .i64 p18, .int .i64 p19] 27)).alloc (.cells #[.string ⟨#[]⟩, .int .i64 0, .int .i64 0, .int .i64 0, .int .i64 0, .int .i64 0] 31)) := Lib.hid (by rw [hW1, hWa])
  have HB := Lib.hid hB1
  have HGA := Lib.hid (hg.below hB1)
  clear ba bb hB1 sa hWa hW1 hg hq
  go_enter Try.func19, Try.ntmps19
  go_upto_region 1 with fail
  rw [← HW.out]
  go_wp2_with (first | (refine wpList_load_mid rfl 27 (.tmp 2) rfl N 0 rfl [.slice A q c, .slice B m d, .int .i64 p0, .int .i64 p1, .int .i64 p2, .int .i64 p3, .int .i64 p4, .int .i64 p5, .int .i64 p6, .int .i64 p7, .int .i64 p8, .int .i64 p9, .int .i64 p10, .int .i64 p11, .int .i64 p12, .int .i64 p13, .int .i64 p14, .int .i64 p15, .int .i64 p16, .int .i64 p17, .int .i64 p18, .int .i64 p19] _ HR.out Try.underlying27 rfl (by kernel_rfl) ?_) | fail)
  refine (rfind_let (g := zeroG) HQ.out.symm HGA.out HL.out (.inr ⟨rfl, rfl, hf⟩)).mono ?_
  rintro e w2 ⟨rfl, hb⟩
  have hbn := below_new w2 (.cells #[.string zeroG.name, .int .i64 zeroG.W, .int .i64 zeroG.H, .int .i64 zeroG.D, .int .i64 zeroG.I, .int .i64 zeroG.A] 31)
  have hbx := below_self hb hbn
  replace HR := Lib.hid (range_below HR.out hbx)
  replace d0 := keep_cell hbx d0
  replace d1 := keep_cell hbx d1
  replace d2 := keep_cell hbx d2
  replace d3 := keep_cell hbx d3
  replace d4 := keep_cell hbx d4
  replace d5 := keep_cell hbx d5
  have FZ2 : Hid (∀ j, (w2.alloc (.cells #[.string zeroG.name, .int .i64 zeroG.W, .int .i64 zeroG.H, .int .i64 zeroG.D, .int .i64 zeroG.I, .int .i64 zeroG.A] 31)).frozen? ⟨N + 1, j, none⟩ = false) := Lib.hid fun j => (hbx.frozen (p := ⟨N + 1, j, none⟩) HN1.out).trans (FZ.out j)
  have HN2 : Hid (N + 1 < (w2.alloc (.cells #[.string zeroG.name, .int .i64 zeroG.W, .int .i64 zeroG.H, .int .i64 zeroG.D, .int .i64 zeroG.I, .int .i64 zeroG.A] 31)).heap.size) := Lib.hid (Nat.lt_of_lt_of_le HN1.out hbx.size)
  replace HB := Lib.hid (below_self HB.out hbx)
  replace HGA := Lib.hid (HGA.out.below hbx)
  clear hb hbn hbx FZ HN1
  have FZ := FZ2
  have HN1 := HN2
  clear FZ2 HN2
  go_wp2_with (first | (refine wpList_load_mid rfl 27 (.tmp 2) rfl N 0 rfl [.slice A q c, .slice B m d, .int .i64 p0, .int .i64 p1, .int .i64 p2, .int .i64 p3, .int .i64 p4, .int .i64 p5, .int .i64 p6, .int .i64 p7, .int .i64 p8, .int .i64 p9, .int .i64 p10, .int .i64 p11, .int .i64 p12, .int .i64 p13, .int .i64 p14, .int .i64 p15, .int .i64 p16, .int .i64 p17, .int .i64 p18, .int .i64 p19] _ HR.out Try.underlying27 rfl (by kernel_rfl) ?_) | fail)
  refine (rfind_let (g := zeroG) HQ.out.symm HGA.out HL.out (.inr ⟨rfl, rfl, hf2⟩)).mono ?_
  rintro e w4 ⟨rfl, hb⟩
  have hbn := below_new w4 (.cells #[.string zeroG.name, .int .i64 zeroG.W, .int .i64 zeroG.H, .int .i64 zeroG.D, .int .i64 zeroG.I, .int .i64 zeroG.A] 31)
  have hbx := below_self hb hbn
  replace d0 := keep_cell hbx d0
  replace d1 := keep_cell hbx d1
  replace d2 := keep_cell hbx d2
  replace d3 := keep_cell hbx d3
  replace d4 := keep_cell hbx d4
  replace d5 := keep_cell hbx d5
  have f0 := (hbx.frozen (p := ⟨N + 1, 0, none⟩) HN1.out).trans (FZ.out 0)
  have f1 := (hbx.frozen (p := ⟨N + 1, 1, none⟩) HN1.out).trans (FZ.out 1)
  have f2 := (hbx.frozen (p := ⟨N + 1, 2, none⟩) HN1.out).trans (FZ.out 2)
  have f3 := (hbx.frozen (p := ⟨N + 1, 3, none⟩) HN1.out).trans (FZ.out 3)
  have f4 := (hbx.frozen (p := ⟨N + 1, 4, none⟩) HN1.out).trans (FZ.out 4)
  have f5 := (hbx.frozen (p := ⟨N + 1, 5, none⟩) HN1.out).trans (FZ.out 5)
  replace HB := Lib.hid (below_self HB.out hbx)
  clear hb hbn hbx HR
  go_wp2_with fail
  obtain ⟨W4, hW4⟩ : ∃ W4, W4 = (((((((w4.alloc (.cells #[.string zeroG.name, .int .i64 zeroG.W, .int .i64 zeroG.H, .int .i64 zeroG.D, .int .i64 zeroG.I, .int .i64 zeroG.A] 31)).setCell ⟨N + 1, 0, none⟩ (.string nm)).setCell ⟨N + 1, 1, none⟩ (.int .i64 0)).setCell ⟨N + 1, 2, none⟩ (.int .i64 0)).setCell ⟨N + 1, 3, none⟩ (.int .i64 0)).setCell ⟨N + 1, 4, none⟩ (.int .i64 0)).setCell ⟨N + 1, 5, none⟩ (.int .i64 0)) := ⟨_, rfl⟩
  rw [← hW4]
  obtain ⟨k0, k1, k2, k3, k4, k5⟩ := set6_cells d0 d1 d2 d3 d4 d5 _ _ _ _ _ _ hW4
  have hB4 : Below w.heap.size w W4 := by rw [hW4]; exact below_set6 HB.out (by omega) _ _ _ _ _ _
  clear hW4
  exact bodyPost_ret (v := .agg #[.string nm, .int .i64 0, .int .i64 0, .int .i64 0, .int .i64 0, .int .i64 0]) (by simp [results, Try.results19, go_sem, k0, k1, k2, k3, k4, k5]) rfl ⟨rfl, hN ▸ hB4⟩
/-- Pick of the reference -/
theorem rpick_any {w : World} {A B : Option Addr} {n c m d : Nat} {p0 p1 p2 p3 p4 p5 p6 p7 p8 p9 p10 p11 p12 p13 p14 p15 p16 p17 p18 p19 : Int} {gs : List Gl} {nm : ByteArray} (hn : n = gs.length) (hg : GlsAt w w.heap.size A gs) (hl : gs.length ≤ 9223372036854775807) :
    Calls Try.prog 19 #[.agg #[.slice A n c, .slice B m d, .int .i64 p0, .int .i64 p1, .int .i64 p2, .int .i64 p3, .int .i64 p4, .int .i64 p5, .int .i64 p6, .int .i64 p7, .int .i64 p8, .int .i64 p9, .int .i64 p10, .int .i64 p11, .int .i64 p12, .int .i64 p13, .int .i64 p14, .int .i64 p15, .int .i64 p16, .int .i64 p17, .int .i64 p18, .int .i64 p19], .string nm] w fun e w' => e = .returned (.agg #[.string (pick gs nm).name, .int .i64 (pick gs nm).W, .int .i64 (pick gs nm).H, .int .i64 (pick gs nm).D, .int .i64 (pick gs nm).I, .int .i64 (pick gs nm).A]) ∧ Below w.heap.size w w' := by
  subst hn
  cases hf : findG gs nm with
  | some g =>
    have e : pick gs nm = g := by unfold pick; rw [hf]
    rw [e]
    exact rpick_a hf hg hl
  | none =>
    cases hf2 : findG gs ⟨#[63]⟩ with
    | some g =>
      have e : pick gs nm = g := by unfold pick; rw [hf]; simp only []; rw [hf2]
      rw [e]
      exact rpick_b hf hf2 hg hl
    | none =>
      have e : pick gs nm = { zeroG with name := nm } := by unfold pick; rw [hf]; simp only []; rw [hf2]
      rw [e]
      exact rpick_c hf hf2 hg hl
end Go.Proofs.Ytjhpajdkklklhaa.Fon
