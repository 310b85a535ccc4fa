/- FontGrows: for every glyph and two percentages the law returns true and turns nothing that lay in memory. No condition. -/
import Derived.SevenTiedAt
import Derived.OpenShut
import Derived.Test.YtjhpajdkklklhaaFrame
import Derived.Test.YtjhpajdkklklhaaFntLaw
import Derived.Test.YtjhpajdkklklhaaFonOpen
import Derived.Deep.DeepCutAuto
import Derived.Test.YtjhpajdkklklhaaHeld2
namespace Go.Proofs.Ytjhpajdkklklhaa.fontGrows
open Go Go.RowKit Go.WideShapes Go.ChangeShapes By Fon

theorem u16_bds {a : Int} (h : (Lit.int .u16 a).wf = true) : 0 ≤ a ∧ a ≤ 65535 := by unfold Lit.wf at h; simp [IntKind.min, IntKind.max, IntKind.bits, IntKind.signed] at h; omega
theorem scl_grows {n p q : Int} (h0 : -20000 ≤ n) (h1 : n ≤ 20000) (hp : 1 ≤ p) (hpq : p ≤ q) (hq : q ≤ 1000) : (0 < scl n p → scl n p ≤ scl n q) ∧ (scl n p < 0 → scl n q ≤ scl n p) := by
  have mono : ∀ m : Int, 0 ≤ m → (2 * m * p + 100) / 200 ≤ (2 * m * q + 100) / 200 := fun m hm => by
    have : 2 * m * p ≤ 2 * m * q := Int.mul_le_mul_of_nonneg_left hpq (by omega)
    exact Int.ediv_le_ediv (by decide) (by omega)
  have pos : ∀ m r : Int, 0 ≤ m → 1 ≤ r → 0 ≤ (2 * m * r + 100) / 200 := fun m r hm hr => by
    have : 0 ≤ 2 * m * r := Int.mul_nonneg (by omega) (by omega)
    omega
  by_cases hn : n < 0
  · rw [scl_neg hn, scl_neg hn, scl_pos (by omega), scl_pos (by omega)]
    have h2 := mono (-n) (by omega)
    have h3 := pos (-n) p (by omega) hp
    omega
  · rw [scl_pos (by omega), scl_pos (by omega)]
    have h2 := mono n (by omega)
    have h3 := pos n p (by omega) hp
    omega
theorem wi {r : Int} (h1 : 1 ≤ r) (h2 : r ≤ 1000) : within r 1 1000 = true := by unfold within; simp [h1, h2]
theorem scl_100 {n : Int} : scl n 100 = n := by
  by_cases hn : n < 0
  · rw [scl_neg hn, scl_pos (by omega)]; omega
  · rw [scl_pos (by omega)]; omega
set_option maxRecDepth 100000 in
set_option maxHeartbeats 8000000 in
theorem walk (g : Gl) (p q : Int) (w : World) (hp : 0 ≤ p ∧ p ≤ 65535) (hq : 0 ≤ q ∧ q ≤ 65535) :
    Calls Try.prog 7 #[.agg #[.string g.name, .int .i64 g.W, .int .i64 g.H, .int .i64 g.D, .int .i64 g.I, .int .i64 g.A], .int .u16 p, .int .u16 q] w fun e w' => e = .returned (.bool true) ∧ Below w.heap.size w w' := by
  obtain ⟨N, hN⟩ : ∃ N, w.heap.size = N := ⟨_, rfl⟩
  obtain ⟨W1, hW1⟩ : ∃ W', w.alloc (.cells #[.string g.name, .int .i64 g.W, .int .i64 g.H, .int .i64 g.D, .int .i64 g.I, .int .i64 g.A] 31) = W' := ⟨_, rfl⟩
  have hB1 : Below w.heap.size w W1 := by rw [← hW1]; exact below_new _ _
  have hs : Six W1 N (.string g.name) (.int .i64 g.W) (.int .i64 g.H) (.int .i64 g.D) (.int .i64 g.I) (.int .i64 g.A) := by rw [← hW1]; exact six_new hN _ _ _ _ _ _ _
  have HW := Lib.hid hW1
  have HB1 := Lib.hid hB1
  have HS := Lib.hid hs
  obtain ⟨hp1, hp2⟩ := hp
  obtain ⟨hq1, hq2⟩ := hq
  obtain ⟨lo, hlo⟩ : ∃ l, 1 + min (min p q % 1000) (max p q % 1000) = l := ⟨_, rfl⟩
  obtain ⟨hi, hhi⟩ : ∃ l, 1 + max (min p q % 1000) (max p q % 1000) = l := ⟨_, rfl⟩
  have HLO : Hid (1 ≤ lo ∧ lo ≤ hi ∧ hi ≤ 1000) := Lib.hid (by omega)
  have HL1 := Lib.hid hlo
  have HL2 := Lib.hid hhi
  clear hW1 hB1 hs hlo hhi
  cases hm : metB g with
  | false =>
    have HSC : Hid (∀ r w, 1 ≤ r → r ≤ 1000 → Calls Try.prog 21 #[.agg #[.string g.name, .int .i64 g.W, .int .i64 g.H, .int .i64 g.D, .int .i64 g.I, .int .i64 g.A], .int .i64 r] w fun e w' => e = .returned (.tuple #[.agg #[.string zeroG.name, .int .i64 zeroG.W, .int .i64 zeroG.H, .int .i64 zeroG.D, .int .i64 zeroG.I, .int .i64 zeroG.A], .int .i64 1]) ∧ Below w.heap.size w w') := Lib.hid fun r w h1 h2 => scaled_arg g r w (wi h1 h2) hm
    clear hm
    go_enter Try.func7, Try.ntmps7
    go_upto_region 5 with (first
      | (go_at_call 10; rw [HW.out]; refine (awake_any _).mono ?_; rintro e w2 ⟨rfl, hb2⟩
         have HB := Lib.hid hb2
         obtain ⟨⟨a0, a1, a2, a3, a4, a5⟩, _⟩ := HS.out.below hb2
         replace HS := Lib.hid (HS.out.below hb2)
         clear hb2)
      | fail)
    rw [HL1.out, HL2.out]
    clear hp1 hp2 hq1 hq2
    go_wp2_with (first
      | (go_at_call 21; first
          | (with_reducible refine (HSC.out lo _ HLO.out.1 (by have := HLO.out; omega)).mono ?_)
          | (with_reducible refine (HSC.out hi _ (by have := HLO.out; omega) HLO.out.2.2).mono ?_)
          | (with_reducible refine (HSC.out 100 _ (by omega) (by omega)).mono ?_)
          | fail
         rintro e w4 ⟨rfl, hb4⟩
         have hbn := below_self hb4 (below_new w4 (.cells #[.string zeroG.name, .int .i64 zeroG.W, .int .i64 zeroG.H, .int .i64 zeroG.D, .int .i64 zeroG.I, .int .i64 zeroG.A] 31))
         obtain ⟨⟨a0, a1, a2, a3, a4, a5⟩, _⟩ := HS.out.below hbn
         replace HS := Lib.hid (HS.out.below hbn)
         replace HB := Lib.hid (below_self HB.out hbn)
         clear hb4 hbn)
      | fail)
    go_ret
    exact ⟨rfl, hN ▸ below_self HB1.out HB.out⟩
  | true =>
    obtain ⟨⟨W0, W2⟩, ⟨H0, H2⟩, ⟨D0, D2⟩, ⟨I0, I2⟩, ⟨A0, A2⟩⟩ := (met_iff g).1 hm
    have hlo := HLO.out
    obtain ⟨x, hx⟩ : ∃ x, sclG g lo = x := ⟨_, rfl⟩
    obtain ⟨y, hy⟩ : ∃ y, sclG g hi = y := ⟨_, rfl⟩
    have HSX : Hid (∀ w, Calls Try.prog 21 #[.agg #[.string g.name, .int .i64 g.W, .int .i64 g.H, .int .i64 g.D, .int .i64 g.I, .int .i64 g.A], .int .i64 lo] w fun e w' => e = .returned (.tuple #[.agg #[.string x.name, .int .i64 x.W, .int .i64 x.H, .int .i64 x.D, .int .i64 x.I, .int .i64 x.A], .int .i64 0]) ∧ Below w.heap.size w w') := Lib.hid fun w => hx ▸ scaled_good g lo w (wi (by omega) (by omega)) hm
    have HSY : Hid (∀ w, Calls Try.prog 21 #[.agg #[.string g.name, .int .i64 g.W, .int .i64 g.H, .int .i64 g.D, .int .i64 g.I, .int .i64 g.A], .int .i64 hi] w fun e w' => e = .returned (.tuple #[.agg #[.string y.name, .int .i64 y.W, .int .i64 y.H, .int .i64 y.D, .int .i64 y.I, .int .i64 y.A], .int .i64 0]) ∧ Below w.heap.size w w') := Lib.hid fun w => hy ▸ scaled_good g hi w (wi (by omega) (by omega)) hm
    have h100 : sclG g 100 = g := by unfold sclG; simp only [scl_100]
    have HSZ : Hid (∀ w, Calls Try.prog 21 #[.agg #[.string g.name, .int .i64 g.W, .int .i64 g.H, .int .i64 g.D, .int .i64 g.I, .int .i64 g.A], .int .i64 100] w fun e w' => e = .returned (.tuple #[.agg #[.string g.name, .int .i64 g.W, .int .i64 g.H, .int .i64 g.D, .int .i64 g.I, .int .i64 g.A], .int .i64 0]) ∧ Below w.heap.size w w') := Lib.hid fun w => by
      have h := scaled_good g 100 w (wi (by omega) (by omega)) hm
      rw [h100] at h
      exact h
    have HGR : Hid (∀ k (h : k < (mets x).length) (h' : k < (mets y).length), (0 < (mets x)[k] → (mets x)[k] ≤ (mets y)[k]) ∧ ((mets x)[k] < 0 → (mets y)[k] ≤ (mets x)[k])) := Lib.hid fun k hk _ => by
      subst hx hy
      have hk5 : k < 5 := hk
      have : k = 0 ∨ k = 1 ∨ k = 2 ∨ k = 3 ∨ k = 4 := by omega
      rcases this with rfl | rfl | rfl | rfl | rfl
      · exact scl_grows W0 W2 hlo.1 hlo.2.1 hlo.2.2
      · exact scl_grows H0 H2 hlo.1 hlo.2.1 hlo.2.2
      · exact scl_grows D0 D2 hlo.1 hlo.2.1 hlo.2.2
      · exact scl_grows I0 I2 hlo.1 hlo.2.1 hlo.2.2
      · exact scl_grows A0 A2 hlo.1 hlo.2.1 hlo.2.2
    clear hm hx hy h100 hlo W0 W2 H0 H2 D0 D2 I0 I2 A0 A2
    go_enter Try.func7, Try.ntmps7
    go_upto_region 5 with (first
      | (go_at_call 10; rw [HW.out]; refine (awake_any _).mono ?_; rintro e w2 ⟨rfl, hb2⟩
         have HB := Lib.hid hb2
         obtain ⟨⟨a0, a1, a2, a3, a4, a5⟩, _⟩ := HS.out.below hb2
         replace HS := Lib.hid (HS.out.below hb2)
         clear hb2)
      | fail)
    rw [HL1.out, HL2.out]
    clear hp1 hp2 hq1 hq2
    go_upto_region 10 with (first
      | (go_at_call 21; with_reducible refine (HSX.out _).mono ?_
         rintro e w4 ⟨rfl, hb4⟩
         have hbn := below_self hb4 (below_new w4 (.cells #[.string x.name, .int .i64 x.W, .int .i64 x.H, .int .i64 x.D, .int .i64 x.I, .int .i64 x.A] 31))
         have H1 := Lib.hid (six_new (w := w4) rfl (.string x.name) (.int .i64 x.W) (.int .i64 x.H) (.int .i64 x.D) (.int .i64 x.I) (.int .i64 x.A) 31)
         clear a0 a1 a2 a3 a4 a5
         obtain ⟨⟨a0, a1, a2, a3, a4, a5⟩, _⟩ := HS.out.below hbn
         replace HS := Lib.hid (HS.out.below hbn)
         replace HB := Lib.hid (below_self HB.out hbn)
         clear hb4 hbn)
      | (go_at_call 21; with_reducible refine (HSY.out _).mono ?_
         rintro e w5 ⟨rfl, hb5⟩
         have hbn := below_self hb5 (below_new w5 (.cells #[.string y.name, .int .i64 y.W, .int .i64 y.H, .int .i64 y.D, .int .i64 y.I, .int .i64 y.A] 31))
         have H2 := Lib.hid (six_new (w := w5) rfl (.string y.name) (.int .i64 y.W) (.int .i64 y.H) (.int .i64 y.D) (.int .i64 y.I) (.int .i64 y.A) 31)
         replace H1 := Lib.hid (H1.out.below hbn)
         clear a0 a1 a2 a3 a4 a5
         obtain ⟨⟨a0, a1, a2, a3, a4, a5⟩, _⟩ := HS.out.below hbn
         replace HS := Lib.hid (HS.out.below hbn)
         replace HB := Lib.hid (below_self HB.out hbn)
         clear hb5 hbn)
      | (go_at_call 21; with_reducible refine (HSZ.out _).mono ?_
         rintro e w6 ⟨rfl, hb6⟩
         have hbn := below_self hb6 (below_new w6 (.cells #[.string g.name, .int .i64 g.W, .int .i64 g.H, .int .i64 g.D, .int .i64 g.I, .int .i64 g.A] 31))
         have H3 := Lib.hid (six_new (w := w6) rfl (.string g.name) (.int .i64 g.W) (.int .i64 g.H) (.int .i64 g.D) (.int .i64 g.I) (.int .i64 g.A) 31)
         replace H1 := Lib.hid (H1.out.below hbn)
         replace H2 := Lib.hid (H2.out.below hbn)
         have H0 := Lib.hid (HS.out.below hbn)
         replace HB := Lib.hid (below_self HB.out hbn)
         clear hb6 hbn a0 a1 a2 a3 a4 a5)
      | fail)
    obtain ⟨w9, hw9⟩ : ∃ w9, w6.alloc (.cells #[.string g.name, .int .i64 g.W, .int .i64 g.H, .int .i64 g.D, .int .i64 g.I, .int .i64 g.A] 31) = w9 := ⟨_, rfl⟩
    rw [hw9] at H0 H1 H2 H3 HB
    rw [hw9]
    obtain ⟨⟨a0, a1, a2, a3, a4, a5⟩, _⟩ := H1.out
    obtain ⟨⟨b0, b1, b2, b3, b4, b5⟩, _⟩ := H2.out
    clear hw9
    have mk : ∀ W', Below w9.heap.size w9 W' → (fun w' => w'.cell? ⟨w4.heap.size, 0, none⟩ = some (.string x.name) ∧ w'.cell? ⟨w4.heap.size, 1, none⟩ = some (.int .i64 x.W) ∧ w'.cell? ⟨w4.heap.size, 2, none⟩ = some (.int .i64 x.H) ∧ w'.cell? ⟨w4.heap.size, 3, none⟩ = some (.int .i64 x.D) ∧ w'.cell? ⟨w4.heap.size, 4, none⟩ = some (.int .i64 x.I) ∧ w'.cell? ⟨w4.heap.size, 5, none⟩ = some (.int .i64 x.A) ∧ w'.cell? ⟨w5.heap.size, 0, none⟩ = some (.string y.name) ∧ w'.cell? ⟨w5.heap.size, 1, none⟩ = some (.int .i64 y.W) ∧ w'.cell? ⟨w5.heap.size, 2, none⟩ = some (.int .i64 y.H) ∧ w'.cell? ⟨w5.heap.size, 3, none⟩ = some (.int .i64 y.D) ∧ w'.cell? ⟨w5.heap.size, 4, none⟩ = some (.int .i64 y.I) ∧ w'.cell? ⟨w5.heap.size, 5, none⟩ = some (.int .i64 y.A) ∧ Below w9.heap.size w9 w') W' := fun W' h => ⟨keep_cell h a0, keep_cell h a1, keep_cell h a2, keep_cell h a3, keep_cell h a4, keep_cell h a5, keep_cell h b0, keep_cell h b1, keep_cell h b2, keep_cell h b3, keep_cell h b4, keep_cell h b5, h⟩
    have MK := Lib.hid mk
    clear mk a0 a1 a2 a3 a4 a5 b0 b1 b2 b3 b4 b5
    have HQ := Lib.hid (below_drew w9)
    refine wp_region_held_drew (S := fun w' => w'.cell? ⟨w4.heap.size, 0, none⟩ = some (.string x.name) ∧ w'.cell? ⟨w4.heap.size, 1, none⟩ = some (.int .i64 x.W) ∧ w'.cell? ⟨w4.heap.size, 2, none⟩ = some (.int .i64 x.H) ∧ w'.cell? ⟨w4.heap.size, 3, none⟩ = some (.int .i64 x.D) ∧ w'.cell? ⟨w4.heap.size, 4, none⟩ = some (.int .i64 x.I) ∧ w'.cell? ⟨w4.heap.size, 5, none⟩ = some (.int .i64 x.A) ∧ w'.cell? ⟨w5.heap.size, 0, none⟩ = some (.string y.name) ∧ w'.cell? ⟨w5.heap.size, 1, none⟩ = some (.int .i64 y.W) ∧ w'.cell? ⟨w5.heap.size, 2, none⟩ = some (.int .i64 y.H) ∧ w'.cell? ⟨w5.heap.size, 3, none⟩ = some (.int .i64 y.D) ∧ w'.cell? ⟨w5.heap.size, 4, none⟩ = some (.int .i64 y.I) ∧ w'.cell? ⟨w5.heap.size, 5, none⟩ = some (.int .i64 y.A) ∧ Below w9.heap.size w9 w') (by kernel_rfl) (MK.out _ (below_drew _)) (fun hHeld => ?_)
    refine wpAnyH_take (i := 0) (v := ?_) rfl (by kernel_rfl) (by kernel_rfl) (by kernel_rfl) (fun _ _ _ h => h) (Or.inl ⟨by rfl, ?_⟩) hHeld ?_
    rotate_left
    · intro w hSw; (try dsimp only at hSw); go_simp; try with_reducible rfl
    simp only [Act.put]; (try simp only [List.setIfInBounds_toArray, List.set_cons_zero, List.set_cons_succ, List.getElem_toArray, List.getElem_cons_zero, List.getElem_cons_succ])
    refine wpAnyH_take (i := 1) (v := ?_) rfl (by kernel_rfl) (by kernel_rfl) (by kernel_rfl) (fun _ _ _ h => h) (Or.inl ⟨by rfl, ?_⟩) hHeld ?_
    rotate_left
    · intro w hSw; (try dsimp only at hSw); go_simp; try with_reducible rfl
    simp only [Act.put]; (try simp only [List.setIfInBounds_toArray, List.set_cons_zero, List.set_cons_succ, List.getElem_toArray, List.getElem_cons_zero, List.getElem_cons_succ])
    refine wpAnyH_take (i := 2) (v := ?_) rfl (by kernel_rfl) (by kernel_rfl) (by kernel_rfl) (fun _ _ _ h => h) (Or.inl ⟨by rfl, ?_⟩) hHeld ?_
    rotate_left
    · intro w hSw; (try dsimp only at hSw); go_simp; try with_reducible rfl
    simp only [Act.put]; (try simp only [List.setIfInBounds_toArray, List.set_cons_zero, List.set_cons_succ, List.getElem_toArray, List.getElem_cons_zero, List.getElem_cons_succ])
    refine wpAnyH_take (i := 3) (v := ?_) rfl (by kernel_rfl) (by kernel_rfl) (by kernel_rfl) (fun _ _ _ h => h) (Or.inl ⟨by rfl, ?_⟩) hHeld ?_
    rotate_left
    · intro w hSw; (try dsimp only at hSw); go_simp; try with_reducible rfl
    simp only [Act.put]; (try simp only [List.setIfInBounds_toArray, List.set_cons_zero, List.set_cons_succ, List.getElem_toArray, List.getElem_cons_zero, List.getElem_cons_succ])
    refine wpAnyH_take (i := 4) (v := ?_) rfl (by kernel_rfl) (by kernel_rfl) (by kernel_rfl) (fun _ _ _ h => h) (Or.inl ⟨by rfl, ?_⟩) hHeld ?_
    rotate_left
    · intro w hSw; (try dsimp only at hSw); go_simp; try with_reducible rfl
    simp only [Act.put]; (try simp only [List.setIfInBounds_toArray, List.set_cons_zero, List.set_cons_succ, List.getElem_toArray, List.getElem_cons_zero, List.getElem_cons_succ])
    refine wpAnyH_take (i := 5) (v := ?_) rfl (by kernel_rfl) (by kernel_rfl) (by kernel_rfl) (fun _ _ _ h => h) (Or.inl ⟨by rfl, ?_⟩) hHeld ?_
    rotate_left
    · intro w hSw; (try dsimp only at hSw); go_simp; try with_reducible rfl
    simp only [Act.put]; (try simp only [List.setIfInBounds_toArray, List.set_cons_zero, List.set_cons_succ, List.getElem_toArray, List.getElem_cons_zero, List.getElem_cons_succ])
    refine wpAnyH_take (i := 6) (v := ?_) rfl (by kernel_rfl) (by kernel_rfl) (by kernel_rfl) (fun _ _ _ h => h) (Or.inl ⟨by rfl, ?_⟩) hHeld ?_
    rotate_left
    · intro w hSw; (try dsimp only at hSw); go_simp; try with_reducible rfl
    simp only [Act.put]; (try simp only [List.setIfInBounds_toArray, List.set_cons_zero, List.set_cons_succ, List.getElem_toArray, List.getElem_cons_zero, List.getElem_cons_succ])
    refine wpAnyH_take (i := 7) (v := ?_) rfl (by kernel_rfl) (by kernel_rfl) (by kernel_rfl) (fun _ _ _ h => h) (Or.inl ⟨by rfl, ?_⟩) hHeld ?_
    rotate_left
    · intro w hSw; (try dsimp only at hSw); go_simp; try with_reducible rfl
    simp only [Act.put]; (try simp only [List.setIfInBounds_toArray, List.set_cons_zero, List.set_cons_succ, List.getElem_toArray, List.getElem_cons_zero, List.getElem_cons_succ])
    refine wpAnyH_take (i := 8) (v := ?_) rfl (by kernel_rfl) (by kernel_rfl) (by kernel_rfl) (fun _ _ _ h => h) (Or.inl ⟨by rfl, ?_⟩) hHeld ?_
    rotate_left
    · intro w hSw; (try dsimp only at hSw); go_simp; try with_reducible rfl
    simp only [Act.put]; (try simp only [List.setIfInBounds_toArray, List.set_cons_zero, List.set_cons_succ, List.getElem_toArray, List.getElem_cons_zero, List.getElem_cons_succ])
    refine wpAnyH_take (i := 9) (v := ?_) rfl (by kernel_rfl) (by kernel_rfl) (by kernel_rfl) (fun _ _ _ h => h) (Or.inl ⟨by rfl, ?_⟩) hHeld ?_
    rotate_left
    · intro w hSw; (try dsimp only at hSw); go_simp; try with_reducible rfl
    simp only [Act.put]; (try simp only [List.setIfInBounds_toArray, List.set_cons_zero, List.set_cons_succ, List.getElem_toArray, List.getElem_cons_zero, List.getElem_cons_succ])
    refine wpAnyH_take (i := 11) (v := ?_) rfl (by kernel_rfl) (by kernel_rfl) (by kernel_rfl) (fun _ _ _ h => h) (Or.inl ⟨by rfl, ?_⟩) hHeld ?_
    rotate_left
    · intro w hSw; (try dsimp only at hSw); go_simp; try with_reducible rfl
    simp only [Act.put]; (try simp only [List.setIfInBounds_toArray, List.set_cons_zero, List.set_cons_succ, List.getElem_toArray, List.getElem_cons_zero, List.getElem_cons_succ])
    refine wpAnyH_take (i := 12) (v := ?_) rfl (by kernel_rfl) (by kernel_rfl) (by kernel_rfl) (fun _ _ _ h => h) (Or.inl ⟨by rfl, ?_⟩) hHeld ?_
    rotate_left
    · intro w hSw; (try dsimp only at hSw); go_simp; try with_reducible rfl
    simp only [Act.put]; (try simp only [List.setIfInBounds_toArray, List.set_cons_zero, List.set_cons_succ, List.getElem_toArray, List.getElem_cons_zero, List.getElem_cons_succ])
    refine wpAnyH_take (i := 13) (v := ?_) rfl (by kernel_rfl) (by kernel_rfl) (by kernel_rfl) (fun _ _ _ h => h) (Or.inl ⟨by rfl, ?_⟩) hHeld ?_
    rotate_left
    · intro w hSw; (try dsimp only at hSw); go_simp; try with_reducible rfl
    simp only [Act.put]; (try simp only [List.setIfInBounds_toArray, List.set_cons_zero, List.set_cons_succ, List.getElem_toArray, List.getElem_cons_zero, List.getElem_cons_succ])
    refine wpAnyH_take (i := 14) (v := ?_) rfl (by kernel_rfl) (by kernel_rfl) (by kernel_rfl) (fun _ _ _ h => h) (Or.inl ⟨by rfl, ?_⟩) hHeld ?_
    rotate_left
    · intro w hSw; (try dsimp only at hSw); go_simp; try with_reducible rfl
    simp only [Act.put]; (try simp only [List.setIfInBounds_toArray, List.set_cons_zero, List.set_cons_succ, List.getElem_toArray, List.getElem_cons_zero, List.getElem_cons_succ])
    refine wpAnyH_take (i := 15) (v := ?_) rfl (by kernel_rfl) (by kernel_rfl) (by kernel_rfl) (fun _ _ _ h => h) (Or.inl ⟨by rfl, ?_⟩) hHeld ?_
    rotate_left
    · intro w hSw; (try dsimp only at hSw); go_simp; try with_reducible rfl
    simp only [Act.put]; (try simp only [List.setIfInBounds_toArray, List.set_cons_zero, List.set_cons_succ, List.getElem_toArray, List.getElem_cons_zero, List.getElem_cons_succ])
    refine wpAnyH_take (i := 16) (v := ?_) rfl (by kernel_rfl) (by kernel_rfl) (by kernel_rfl) (fun _ _ _ h => h) (Or.inl ⟨by rfl, ?_⟩) hHeld ?_
    rotate_left
    · intro w hSw; (try dsimp only at hSw); go_simp; try with_reducible rfl
    simp only [Act.put]; (try simp only [List.setIfInBounds_toArray, List.set_cons_zero, List.set_cons_succ, List.getElem_toArray, List.getElem_cons_zero, List.getElem_cons_succ])
    refine wpAnyH_take (i := 17) (v := ?_) rfl (by kernel_rfl) (by kernel_rfl) (by kernel_rfl) (fun _ _ _ h => h) (Or.inl ⟨by rfl, ?_⟩) hHeld ?_
    rotate_left
    · intro w hSw; (try dsimp only at hSw); go_simp; try with_reducible rfl
    simp only [Act.put]; (try simp only [List.setIfInBounds_toArray, List.set_cons_zero, List.set_cons_succ, List.getElem_toArray, List.getElem_cons_zero, List.getElem_cons_succ])
    refine wpAnyH_take (i := 18) (v := ?_) rfl (by kernel_rfl) (by kernel_rfl) (by kernel_rfl) (fun _ _ _ h => h) (Or.inl ⟨by rfl, ?_⟩) hHeld ?_
    rotate_left
    · intro w hSw; (try dsimp only at hSw); go_simp; try with_reducible rfl
    simp only [Act.put]; (try simp only [List.setIfInBounds_toArray, List.set_cons_zero, List.set_cons_succ, List.getElem_toArray, List.getElem_cons_zero, List.getElem_cons_succ])
    refine wpAnyH_take (i := 19) (v := ?_) rfl (by kernel_rfl) (by kernel_rfl) (by kernel_rfl) (fun _ _ _ h => h) (Or.inl ⟨by rfl, ?_⟩) hHeld ?_
    rotate_left
    · intro w hSw; (try dsimp only at hSw); go_simp; try with_reducible rfl
    simp only [Act.put]; (try simp only [List.setIfInBounds_toArray, List.set_cons_zero, List.set_cons_succ, List.getElem_toArray, List.getElem_cons_zero, List.getElem_cons_succ])
    refine wpAnyH_take (i := 20) (v := ?_) rfl (by kernel_rfl) (by kernel_rfl) (by kernel_rfl) (fun _ _ _ h => h) (Or.inl ⟨by rfl, ?_⟩) hHeld ?_
    rotate_left
    · intro w hSw; (try dsimp only at hSw); go_simp; try with_reducible rfl
    simp only [Act.put]; (try simp only [List.setIfInBounds_toArray, List.set_cons_zero, List.set_cons_succ, List.getElem_toArray, List.getElem_cons_zero, List.getElem_cons_succ])
    clear hHeld
    obtain ⟨w8, hw8⟩ : ∃ w8, w8 = w9.drew := ⟨_, rfl⟩
    rw [← hw8]
    rw [← hw8] at HQ
    clear hw8
    refine wpAnyH_two (a1 := ?_) (a2 := ?_) 10 21 (fun w' => w' = w8.alloc (.cells #[.int .i64 x.W, .int .i64 x.H, .int .i64 x.D, .int .i64 x.I, .int .i64 x.A] 3)) (fun w' => w' = w8.alloc (.cells #[.int .i64 y.W, .int .i64 y.H, .int .i64 y.D, .int .i64 y.I, .int .i64 y.A] 3)) (by kernel_rfl) rfl rfl (by rfl) (by rfl) (fun K hK => ?_) (fun K hK => ?_) (fun w10 hR => ⟨?_, ?_⟩) (fun w10 hR => ⟨?_, ?_⟩)
    rotate_left
    rotate_left
    · go_simp
      exact hK _ rfl
    · go_simp
      exact hK _ rfl
    · subst hR
      exact MK.out _ (below_self HQ.out (below_new _ _))
    · subst hR
      have hHeld := MK.out _ (below_self HQ.out (below_new w8 (.cells #[.int .i64 x.W, .int .i64 x.H, .int .i64 x.D, .int .i64 x.I, .int .i64 x.A] 3)))
      refine wpAnyH_take (i := 22) (v := ?_) rfl (by kernel_rfl) (by kernel_rfl) (by kernel_rfl) (fun _ _ _ h => h) (Or.inl ⟨by rfl, ?_⟩) hHeld ?_
      rotate_left
      · intro w hSw; (try dsimp only at hSw); go_simp; try with_reducible rfl
      simp only [Act.put]; (try simp only [List.setIfInBounds_toArray, List.set_cons_zero, List.set_cons_succ, List.getElem_toArray, List.getElem_cons_zero, List.getElem_cons_succ])
      clear hHeld
      refine wpAnyH_one (a' := ?_) 21 (fun w' => w' = (w8.alloc (.cells #[.int .i64 x.W, .int .i64 x.H, .int .i64 x.D, .int .i64 x.I, .int .i64 x.A] 3)).alloc (.cells #[.int .i64 y.W, .int .i64 y.H, .int .i64 y.D, .int .i64 y.I, .int .i64 y.A] 3)) (by kernel_rfl) rfl (by rfl) (fun K hK => ?_) (fun w11 hR => ⟨?_, ?_⟩)
      rotate_left
      · go_simp
        exact hK _ rfl
      · subst hR
        exact MK.out _ (below_self (below_self HQ.out (below_new _ _)) (below_new _ _))
      subst hR
      have hHeld := MK.out _ (below_self (below_self HQ.out (below_new w8 (.cells #[.int .i64 x.W, .int .i64 x.H, .int .i64 x.D, .int .i64 x.I, .int .i64 x.A] 3))) (below_new _ (.cells #[.int .i64 y.W, .int .i64 y.H, .int .i64 y.D, .int .i64 y.I, .int .i64 y.A] 3)))
      refine wpAnyH_take (i := 23) (v := ?_) rfl (by kernel_rfl) (by kernel_rfl) (by kernel_rfl) (fun _ _ _ h => h) (Or.inl ⟨by rfl, ?_⟩) hHeld ?_
      rotate_left
      · intro w hSw; (try dsimp only at hSw); go_simp; try with_reducible rfl
      simp only [Act.put]; (try simp only [List.setIfInBounds_toArray, List.set_cons_zero, List.set_cons_succ, List.getElem_toArray, List.getElem_cons_zero, List.getElem_cons_succ])
      (try simp only [Act.put]; (try simp only [List.setIfInBounds_toArray, List.set_cons_zero, List.set_cons_succ, List.getElem_toArray, List.getElem_cons_zero, List.getElem_cons_succ]))
      refine wpAnyH_done (by kernel_rfl) ?_ _
      obtain ⟨X, hX⟩ : ∃ X, w8.heap.size = X := ⟨_, rfl⟩
      have h1 : ∀ k (h : k < (mets x).length), ((w8.alloc (.cells #[.int .i64 x.W, .int .i64 x.H, .int .i64 x.D, .int .i64 x.I, .int .i64 x.A] 3)).alloc (.cells #[.int .i64 y.W, .int .i64 y.H, .int .i64 y.D, .int .i64 y.I, .int .i64 y.A] 3)).cell? ⟨X, k, none⟩ = some (.int .i64 (mets x)[k]) := fun k h => keep_cell (below_new _ _) (ints_new hX (mets x) 3 k h)
      have h2 : ∀ k (h : k < (mets y).length), ((w8.alloc (.cells #[.int .i64 x.W, .int .i64 x.H, .int .i64 x.D, .int .i64 x.I, .int .i64 x.A] 3)).alloc (.cells #[.int .i64 y.W, .int .i64 y.H, .int .i64 y.D, .int .i64 y.I, .int .i64 y.A] 3)).cell? ⟨X + 1, k, none⟩ = some (.int .i64 (mets y)[k]) := fun k h => ints_new (size_new hX _) (mets y) 3 k h
      have hq9 := below_self (below_self HQ.out (below_new w8 (.cells #[.int .i64 x.W, .int .i64 x.H, .int .i64 x.D, .int .i64 x.I, .int .i64 x.A] 3))) (below_new _ (.cells #[.int .i64 y.W, .int .i64 y.H, .int .i64 y.D, .int .i64 y.I, .int .i64 y.A] 3))
      rw [hX]
      obtain ⟨Y, hY⟩ : ∃ Y, X + 1 = Y := ⟨_, rfl⟩
      rw [hY] at h2
      rw [hY]
      have hx := h1
      have hy := h2
      obtain ⟨wz, hwz⟩ : ∃ wz, wz = (w8.alloc (.cells #[.int .i64 x.W, .int .i64 x.H, .int .i64 x.D, .int .i64 x.I, .int .i64 x.A] 3)).alloc (.cells #[.int .i64 y.W, .int .i64 y.H, .int .i64 y.D, .int .i64 y.I, .int .i64 y.A] 3) := ⟨_, rfl⟩
      rw [← hwz] at hx hy hq9 ⊢
      clear hwz hX hY h1 h2
      have HX := Lib.hid hx
      have HY := Lib.hid hy
      have HBZ := Lib.hid (below_self HB.out hq9)
      replace H0 := Lib.hid (H0.out.below hq9)
      replace H3 := Lib.hid (H3.out.below hq9)
      clear hx hy hq9
      go_wp2_with fail
      go_loopw [17] (fun i wr => ∃ k : Nat, k ≤ 5 ∧ i = .int .i64 k ∧ Hid (Below wz.heap.size wz wr)) (fun i _ => 5 - (intOf i).toNat)
      case atStart => exact ⟨0, by omega, rfl, Lib.hid (Below.refl _ _)⟩
      case round =>
        obtain ⟨k, hk, rfl, HBR⟩ := hrel
        by_cases hlt : k < 5
        · have hlx : k < (mets x).length := hlt
          have hly : k < (mets y).length := hlt
          have cx := keep_cell HBR.out (HX.out k hlx)
          have cy := keep_cell HBR.out (HY.out k hly)
          obtain ⟨u, hu⟩ : ∃ u, (mets x)[k]'hlx = u := ⟨_, rfl⟩
          obtain ⟨v, hv⟩ : ∃ v, (mets y)[k]'hly = v := ⟨_, rfl⟩
          have hg : (0 < u → u ≤ v) ∧ (u < 0 → v ≤ u) := by rw [← hu, ← hv]; exact HGR.out k hlx hly
          rw [hu] at cx
          rw [hv] at cy
          have HG := Lib.hid hg
          clear hu hv hg hlx hly
          by_cases hp : 0 < u
          · have hv : ¬ v < u := by have := HG.out.1 hp; omega
            have hn : ¬ u < 0 := by omega
            have e1 := decide_eq_true hp
            have e2 := decide_eq_false hn
            have e3 := decide_eq_false hv
            go_wp2_with fail
            go_quiet (fail)
            go_wp2
            go_roundw
            case rel => exact ⟨k + 1, by omega, by go_num, Lib.hid (below_self HBR.out (below_drewN _ _))⟩
            case measure => simp [intOf]; omega
          · by_cases hn : u < 0
            · have hv : ¬ u < v := by have := HG.out.2 hn; omega
              have e1 := decide_eq_false hp
              have e2 := decide_eq_true hn
              have e3 := decide_eq_false hv
              go_wp2_with fail
              go_quiet (fail)
              go_wp2
              go_roundw
              case rel => exact ⟨k + 1, by omega, by go_num, Lib.hid (below_self HBR.out (below_drewN _ _))⟩
              case measure => simp [intOf]; omega
            · have e1 := decide_eq_false hp
              have e2 := decide_eq_false hn
              go_wp2_with fail
              go_quiet (fail)
              go_wp2
              go_roundw
              case rel => exact ⟨k + 1, by omega, by go_num, Lib.hid (below_self HBR.out (below_drewN _ _))⟩
              case measure => simp [intOf]; omega
        · obtain ⟨⟨g0, g1, g2, g3, g4, g5⟩, _⟩ := H0.out.below HBR.out
          obtain ⟨⟨z0, z1, z2, z3, z4, z5⟩, _⟩ := H3.out.below HBR.out
          go_wp2_with fail
          go_ret
          exact ⟨rfl, hN ▸ below_self HB1.out (below_self HBZ.out HBR.out)⟩

    · subst hR
      exact MK.out _ (below_self HQ.out (below_new _ _))
    · subst hR
      refine wpAnyH_one (a' := ?_) 10 (fun w' => w' = (w8.alloc (.cells #[.int .i64 y.W, .int .i64 y.H, .int .i64 y.D, .int .i64 y.I, .int .i64 y.A] 3)).alloc (.cells #[.int .i64 x.W, .int .i64 x.H, .int .i64 x.D, .int .i64 x.I, .int .i64 x.A] 3)) (by kernel_rfl) rfl (by rfl) (fun K hK => ?_) (fun w11 hR => ⟨?_, ?_⟩)
      rotate_left
      · go_simp
        exact hK _ rfl
      · subst hR
        exact MK.out _ (below_self (below_self HQ.out (below_new _ _)) (below_new _ _))
      subst hR
      have hHeld := MK.out _ (below_self (below_self HQ.out (below_new w8 (.cells #[.int .i64 y.W, .int .i64 y.H, .int .i64 y.D, .int .i64 y.I, .int .i64 y.A] 3))) (below_new _ (.cells #[.int .i64 x.W, .int .i64 x.H, .int .i64 x.D, .int .i64 x.I, .int .i64 x.A] 3)))
      refine wpAnyH_take (i := 22) (v := ?_) rfl (by kernel_rfl) (by kernel_rfl) (by kernel_rfl) (fun _ _ _ h => h) (Or.inl ⟨by rfl, ?_⟩) hHeld ?_
      rotate_left
      · intro w hSw; (try dsimp only at hSw); go_simp; try with_reducible rfl
      simp only [Act.put]; (try simp only [List.setIfInBounds_toArray, List.set_cons_zero, List.set_cons_succ, List.getElem_toArray, List.getElem_cons_zero, List.getElem_cons_succ])
      refine wpAnyH_take (i := 23) (v := ?_) rfl (by kernel_rfl) (by kernel_rfl) (by kernel_rfl) (fun _ _ _ h => h) (Or.inl ⟨by rfl, ?_⟩) hHeld ?_
      rotate_left
      · intro w hSw; (try dsimp only at hSw); go_simp; try with_reducible rfl
      simp only [Act.put]; (try simp only [List.setIfInBounds_toArray, List.set_cons_zero, List.set_cons_succ, List.getElem_toArray, List.getElem_cons_zero, List.getElem_cons_succ])
      (try simp only [Act.put]; (try simp only [List.setIfInBounds_toArray, List.set_cons_zero, List.set_cons_succ, List.getElem_toArray, List.getElem_cons_zero, List.getElem_cons_succ]))
      refine wpAnyH_done (by kernel_rfl) ?_ _
      obtain ⟨Y, hY⟩ : ∃ Y, w8.heap.size = Y := ⟨_, rfl⟩
      have h1 : ∀ k (h : k < (mets y).length), ((w8.alloc (.cells #[.int .i64 y.W, .int .i64 y.H, .int .i64 y.D, .int .i64 y.I, .int .i64 y.A] 3)).alloc (.cells #[.int .i64 x.W, .int .i64 x.H, .int .i64 x.D, .int .i64 x.I, .int .i64 x.A] 3)).cell? ⟨Y, k, none⟩ = some (.int .i64 (mets y)[k]) := fun k h => keep_cell (below_new _ _) (ints_new hY (mets y) 3 k h)
      have h2 : ∀ k (h : k < (mets x).length), ((w8.alloc (.cells #[.int .i64 y.W, .int .i64 y.H, .int .i64 y.D, .int .i64 y.I, .int .i64 y.A] 3)).alloc (.cells #[.int .i64 x.W, .int .i64 x.H, .int .i64 x.D, .int .i64 x.I, .int .i64 x.A] 3)).cell? ⟨Y + 1, k, none⟩ = some (.int .i64 (mets x)[k]) := fun k h => ints_new (size_new hY _) (mets x) 3 k h
      have hq9 := below_self (below_self HQ.out (below_new w8 (.cells #[.int .i64 y.W, .int .i64 y.H, .int .i64 y.D, .int .i64 y.I, .int .i64 y.A] 3))) (below_new _ (.cells #[.int .i64 x.W, .int .i64 x.H, .int .i64 x.D, .int .i64 x.I, .int .i64 x.A] 3))
      rw [hY]
      obtain ⟨X, hX⟩ : ∃ X, Y + 1 = X := ⟨_, rfl⟩
      rw [hX] at h2
      rw [hX]
      have hx := h2
      have hy := h1
      obtain ⟨wz, hwz⟩ : ∃ wz, wz = (w8.alloc (.cells #[.int .i64 y.W, .int .i64 y.H, .int .i64 y.D, .int .i64 y.I, .int .i64 y.A] 3)).alloc (.cells #[.int .i64 x.W, .int .i64 x.H, .int .i64 x.D, .int .i64 x.I, .int .i64 x.A] 3) := ⟨_, rfl⟩
      rw [← hwz] at hx hy hq9 ⊢
      clear hwz hY hX h1 h2
      have HX := Lib.hid hx
      have HY := Lib.hid hy
      have HBZ := Lib.hid (below_self HB.out hq9)
      replace H0 := Lib.hid (H0.out.below hq9)
      replace H3 := Lib.hid (H3.out.below hq9)
      clear hx hy hq9
      go_wp2_with fail
      go_loopw [17] (fun i wr => ∃ k : Nat, k ≤ 5 ∧ i = .int .i64 k ∧ Hid (Below wz.heap.size wz wr)) (fun i _ => 5 - (intOf i).toNat)
      case atStart => exact ⟨0, by omega, rfl, Lib.hid (Below.refl _ _)⟩
      case round =>
        obtain ⟨k, hk, rfl, HBR⟩ := hrel
        by_cases hlt : k < 5
        · have hlx : k < (mets x).length := hlt
          have hly : k < (mets y).length := hlt
          have cx := keep_cell HBR.out (HX.out k hlx)
          have cy := keep_cell HBR.out (HY.out k hly)
          obtain ⟨u, hu⟩ : ∃ u, (mets x)[k]'hlx = u := ⟨_, rfl⟩
          obtain ⟨v, hv⟩ : ∃ v, (mets y)[k]'hly = v := ⟨_, rfl⟩
          have hg : (0 < u → u ≤ v) ∧ (u < 0 → v ≤ u) := by rw [← hu, ← hv]; exact HGR.out k hlx hly
          rw [hu] at cx
          rw [hv] at cy
          have HG := Lib.hid hg
          clear hu hv hg hlx hly
          by_cases hp : 0 < u
          · have hv : ¬ v < u := by have := HG.out.1 hp; omega
            have hn : ¬ u < 0 := by omega
            have e1 := decide_eq_true hp
            have e2 := decide_eq_false hn
            have e3 := decide_eq_false hv
            go_wp2_with fail
            go_quiet (fail)
            go_wp2
            go_roundw
            case rel => exact ⟨k + 1, by omega, by go_num, Lib.hid (below_self HBR.out (below_drewN _ _))⟩
            case measure => simp [intOf]; omega
          · by_cases hn : u < 0
            · have hv : ¬ u < v := by have := HG.out.2 hn; omega
              have e1 := decide_eq_false hp
              have e2 := decide_eq_true hn
              have e3 := decide_eq_false hv
              go_wp2_with fail
              go_quiet (fail)
              go_wp2
              go_roundw
              case rel => exact ⟨k + 1, by omega, by go_num, Lib.hid (below_self HBR.out (below_drewN _ _))⟩
              case measure => simp [intOf]; omega
            · have e1 := decide_eq_false hp
              have e2 := decide_eq_false hn
              go_wp2_with fail
              go_quiet (fail)
              go_wp2
              go_roundw
              case rel => exact ⟨k + 1, by omega, by go_num, Lib.hid (below_self HBR.out (below_drewN _ _))⟩
              case measure => simp [intOf]; omega
        · obtain ⟨⟨g0, g1, g2, g3, g4, g5⟩, _⟩ := H0.out.below HBR.out
          obtain ⟨⟨z0, z1, z2, z3, z4, z5⟩, _⟩ := H3.out.below HBR.out
          go_wp2_with fail
          go_ret
          exact ⟨rfl, hN ▸ below_self HB1.out (below_self HBZ.out HBR.out)⟩

theorem readable : ∀ t ∈ Try.f7.params.toList, Try.prog.readableRec t = true ∧ t < Try.prog.types.size := Frame.readable_of (by kernel_rfl)

set_option maxRecDepth 100000 in
theorem contract (H : Type) (enc : TypeId × Value → H) (W : World) (base : Nat) (args : Array Value) (ds gs : List (DataW H)) (before : List MemPlace)
    (hval : ∀ (j : Nat) t v, Try.f7.params[j]? = some t → args[j]? = some v → Value.okWide Try.prog W .any base t v)
    (hW : DataW.Whole enc Try.prog Try.f7.params.toList Rows.fontGrowsSpec.vars false W args.toList ds gs before) (hT : True) :
    Calls Try.prog 7 args W fun e W' => ∃ v, e = .returned v ∧ Rows.fontGrowsSpec.post enc Try.prog Try.f7 false true false false W args v W' := by
  have hW' := hW
  obtain ⟨p, q, hA0, hV, rfl, hfz, hnd⟩ := hW
  have hA : DataW.TrodAll enc Try.prog W 0 (fun _ => true) true Try.f7.params.toList args.toList ds p := hA0
  rw [Try.params7] at hA hval
  obtain ⟨v0, vs0, d0, ds0, p0, q0, hargs, rfl, rfl, h0, r0⟩ := trodAll_cons hA
  obtain ⟨v1, vs1, d1, ds1, p1, q1, rfl, rfl, rfl, h1, r1⟩ := trodAll_cons r0
  obtain ⟨v2, vs2, d2, ds2, p2, q2, rfl, rfl, rfl, h2, r2⟩ := trodAll_cons r1
  obtain ⟨rfl, rfl, rfl⟩ := trodAll_nil r2
  obtain rfl : args = #[v0, v1, v2] := by cases args; simp_all
  obtain ⟨g0, rfl, wg0⟩ := Fon.open_glyph (hval 0 31 v0 rfl rfl) h0
  obtain ⟨a1, rfl, rfl, rfl, w1⟩ := open_int Try.underlying56 (hval 1 56 v1 rfl rfl) h1
  obtain ⟨a2, rfl, rfl, rfl, w2⟩ := open_int Try.underlying56 (hval 2 56 v2 rfl rfl) h2
  refine (walk g0 a1 a2 W (u16_bds w1) (u16_bds w2)).mono fun e W' ⟨he, hb⟩ => ⟨_, he, Frame.post_law Frame.laidOut readable (by kernel_rfl) Try.underlying4 hW' rfl rfl hb⟩

theorem laid_met (os : Os) : laidMetH Try.prog Rows.fontGrowsRow.laid ((World.laidAll Try.prog os Rows.fontGrowsRow.laid).forCall (fun _ _ => 0) ⟨#[], #[.agg #[.string ⟨#[]⟩, .int .i64 0, .int .i64 0, .int .i64 0, .int .i64 0, .int .i64 0], .int .u16 0, .int .u16 0], []⟩).memory := by
  rw [MakeChecks.laidMetH_plain _ _ _ (by kernel_rfl)]; exact laidMet_laidAll _ (by kernel_rfl) (by kernel_rfl)
theorem reads (os : Os) {H : Type} (enc : TypeId × Value → H) : ∃ places, DataW.whole enc Try.prog ((World.laidAll Try.prog os Rows.fontGrowsRow.laid).forCall (fun _ _ => 0) ⟨#[], #[.agg #[.string ⟨#[]⟩, .int .i64 0, .int .i64 0, .int .i64 0, .int .i64 0, .int .i64 0], .int .u16 0, .int .u16 0], []⟩).memory Try.f7.params.toList Rows.fontGrowsSpec.vars false (#[.agg #[.string ⟨#[]⟩, .int .i64 0, .int .i64 0, .int .i64 0, .int .i64 0, .int .i64 0], .int .u16 0, .int .u16 0] : Array Value).toList 8 = some ([.agg [.lit (.string []), .lit (.int .i64 0), .lit (.int .i64 0), .lit (.int .i64 0), .lit (.int .i64 0), .lit (.int .i64 0)], .lit (.int .u16 0), .lit (.int .u16 0)], [], places) :=
  ⟨[], by kernel_rfl⟩
set_option maxRecDepth 100000 in
theorem lifted (os : Os) (started : os.Started) (H : Type) (enc : TypeId × Value → H) (F : Stop.Interp) :
    ReturnsInHanded {} Try.checked os 7 .any ((OpenSpec.ofChange Rows.fontGrowsSpec).preRow enc Try.prog Try.f7 Rows.fontGrowsRow.domain false Rows.fontGrowsRow.laid) (((OpenSpec.ofChange Rows.fontGrowsSpec).at F).post enc Try.prog Try.f7 false true false false) := by
  obtain ⟨places, hx⟩ := reads os enc
  refine returnsInHanded_of_row (C := Try.checked) (s := OpenSpec.ofChange Rows.fontGrowsSpec) Frame.own started (by kernel_rfl) Try.func7
    (Frame.witness_row_shaped (enc := enc) (C := Try.checked) false (World.laidAll Try.prog os Rows.fontGrowsRow.laid) #[.agg #[.string ⟨#[]⟩, .int .i64 0, .int .i64 0, .int .i64 0, .int .i64 0, .int .i64 0], .int .u16 0, .int .u16 0] (World.laidAll_os _ _ _) (World.shaped_of_ZipB (by kernel_rfl) (by kernel_rfl)) (by kernel_rfl)
      (OpenSpec.preRow_of_cond 8 hx (by kernel_rfl) (fun k hk => by cases hk) (by kernel_rfl) (laid_met os))) ?_
  intro W base args ds gs before hval hW _ _ hsz hL hsh _
  rw [MakeChecks.laidMetH_plain _ _ _ (by kernel_rfl)] at hL
  exact contract H enc W base args ds gs before hval hW (trivial)

theorem said : Rows.FontGrowsSaid :=
  OpenClaim.holds_of_cond 7 Try.f7 rfl rfl rfl rfl rfl rfl rfl ⟨rfl, rfl, rfl, rfl, rfl⟩ rfl rfl rfl rfl rfl (by kernel_rfl) Try.func7 (by kernel_rfl)
    (of_decide_eq_true (by kernel_rfl)) (by unfold Func.isWrapper; first | (rw [if_pos (by decide +kernel)]; kernel_rfl) | (rw [if_neg (by decide +kernel)]; exact ⟨rfl, rfl⟩))
    (fun os started H enc _ F => by rw [OpenClaim.pre_eq_preRow]; exact lifted os started H enc F)

end Go.Proofs.Ytjhpajdkklklhaa.fontGrows
