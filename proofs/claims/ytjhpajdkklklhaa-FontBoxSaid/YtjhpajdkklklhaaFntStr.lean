/- The program's package font: Stretch. -/
import Derived.Test.YtjhpajdkklklhaaFntFind
import Derived.Test.YtjhpajdkklklhaaFntClone
import Derived.Test.YtjhpajdkklklhaaFonFindS
import Derived.Deep.DeepCutAuto
namespace Go.Proofs.Ytjhpajdkklklhaa.Fon
open Go Go.RowKit By

/-- the predicate of Stretch -/
theorem sname_any (g : St) (nm : ByteArray) (X : Nat) (C1 C2 : Option Addr) (e1 e2 : Nat) (w : World) (hx : w.cell? ⟨X, 0, none⟩ = some (.string nm)) :
    Calls Try.prog 37 #[.agg #[.string g.name, .slice C1 g.sizes.length e1, .slice C2 g.parts.length e2, .int .i64 g.ov], .pointer (some ⟨X, 0, none⟩)] w fun e w' => e = .returned (.bool (g.name.toList == nm.toList)) ∧ Below w.heap.size w w' := by
  obtain ⟨n0, sz, pa, ov⟩ := g
  simp only []
  have h1 := keep_cell (below_new w (.cells #[.string n0, .slice C1 sz.length e1, .slice C2 pa.length e2, .int .i64 ov] 37)) hx
  have hne : X ≠ w.heap.size := fun h => by have := World.block_lt_of_cell? _ _ hx; simp only [] at this; omega
  clear hx
  go_enter Try.func37, Try.ntmps37
  go_wp2
  go_ret
  exact ⟨ret_bool rfl, below_new _ _⟩
set_option maxRecDepth 100000 in
set_option maxHeartbeats 1000000 in
theorem idxst_any {A : Option Addr} {n c X : Nat} {gs : List St} {nm : ByteArray} (w : World) (hn : n = gs.length) (hl : gs.length ≤ 9223372036854775807) (hg : StsAt w w.heap.size A gs) (hx : w.cell? ⟨X, 0, none⟩ = some (.string nm)) :
    Calls Try.prog 36 #[.slice A n c, .func (.func 37) #[] #[.pointer (some ⟨X, 0, none⟩)]] w
      fun e w' => e = .returned (.int .i64 (idxOf (fun g => g.name.toList == nm.toList) gs)) ∧ Below w.heap.size w w' := by
  obtain ⟨R, hR⟩ : ∃ R, idxOf (fun g : St => g.name.toList == nm.toList) gs = R := ⟨_, rfl⟩
  have HR := Lib.hid hR
  rw [hR]
  have HN := Lib.hid hn
  have HG := Lib.hid hg
  have HX := Lib.hid hx
  have hn1 : (n : Int) ≤ 9223372036854775807 := by omega
  have H0 : Hid (∀ j (hj : j < gs.length), j < 0 → (gs[j].name.toList == nm.toList) = false) := Lib.hid fun j _ h => by omega
  have HB0 := Lib.hid (Below.refl w.heap.size w)
  clear hR hn hl hg hx
  go_enter Try.func36, Try.ntmps36
  go_wp2_with fail
  go_loopw [8] (fun i wr => ∃ k : Nat, k ≤ n ∧ i = .int .i64 k ∧ Hid (∀ j (hj : j < gs.length), j < k → (gs[j].name.toList == nm.toList) = false) ∧ Hid (Below w.heap.size w wr)) (fun i _ => n - (intOf i).toNat)
  case atStart => exact ⟨0, Nat.zero_le _, rfl, H0, HB0⟩
  case round =>
    obtain ⟨k, hk, rfl, HK, HBR⟩ := hrel
    by_cases hlt : k < n
    · have hkl : k < gs.length := by rw [← HN.out]; exact hlt
      obtain ⟨b, off, C1, e1, C2, e2, rfl, hb, x0, x1, x2, x3, hin⟩ := (HG.out.below HBR.out).at hkl
      obtain ⟨y, hy⟩ : ∃ y, gs[k] = y := ⟨_, rfl⟩
      rw [hy] at x0 x1 x2 x3
      have HC := sname_any y nm X C1 C2 e1 e2 wr (keep_cell HBR.out HX.out)
      cases hv : (y.name.toList == nm.toList) with
      | true =>
        rw [hv] at HC
        have HC2 := Lib.hid HC
        have HF : Hid (R = (k : Int)) := Lib.hid (HR.out ▸ idx_hit hkl (by rw [hy]; exact hv) HK.out)
        clear hy hv HC hb hin
        go_wp2_with (first | (go_at_call 37; refine HC2.out.mono ?_; rintro e w6 ⟨rfl, hb6⟩
                              have HB6 := Lib.hid (below_self HBR.out hb6)
                              clear hb6) | fail)
        go_ret
        exact ⟨ret_int HF.out.symm, HB6.out⟩
      | false =>
        rw [hv] at HC
        have HC2 := Lib.hid HC
        have HF : Hid (∀ j (hj : j < gs.length), j < k + 1 → (gs[j].name.toList == nm.toList) = false) := Lib.hid fun j hj h => by
          rcases Nat.lt_succ_iff_lt_or_eq.1 h with h' | rfl
          · exact HK.out j hj h'
          · rw [hy]; exact hv
        clear hy hv HC hb hin
        go_wp2_with (first | (go_at_call 37; refine HC2.out.mono ?_; rintro e w6 ⟨rfl, hb6⟩
                              have HB6 := Lib.hid (below_self HBR.out hb6)
                              clear hb6) | fail)
        go_roundw
        case rel => exact ⟨k + 1, by omega, by go_num, HF, HB6⟩
        case measure => simp [intOf]; omega
    · have HF : Hid (R = -1) := Lib.hid (HR.out ▸ idx_miss fun j hj => HK.out j hj (by have := HN.out; omega))
      go_wp2_with fail
      go_ret
      exact ⟨ret_int HF.out.symm, HBR.out⟩
def Four (W : World) (B : Nat) (v0 v1 v2 v3 : Value) : Prop :=
  (W.cell? ⟨B, 0, none⟩ = some v0 ∧ W.cell? ⟨B, 1, none⟩ = some v1 ∧ W.cell? ⟨B, 2, none⟩ = some v2 ∧ W.cell? ⟨B, 3, none⟩ = some v3) ∧
    (W.frozen? ⟨B, 0, none⟩ = false ∧ W.frozen? ⟨B, 1, none⟩ = false ∧ W.frozen? ⟨B, 2, none⟩ = false ∧ W.frozen? ⟨B, 3, none⟩ = false)
theorem four_new {w : World} {n : Nat} (hn : w.heap.size = n) (v0 v1 v2 v3 : Value) (ty : TypeId) : Four (w.alloc (.cells #[v0, v1, v2, v3] ty)) n v0 v1 v2 v3 :=
  ⟨⟨new_cell hn _ _ 0 rfl, new_cell hn _ _ 1 rfl, new_cell hn _ _ 2 rfl, new_cell hn _ _ 3 rfl⟩, new_frozen hn _ _ 0, new_frozen hn _ _ 1, new_frozen hn _ _ 2, new_frozen hn _ _ 3⟩
theorem Four.below {w w' : World} {B : Nat} {v0 v1 v2 v3 : Value} (h : Four w B v0 v1 v2 v3) (hb : Below w.heap.size w w') : Four w' B v0 v1 v2 v3 := by
  have hB := World.block_lt_of_cell? _ _ h.1.1
  have f : ∀ {o : Nat}, w.frozen? ⟨B, o, none⟩ = false → w'.frozen? ⟨B, o, none⟩ = false := fun {o} h => (hb.frozen (p := ⟨B, o, none⟩) hB).trans h
  obtain ⟨⟨h0, h1, h2, h3⟩, g0, g1, g2, g3⟩ := h
  exact ⟨⟨keep_cell hb h0, keep_cell hb h1, keep_cell hb h2, keep_cell hb h3⟩, f g0, f g1, f g2, f g3⟩
theorem Four.upto {w w' : World} {B M : Nat} {v0 v1 v2 v3 : Value} (h : Four w B v0 v1 v2 v3) (hb : Below M w w') (hM : B < M) : Four w' B v0 v1 v2 v3 := by
  have f : ∀ {o : Nat}, w.frozen? ⟨B, o, none⟩ = false → w'.frozen? ⟨B, o, none⟩ = false := fun {o} h => (hb.frozen (p := ⟨B, o, none⟩) hM).trans h
  have c : ∀ {o : Nat} {v : Value}, w.cell? ⟨B, o, none⟩ = some v → w'.cell? ⟨B, o, none⟩ = some v := fun {o} _ h => (hb.cell (p := ⟨B, o, none⟩) hM).trans h
  obtain ⟨⟨h0, h1, h2, h3⟩, g0, g1, g2, g3⟩ := h
  exact ⟨⟨c h0, c h1, c h2, c h3⟩, f g0, f g1, f g2, f g3⟩
theorem two_cells {w w' : World} {M : Nat} {y0 y1 y2 y3 : Value} (h0 : w.cell? ⟨M, 0, none⟩ = some y0) (h1 : w.cell? ⟨M, 1, none⟩ = some y1) (h2 : w.cell? ⟨M, 2, none⟩ = some y2) (h3 : w.cell? ⟨M, 3, none⟩ = some y3) (x1 x2 : Value)
    (hw : w' = (w.setCell ⟨M, 1, none⟩ x1).setCell ⟨M, 2, none⟩ x2) : w'.cell? ⟨M, 0, none⟩ = some y0 ∧ w'.cell? ⟨M, 1, none⟩ = some x1 ∧ w'.cell? ⟨M, 2, none⟩ = some x2 ∧ w'.cell? ⟨M, 3, none⟩ = some y3 := by
  have ne : ∀ {p q : Nat}, p ≠ q → (⟨M, p, none⟩ : Addr) ≠ ⟨M, q, none⟩ := fun h e => h (by injection e)
  have o : ∀ {u : World} {p q : Nat} {x y : Value}, p ≠ q → u.cell? ⟨M, q, none⟩ = some y → (u.setCell ⟨M, p, none⟩ x).cell? ⟨M, q, none⟩ = some y := fun h e => (World.cell?_setCell_other _ _ _ _ (ne h)).trans e
  have s : ∀ {u : World} {p : Nat} {x y : Value}, u.cell? ⟨M, p, none⟩ = some y → (u.setCell ⟨M, p, none⟩ x).cell? ⟨M, p, none⟩ = some x := fun e => World.cell?_setCell_same _ _ _ e
  subst hw
  exact ⟨o (by omega) (o (by omega) h0), o (by omega) (s h1), s (o (by omega) h2), o (by omega) (o (by omega) h3)⟩
set_option maxRecDepth 100000 in
set_option maxHeartbeats 2000000 in
theorem stretch_let {w : World} {A B : Option Addr} {n c m d : Nat} {p0 p1 p2 p3 p4 p5 p6 p7 p8 p9 p10 p11 p12 p13 p14 p15 p16 p17 p18 p19 : Int} {gs : List St} {nm : ByteArray} {g : St} {ok : Bool} (hm : m = gs.length) (hg : StsAt w w.heap.size B gs) (hl : gs.length ≤ 9223372036854775807)
    (hf : (ok = true ∧ findS gs nm = some g) ∨ (ok = false ∧ g = zeroS ∧ findS gs nm = none)) (hl1 : g.sizes.length ≤ 100) (hl2 : g.parts.length ≤ 100) :
    Calls Try.prog 16 #[.agg #[.slice A n c, .slice B m d, .int .i64 p0, .int .i64 p1, .int .i64 p2, .int .i64 p3, .int .i64 p4, .int .i64 p5, .int .i64 p6, .int .i64 p7, .int .i64 p8, .int .i64 p9, .int .i64 p10, .int .i64 p11, .int .i64 p12, .int .i64 p13, .int .i64 p14, .int .i64 p15, .int .i64 p16, .int .i64 p17, .int .i64 p18, .int .i64 p19], .string nm] w (StretchR w g ok) := by
  obtain ⟨N, hN⟩ : ∃ N, w.heap.size = N := ⟨_, rfl⟩
  obtain ⟨Wa, hWa⟩ : ∃ W', W' = w.alloc (.cells #[.slice A n c, .slice B m d, .int .i64 p0, .int .i64 p1, .int .i64 p2, .int .i64 p3, .int .i64 p4, .int .i64 p5, .int .i64 p6, .int .i64 p7, .int .i64 p8, .int .i64 p9, .int .i64 p10, .int .i64 p11, .int .i64 p12, .int .i64 p13, .int .i64 p14, .int .i64 p15, .int .i64 p16, .int .i64 p17, .int .i64 p18, .int .i64 p19] 27) := ⟨_, rfl⟩
  obtain ⟨Wb, hWb⟩ : ∃ W', W' = Wa.alloc (.cells #[.string nm] 9) := ⟨_, rfl⟩
  obtain ⟨W1, hW1⟩ : ∃ W', W' = Wb.alloc (.cells #[.string ⟨#[]⟩, .slice none 0 0, .slice none 0 0, .int .i64 0] 37) := ⟨_, rfl⟩
  have sa : Wa.heap.size = N + 1 := by rw [hWa]; exact size_new hN _
  have sb : Wb.heap.size = N + 2 := by rw [hWb]; exact size_new sa _
  have ba : Below w.heap.size w Wa := by rw [hWa]; exact below_new _ _
  have bb : Below Wa.heap.size Wa Wb := by rw [hWb]; exact below_new _ _
  have bc : Below Wb.heap.size Wb W1 := by rw [hW1]; exact below_new _ _
  have hB1 := below_self (below_self ba bb) bc
  have c0 := keep_cell (below_self bb bc) (show Wa.cell? ⟨N, 1, none⟩ = some (.slice B m d) by rw [hWa]; exact new_cell hN _ _ 1 rfl)
  have cn := keep_cell bc (show Wb.cell? ⟨N + 1, 0, none⟩ = some (.string nm) by rw [hWb]; exact new_cell sa _ _ 0 rfl)
  have h4 : Four W1 (N + 2) (.string ⟨#[]⟩) (.slice none 0 0) (.slice none 0 0) (.int .i64 0) := by rw [hW1]; exact four_new sb _ _ _ _ _
  have HC := Lib.hid (idxst_any (c := d) W1 hm hl (hg.below hB1) cn)
  have HG := Lib.hid (hg.below hB1)
  have HB := Lib.hid hB1
  have HS := Lib.hid h4
  have HF : Hid ((ok = true ∧ ∃ (k : Nat) (hk : k < gs.length), idxOf (fun g : St => g.name.toList == nm.toList) gs = (k : Int) ∧ g = gs[k]) ∨ (ok = false ∧ g = zeroS ∧ idxOf (fun g : St => g.name.toList == nm.toList) gs = -1)) := Lib.hid (by
    rcases hf with ⟨h1, h2⟩ | ⟨h1, h2, h3⟩
    · refine .inl ⟨h1, ?_⟩
      rcases find_idx (f := fun g : St => g.name.toList == nm.toList) (l := gs) with ⟨_, h4⟩ | ⟨k, hk, h4, h5⟩
      · unfold findS at h2; rw [h4] at h2; cases h2
      · unfold findS at h2; rw [h5] at h2; exact ⟨k, hk, h4, (Option.some.inj h2).symm⟩
    · refine .inr ⟨h1, h2, ?_⟩
      rcases find_idx (f := fun g : St => g.name.toList == nm.toList) (l := gs) with ⟨h4, _⟩ | ⟨k, hk, h4, h5⟩
      · exact h4
      · unfold findS at h3; rw [h5] at h3; cases h3)
  have HN := Lib.hid hm
  have HNN : Hid (w.heap.size ≤ N + 2 ∧ N + 2 < W1.heap.size) := Lib.hid ⟨by omega, by rw [hW1, size_new sb]; omega⟩
  have hn1 : (m : Int) ≤ 9223372036854775807 := by omega
  have HL1 := Lib.hid hl1
  have HL2 := Lib.hid hl2
  obtain ⟨R, hR⟩ : ∃ R, idxOf (fun g : St => g.name.toList == nm.toList) gs = R := ⟨_, rfl⟩
  rw [hR] at HC HF
  have HW : Hid (W1 = ((w.alloc (.cells #[.slice A n c, .slice B m d, .int .i64 p0, .int .i64 p1, .int .i64 p2, .int .i64 p3, .int .i64 p4, .int .i64 p5, .int .i64 p6, .int .i64 p7, .int .i64 p8, .int .i64 p9, .int .i64 p10, .int .i64 p11, .int .i64 p12, .int .i64 p13, .int .i64 p14, .int .i64 p15, .int .i64 p16, .int .i64 p17, .int .i64 p18, .int .i64 p19] 27)).alloc (.cells #[.string nm] 9)).alloc (.cells #[.string ⟨#[]⟩, .slice none 0 0, .slice none 0 0, .int .i64 0] 37)) := Lib.hid (by rw [hW1, hWb, hWa])
  clear sa sb ba bb bc hB1 h4 hWa hWb hW1 hf hm hl hg hR cn hl1 hl2
  rcases HF.out with ⟨rfl, k, hk, rfl, hgk⟩ | ⟨rfl, rfl, rfl⟩
  · have hk0 : ¬ (k : Int) < 0 := by omega
    have hkn : k < m := by rw [HN.out]; exact hk
    have HK := Lib.hid hk
    have HGK : Hid (g = gs[k]'HK.out) := Lib.hid hgk
    clear hgk HF hk
    obtain ⟨l1, hl1⟩ : ∃ l1, g.sizes.length = l1 := ⟨_, rfl⟩
    obtain ⟨l2, hl2⟩ : ∃ l2, g.parts.length = l2 := ⟨_, rfl⟩
    have HE1 := Lib.hid hl1
    have HE2 := Lib.hid hl2
    clear hl1 hl2
    go_enter Try.func16, Try.ntmps16
    go_upto_region 5 with (first
      | (go_at_call 36; rw [← HW.out]; refine HC.out.mono ?_; rintro e w5 ⟨rfl, hb5⟩
         have HB5 := Lib.hid hb5
         have z0 := keep_cell hb5 c0
         obtain ⟨b, off, C1, e1, C2, e2, rfl, hbk, x0, x1, x2, x3, hin⟩ := (HG.out.below hb5).at HK.out
         rw [← HGK.out] at x0 x1 x2 x3 hin
         rw [HE1.out] at x1
         rw [HE2.out] at x2
         have HIN := Lib.hid hin
         clear hb5 hbk c0 hin)
      | fail)
    obtain ⟨M, hM⟩ : ∃ M, w5.heap.size = M := ⟨_, rfl⟩
    obtain ⟨W2, hW2⟩ : ∃ W2, w5.alloc (.cells #[.string g.name, .slice C1 l1 e1, .slice C2 l2 e2, .int .i64 g.ov] 37) = W2 := ⟨_, rfl⟩
    have hb2 : Below w5.heap.size w5 W2 := by rw [← hW2]; exact below_new _ _
    have HM4 : Hid (Four W2 M (.string g.name) (.slice C1 l1 e1) (.slice C2 l2 e2) (.int .i64 g.ov)) := Lib.hid (by rw [← hW2]; exact four_new hM _ _ _ _ _)
    have HB2 := Lib.hid (below_self HB5.out hb2)
    have HW2 : Hid (M + 1 ≤ W2.heap.size) := Lib.hid (by rw [← hW2, size_new hM]; omega)
    have HMN : Hid (N + 2 < M) := Lib.hid (by have := HNN.out.2; have := HB5.out.size; omega)
    have HC1 : Hid (∀ W, Below W2.heap.size W2 W → Calls Try.prog 38 #[.slice C1 l1 e1] W (ClnS W g.sizes)) := Lib.hid fun W hb => clone_str HE1.out.symm HL1.out ((HIN.out.below hb2).below hb).1
    have HC2 : Hid (∀ W, Below W2.heap.size W2 W → Calls Try.prog 39 #[.slice C2 l2 e2] W (ClnP W g.parts)) := Lib.hid fun W hb => clone_part HE2.out.symm HL2.out ((HIN.out.below hb2).below hb).2
    obtain ⟨⟨y0, y1, y2, y3⟩, _⟩ := HM4.out
    rw [hW2, hM]
    clear hW2 hM x0 x1 x2 x3 z0 hb2
    go_region_with (first
      | (go_at_call 38
         refine (HC1.out _ (below_drew _)).mono ?_
         rintro e w7 ⟨D1, g1, rfl, hs1, hn7, hb7⟩
         have HN7 : Hid (∀ a, D1 = some a → M + 1 ≤ a.block) := Lib.hid fun a h => Nat.le_trans HW2.out (hn7 a h)
         clear hn7
         have hb7 := below_self (below_drew W2) hb7
         rw [HE1.out]
         have HS1 := Lib.hid hs1
         have HB7 := Lib.hid hb7
         replace y0 := keep_cell hb7 y0
         replace y1 := keep_cell hb7 y1
         replace y2 := keep_cell hb7 y2
         replace y3 := keep_cell hb7 y3
         clear hs1 hb7)
      | (go_at_call 39
         refine (HC2.out _ HB7.out).mono ?_
         rintro e w8 ⟨D2, g2, rfl, hs2, hn8, hb8⟩
         have HN8 : Hid (∀ a, D2 = some a → M + 1 ≤ a.block) := Lib.hid fun a h => Nat.le_trans (Nat.le_trans HW2.out HB7.out.size) (hn8 a h)
         clear hn8
         rw [HE2.out]
         have HS8 := Lib.hid (hs2)
         have HS7 := Lib.hid (HS1.out.below hb8)
         have HB8 := Lib.hid (below_self HB7.out hb8)
         obtain ⟨⟨u0, u1, u2, u3⟩, v0, v1, v2, v3⟩ := HM4.out.below (below_self HB7.out hb8)
         clear hb8 y0 y1 y2 y3)
      | fail)
    all_goals
      obtain ⟨W9, hW9⟩ : ∃ W9, W9 = (w8.setCell ⟨M, 1, none⟩ (.slice D1 l1 g1)).setCell ⟨M, 2, none⟩ (.slice D2 l2 g2) := ⟨_, rfl⟩
      rw [← hW9]
      have hb89 : Below M w8 W9 := by rw [hW9]; exact ((Below.refl _ _).setCell (p := ⟨M, 1, none⟩) (Nat.le_refl M) _).setCell (p := ⟨M, 2, none⟩) (Nat.le_refl M) _
      have hb18 := below_self HB2.out HB8.out
      have h4 := HS.out.below hb18
      obtain ⟨⟨d0, d1, d2, d3⟩, f0, f1, f2, f3⟩ := h4.upto hb89 HMN.out
      obtain ⟨t0, t1, t2, t3⟩ := two_cells u0 u1 u2 u3 _ _ hW9
      have HB9 : Hid (Below w.heap.size w W9) := Lib.hid (by rw [hW9]; exact ((below_self HB.out hb18).setCell (by have := HMN.out; have := HNN.out; show w.heap.size ≤ M; omega) _).setCell (by have := HMN.out; have := HNN.out; show w.heap.size ≤ M; omega) _)
      have HKP : Hid (∀ b o x, M + 1 ≤ b → w8.cell? ⟨b, o, none⟩ = some x → W9.cell? ⟨b, o, none⟩ = some x) := Lib.hid fun b o x hb hx => by
        rw [hW9, World.cell?_setCell_other _ _ _ _ (fun e => by injection e with e1 _; omega), World.cell?_setCell_other _ _ _ _ (fun e => by injection e with e1 _; omega)]; exact hx
      have HSZ : Hid (w8.heap.size ≤ W9.heap.size) := Lib.hid hb89.size
      clear hW9 hb89 hb18 h4 u0 u1 u2 u3 v0 v1 v2 v3 hs2 hb7
      go_wp2_with fail
      obtain ⟨W4, hW4⟩ : ∃ W4, W4 = ((((W9.setCell ⟨N + 2, 0, none⟩ (.string g.name)).setCell ⟨N + 2, 1, none⟩ (.slice D1 l1 g1)).setCell ⟨N + 2, 2, none⟩ (.slice D2 l2 g2)).setCell ⟨N + 2, 3, none⟩ (.int .i64 g.ov)) := ⟨_, rfl⟩
      rw [← hW4]
      obtain ⟨k0, k1, k2, k3⟩ := set4_cells d0 d1 d2 d3 _ _ _ _ hW4
      have hB4 : Below w.heap.size w W4 := by rw [hW4]; exact below_set4 HB9.out HNN.out.1 _ _ _ _
      have hst : StIn W4 W4.heap.size g D1 D2 := by
        have hsz : W9.heap.size ≤ W4.heap.size := by rw [hW4]; simp
        have hcc : ∀ b o x, M + 1 ≤ b → w8.cell? ⟨b, o, none⟩ = some x → W4.cell? ⟨b, o, none⟩ = some x := fun b o x hb hx => by
          rw [hW4]; exact cell_set4 (by have := HMN.out; omega) (HKP.out b o x hb hx) _ _ _ _
        exact ⟨HS7.out.far HN7.out (Nat.le_trans HSZ.out hsz) hcc, HS8.out.far HN8.out (Nat.le_trans HSZ.out hsz) hcc⟩
      clear hW4
      exact bodyPost_ret (v := .tuple #[.agg #[.string g.name, .slice D1 l1 g1, .slice D2 l2 g2, .int .i64 g.ov], .bool true]) (by simp [results, Try.results16, go_sem, k0, k1, k2, k3]) rfl ⟨D1, g1, D2, g2, by rw [HE1.out, HE2.out], hst, hN ▸ hB4⟩
  · clear HF
    go_enter Try.func16, Try.ntmps16
    go_wp2_with (first
      | (go_at_call 36; rw [← HW.out]; refine HC.out.mono ?_; rintro e w5 ⟨rfl, hb5⟩
         have HB5 := Lib.hid (below_self HB.out hb5)
         obtain ⟨⟨d0, d1, d2, d3⟩, f0, f1, f2, f3⟩ := HS.out.below hb5
         clear hb5 c0)
      | fail)
    obtain ⟨W4, hW4⟩ : ∃ W4, W4 = ((((w5.setCell ⟨N + 2, 0, none⟩ (.string ⟨#[]⟩)).setCell ⟨N + 2, 1, none⟩ (.slice none 0 0)).setCell ⟨N + 2, 2, none⟩ (.slice none 0 0)).setCell ⟨N + 2, 3, none⟩ (.int .i64 0)) := ⟨_, rfl⟩
    rw [← hW4]
    obtain ⟨k0, k1, k2, k3⟩ := set4_cells d0 d1 d2 d3 _ _ _ _ hW4
    have hB4 : Below w.heap.size w W4 := by rw [hW4]; exact below_set4 HB5.out HNN.out.1 _ _ _ _
    have hst : StIn W4 W4.heap.size zeroS none none := ⟨.inl rfl, .inl rfl⟩
    clear hW4
    exact bodyPost_ret (v := .tuple #[.agg #[.string ⟨#[]⟩, .slice none 0 0, .slice none 0 0, .int .i64 0], .bool false]) (by simp [results, Try.results16, go_sem, k0, k1, k2, k3]) rfl ⟨_, _, _, _, rfl, hst, hB4⟩
end Go.Proofs.Ytjhpajdkklklhaa.Fon
