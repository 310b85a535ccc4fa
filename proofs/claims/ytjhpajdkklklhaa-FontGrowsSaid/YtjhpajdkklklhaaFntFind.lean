/- The program's package font: Find. -/
import Derived.Test.YtjhpajdkklklhaaFntMet
import Derived.Test.YtjhpajdkklklhaaFonStretch
namespace Go.Proofs.Ytjhpajdkklklhaa.Fon
open Go Go.RowKit By

/-- the predicate of Find -/
theorem gname_any (g : Gl) (nm : ByteArray) (X : Nat) (w : World) (hx : w.cell? ⟨X, 0, none⟩ = some (.string nm)) :
    Calls Try.prog 35 #[.agg #[.string g.name, .int .i64 g.W, .int .i64 g.H, .int .i64 g.D, .int .i64 g.I, .int .i64 g.A], .pointer (some ⟨X, 0, none⟩)] w fun e w' => e = .returned (.bool (g.name.toList == nm.toList)) ∧ Below w.heap.size w w' := by
  obtain ⟨n0, W, H, D, I, A⟩ := g
  simp only []
  have h1 := keep_cell (below_new w (.cells #[.string n0, .int .i64 W, .int .i64 H, .int .i64 D, .int .i64 I, .int .i64 A] 31)) hx
  have hne : X ≠ w.heap.size := fun h => by have := World.block_lt_of_cell? _ _ hx; simp only [] at this; omega
  clear hx
  go_enter Try.func35, Try.ntmps35
  go_wp2
  go_ret
  exact ⟨ret_bool rfl, below_new _ _⟩
set_option maxRecDepth 100000 in
set_option maxHeartbeats 1000000 in
theorem idxgl_any {A : Option Addr} {n c X : Nat} {gs : List Gl} {nm : ByteArray} (w : World) (hn : n = gs.length) (hl : gs.length ≤ 9223372036854775807) (hg : GlsAt w w.heap.size A gs) (hx : w.cell? ⟨X, 0, none⟩ = some (.string nm)) :
    Calls Try.prog 34 #[.slice A n c, .func (.func 35) #[] #[.pointer (some ⟨X, 0, none⟩)]] w
      fun e w' => e = .returned (.int .i64 (idxOf (fun g => g.name.toList == nm.toList) gs)) ∧ Below w.heap.size w w' := by
  obtain ⟨R, hR⟩ : ∃ R, idxOf (fun g : Gl => g.name.toList == nm.toList) gs = R := ⟨_, rfl⟩
  have HR := Lib.hid hR
  rw [hR]
  have HN := Lib.hid hn
  have HG := Lib.hid hg
  have HX := Lib.hid hx
  have hn1 : (n : Int) ≤ 9223372036854775807 := by omega
  have H0 : Hid (∀ j (hj : j < gs.length), j < 0 → (gs[j].name.toList == nm.toList) = false) := Lib.hid fun j _ h => by omega
  have HB0 := Lib.hid (Below.refl w.heap.size w)
  clear hR hn hl hg hx
  go_enter Try.func34, Try.ntmps34
  go_wp2_with fail
  go_loopw [8] (fun i wr => ∃ k : Nat, k ≤ n ∧ i = .int .i64 k ∧ Hid (∀ j (hj : j < gs.length), j < k → (gs[j].name.toList == nm.toList) = false) ∧ Hid (Below w.heap.size w wr)) (fun i _ => n - (intOf i).toNat)
  case atStart => exact ⟨0, Nat.zero_le _, rfl, H0, HB0⟩
  case round =>
    obtain ⟨k, hk, rfl, HK, HBR⟩ := hrel
    by_cases hlt : k < n
    · have hkl : k < gs.length := by rw [← HN.out]; exact hlt
      obtain ⟨b, off, rfl, hb, x0, x1, x2, x3, x4, x5⟩ := (HG.out.below HBR.out).at hkl
      obtain ⟨y, hy⟩ : ∃ y, gs[k] = y := ⟨_, rfl⟩
      rw [hy] at x0 x1 x2 x3 x4 x5
      have HC := gname_any y nm X wr (keep_cell HBR.out HX.out)
      cases hv : (y.name.toList == nm.toList) with
      | true =>
        rw [hv] at HC
        have HC2 := Lib.hid HC
        have HF : Hid (R = (k : Int)) := Lib.hid (HR.out ▸ idx_hit hkl (by rw [hy]; exact hv) HK.out)
        clear hy hv HC hb
        go_wp2_with (first | (go_at_call 35; refine HC2.out.mono ?_; rintro e w6 ⟨rfl, hb6⟩
                              have HB6 := Lib.hid (below_self HBR.out hb6)
                              clear hb6) | fail)
        go_ret
        exact ⟨ret_int HF.out.symm, HB6.out⟩
      | false =>
        rw [hv] at HC
        have HC2 := Lib.hid HC
        have HF : Hid (∀ j (hj : j < gs.length), j < k + 1 → (gs[j].name.toList == nm.toList) = false) := Lib.hid fun j hj h => by
          rcases Nat.lt_succ_iff_lt_or_eq.1 h with h' | rfl
          · exact HK.out j hj h'
          · rw [hy]; exact hv
        clear hy hv HC hb
        go_wp2_with (first | (go_at_call 35; refine HC2.out.mono ?_; rintro e w6 ⟨rfl, hb6⟩
                              have HB6 := Lib.hid (below_self HBR.out hb6)
                              clear hb6) | fail)
        go_roundw
        case rel => exact ⟨k + 1, by omega, by go_num, HF, HB6⟩
        case measure => simp [intOf]; omega
    · have HF : Hid (R = -1) := Lib.hid (HR.out ▸ idx_miss fun j hj => HK.out j hj (by have := HN.out; omega))
      go_wp2_with fail
      go_ret
      exact ⟨ret_int HF.out.symm, HBR.out⟩
theorem find_idx {α : Type} {f : α → Bool} {l : List α} : (idxOf f l = -1 ∧ l.find? f = none) ∨ ∃ (k : Nat) (hk : k < l.length), idxOf f l = (k : Int) ∧ l.find? f = some l[k] := by
  unfold idxOf
  cases h : l.findIdx? f with
  | none => exact .inl ⟨rfl, by rw [List.find?_eq_none]; intro x hx; rw [List.findIdx?_eq_none_iff.1 h x hx]; decide⟩
  | some i =>
    obtain ⟨hi, h1, h2⟩ := List.findIdx?_eq_some_iff_getElem.1 h
    refine .inr ⟨i, hi, rfl, ?_⟩
    rw [List.find?_eq_some_iff_getElem]
    exact ⟨h1, i, hi, rfl, fun j hj => by simpa using h2 j hj⟩
set_option maxRecDepth 100000 in
set_option maxHeartbeats 2000000 in
theorem find_let {w : World} {A B : Option Addr} {n c m d : Nat} {p0 p1 p2 p3 p4 p5 p6 p7 p8 p9 p10 p11 p12 p13 p14 p15 p16 p17 p18 p19 : Int} {gs : List Gl} {nm : ByteArray} {g : Gl} {ok : Bool} (hn : n = gs.length) (hg : GlsAt w w.heap.size A gs) (hl : gs.length ≤ 9223372036854775807)
    (hf : (ok = true ∧ findG gs nm = some g) ∨ (ok = false ∧ g = zeroG ∧ findG gs nm = none)) :
    Calls Try.prog 14 #[.agg #[.slice A n c, .slice B m d, .int .i64 p0, .int .i64 p1, .int .i64 p2, .int .i64 p3, .int .i64 p4, .int .i64 p5, .int .i64 p6, .int .i64 p7, .int .i64 p8, .int .i64 p9, .int .i64 p10, .int .i64 p11, .int .i64 p12, .int .i64 p13, .int .i64 p14, .int .i64 p15, .int .i64 p16, .int .i64 p17, .int .i64 p18, .int .i64 p19], .string nm] w fun e w' => e = .returned (.tuple #[.agg #[.string g.name, .int .i64 g.W, .int .i64 g.H, .int .i64 g.D, .int .i64 g.I, .int .i64 g.A], .bool ok]) ∧ Below w.heap.size w w' := by
  obtain ⟨N, hN⟩ : ∃ N, w.heap.size = N := ⟨_, rfl⟩
  obtain ⟨Wa, hWa⟩ : ∃ W', W' = w.alloc (.cells #[.slice A n c, .slice B m d, .int .i64 p0, .int .i64 p1, .int .i64 p2, .int .i64 p3, .int .i64 p4, .int .i64 p5, .int .i64 p6, .int .i64 p7, .int .i64 p8, .int .i64 p9, .int .i64 p10, .int .i64 p11, .int .i64 p12, .int .i64 p13, .int .i64 p14, .int .i64 p15, .int .i64 p16, .int .i64 p17, .int .i64 p18, .int .i64 p19] 27) := ⟨_, rfl⟩
  obtain ⟨Wb, hWb⟩ : ∃ W', W' = Wa.alloc (.cells #[.string nm] 9) := ⟨_, rfl⟩
  obtain ⟨W1, hW1⟩ : ∃ W', W' = Wb.alloc (.cells #[.string ⟨#[]⟩, .int .i64 0, .int .i64 0, .int .i64 0, .int .i64 0, .int .i64 0] 31) := ⟨_, rfl⟩
  have sa : Wa.heap.size = N + 1 := by rw [hWa]; exact size_new hN _
  have sb : Wb.heap.size = N + 2 := by rw [hWb]; exact size_new sa _
  have ba : Below w.heap.size w Wa := by rw [hWa]; exact below_new _ _
  have bb : Below Wa.heap.size Wa Wb := by rw [hWb]; exact below_new _ _
  have bc : Below Wb.heap.size Wb W1 := by rw [hW1]; exact below_new _ _
  have hB1 := below_self (below_self ba bb) bc
  have c0 := keep_cell (below_self bb bc) (show Wa.cell? ⟨N, 0, none⟩ = some (.slice A n c) by rw [hWa]; exact new_cell hN _ _ 0 rfl)
  have cn := keep_cell bc (show Wb.cell? ⟨N + 1, 0, none⟩ = some (.string nm) by rw [hWb]; exact new_cell sa _ _ 0 rfl)
  have h6 : Six W1 (N + 2) (.string ⟨#[]⟩) (.int .i64 0) (.int .i64 0) (.int .i64 0) (.int .i64 0) (.int .i64 0) := by rw [hW1]; exact six_new sb _ _ _ _ _ _ _
  have HC := Lib.hid (idxgl_any (c := c) W1 hn hl (hg.below hB1) cn)
  have HG := Lib.hid (hg.below hB1)
  have HB := Lib.hid hB1
  have HS := Lib.hid h6
  have HF : Hid ((ok = true ∧ ∃ (k : Nat) (hk : k < gs.length), idxOf (fun g : Gl => g.name.toList == nm.toList) gs = (k : Int) ∧ g = gs[k]) ∨ (ok = false ∧ g = zeroG ∧ idxOf (fun g : Gl => g.name.toList == nm.toList) gs = -1)) := Lib.hid (by
    rcases hf with ⟨h1, h2⟩ | ⟨h1, h2, h3⟩
    · refine .inl ⟨h1, ?_⟩
      rcases find_idx (f := fun g : Gl => g.name.toList == nm.toList) (l := gs) with ⟨_, h4⟩ | ⟨k, hk, h4, h5⟩
      · unfold findG at h2; rw [h4] at h2; cases h2
      · unfold findG at h2; rw [h5] at h2; exact ⟨k, hk, h4, (Option.some.inj h2).symm⟩
    · refine .inr ⟨h1, h2, ?_⟩
      rcases find_idx (f := fun g : Gl => g.name.toList == nm.toList) (l := gs) with ⟨h4, _⟩ | ⟨k, hk, h4, h5⟩
      · exact h4
      · unfold findG at h3; rw [h5] at h3; cases h3)
  have HN := Lib.hid hn
  have HNN : Hid (w.heap.size ≤ N + 2) := Lib.hid (by omega)
  have hn1 : (n : Int) ≤ 9223372036854775807 := by omega
  obtain ⟨R, hR⟩ : ∃ R, idxOf (fun g : Gl => g.name.toList == nm.toList) gs = R := ⟨_, rfl⟩
  rw [hR] at HC HF
  have HW : Hid (W1 = ((w.alloc (.cells #[.slice A n c, .slice B m d, .int .i64 p0, .int .i64 p1, .int .i64 p2, .int .i64 p3, .int .i64 p4, .int .i64 p5, .int .i64 p6, .int .i64 p7, .int .i64 p8, .int .i64 p9, .int .i64 p10, .int .i64 p11, .int .i64 p12, .int .i64 p13, .int .i64 p14, .int .i64 p15, .int .i64 p16, .int .i64 p17, .int .i64 p18, .int .i64 p19] 27)).alloc (.cells #[.string nm] 9)).alloc (.cells #[.string ⟨#[]⟩, .int .i64 0, .int .i64 0, .int .i64 0, .int .i64 0, .int .i64 0] 31)) := Lib.hid (by rw [hW1, hWb, hWa])
  clear sa sb ba bb bc hB1 h6 hWa hWb hW1 hf hn hl hg hR cn
  rcases HF.out with ⟨rfl, k, hk, rfl, hgk⟩ | ⟨rfl, rfl, rfl⟩
  · have hk0 : ¬ (k : Int) < 0 := by omega
    have hkn : k < n := by rw [HN.out]; exact hk
    have HK := Lib.hid hk
    have HGK : Hid (g = gs[k]'HK.out) := Lib.hid hgk
    clear hgk HF hk
    go_enter Try.func14, Try.ntmps14
    go_wp2_with (first
      | (go_at_call 34; rw [← HW.out]; refine HC.out.mono ?_; rintro e w5 ⟨rfl, hb5⟩
         have HB5 := Lib.hid (below_self HB.out hb5)
         obtain ⟨⟨d0, d1, d2, d3, d4, d5⟩, f0, f1, f2, f3, f4, f5⟩ := HS.out.below hb5
         have z0 := keep_cell hb5 c0
         obtain ⟨b, off, rfl, hbk, x0, x1, x2, x3, x4, x5⟩ := (HG.out.below hb5).at HK.out
         rw [← HGK.out] at x0 x1 x2 x3 x4 x5
         clear hb5 hbk c0)
      | fail)
    obtain ⟨W4, hW4⟩ : ∃ W4, W4 = ((((((w5.setCell ⟨N + 2, 0, none⟩ (.string g.name)).setCell ⟨N + 2, 1, none⟩ (.int .i64 g.W)).setCell ⟨N + 2, 2, none⟩ (.int .i64 g.H)).setCell ⟨N + 2, 3, none⟩ (.int .i64 g.D)).setCell ⟨N + 2, 4, none⟩ (.int .i64 g.I)).setCell ⟨N + 2, 5, none⟩ (.int .i64 g.A)) := ⟨_, rfl⟩
    rw [← hW4]
    obtain ⟨k0, k1, k2, k3, k4, k5⟩ := set6_cells d0 d1 d2 d3 d4 d5 _ _ _ _ _ _ hW4
    have hB4 : Below w.heap.size w W4 := by rw [hW4]; exact below_set6 HB5.out HNN.out _ _ _ _ _ _
    clear hW4
    exact bodyPost_ret (v := .tuple #[.agg #[.string g.name, .int .i64 g.W, .int .i64 g.H, .int .i64 g.D, .int .i64 g.I, .int .i64 g.A], .bool true]) (by simp [results, Try.results14, go_sem, k0, k1, k2, k3, k4, k5]) rfl ⟨rfl, hN ▸ hB4⟩
  · clear HF
    go_enter Try.func14, Try.ntmps14
    go_wp2_with (first
      | (go_at_call 34; rw [← HW.out]; refine HC.out.mono ?_; rintro e w5 ⟨rfl, hb5⟩
         have HB5 := Lib.hid (below_self HB.out hb5)
         obtain ⟨⟨d0, d1, d2, d3, d4, d5⟩, f0, f1, f2, f3, f4, f5⟩ := HS.out.below hb5
         clear hb5 c0)
      | fail)
    obtain ⟨W4, hW4⟩ : ∃ W4, W4 = ((((((w5.setCell ⟨N + 2, 0, none⟩ (.string ⟨#[]⟩)).setCell ⟨N + 2, 1, none⟩ (.int .i64 0)).setCell ⟨N + 2, 2, none⟩ (.int .i64 0)).setCell ⟨N + 2, 3, none⟩ (.int .i64 0)).setCell ⟨N + 2, 4, none⟩ (.int .i64 0)).setCell ⟨N + 2, 5, none⟩ (.int .i64 0)) := ⟨_, rfl⟩
    rw [← hW4]
    obtain ⟨k0, k1, k2, k3, k4, k5⟩ := set6_cells d0 d1 d2 d3 d4 d5 _ _ _ _ _ _ hW4
    have hB4 : Below w.heap.size w W4 := by rw [hW4]; exact below_set6 HB5.out HNN.out _ _ _ _ _ _
    clear hW4
    exact bodyPost_ret (v := .tuple #[.agg #[.string ⟨#[]⟩, .int .i64 0, .int .i64 0, .int .i64 0, .int .i64 0, .int .i64 0], .bool false]) (by simp [results, Try.results14, go_sem, k0, k1, k2, k3, k4, k5]) rfl ⟨rfl, hN ▸ hB4⟩
end Go.Proofs.Ytjhpajdkklklhaa.Fon
