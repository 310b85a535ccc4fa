/- The program's package font: heightsOf. (Written by wip/tools/genheights.py.) -/
import Derived.Test.YtjhpajdkklklhaaFntMap
import Derived.Test.YtjhpajdkklklhaaHeld
import Derived.Deep.DeepCutAuto
namespace Go.Proofs.Ytjhpajdkklklhaa.Fon
open Go Go.RowKit Go.Maps Go.ChangeMaps Go.WideMaps By

theorem run_makeMap_n {t k e : TypeId} (h : Try.prog.underlying t = some (.map k e)) (n : Nat) (w : World) : (Instr.makeMap t (some (.int .i64 (n : Int)))).run Try.prog w = .ok (.map (some w.heap.size)) (w.alloc (.map #[] 0)) := by
  simp [Instr.makeMap, run_underlying h, go_sem, asIntOf, Result.andThen]
/-- 'm[k] = v' as one operation -/
theorem wp_mapUpdate_own {H : Type} {P : Program} (w : World) {o : Oper} {a : Act} {K : Act → World → Prop} {Q : Exit → Act → World → Prop} (m x v : Operand) (t : TypeId) (hop : o.op = Op.mapUpdate t m x v)
    (k e : TypeId) (K0 : Keyed P k) (ht : P.underlying t = some (.map k e)) (R : Value → Option (DataW H × List MemPlace)) (b n : Nat) (D : DataW H)
    (hm : a.eval m = .map (some b)) (hown : w.ownsMap P k R b n D) (hn : n < maxLen) (key val : Value) (kl : Lit) (hx : a.eval x = key) (hv : a.eval v = val) (hkey : keyOf P k key = some kl)
    (d : DataW H) (ps : List MemPlace) (hval : R val = some (d, ps))
    (hK : ∀ w', w'.ownsMap P k R b (n + 1) (D.put kl d) → w.grownBy w' (some b) → K (a.put o.dst undef) w') : o.wp P a w K Q := by
  obtain ⟨w', hrun, r1, r2⟩ := hown.update K0 ht hn hkey hval
  unfold Oper.wp
  simp [execOp, hop, hm, hx, hv, hrun, Result.andThen]
  exact hK w' r1 r2
def HgtR (w : World) (gs : List Gl) (F : Bool) (e : Ending) (w' : World) : Prop :=
  (F = false ∧ e = .returned (.tuple #[.map none, .bool false]) ∧ Below w.heap.size w w') ∨ (F = true ∧ ∃ b, e = .returned (.tuple #[.map (some b), .bool true]) ∧ HMap w' b gs ∧ Below w.heap.size w w')
set_option maxRecDepth 100000 in
set_option maxHeartbeats 4000000 in
theorem heights_let {w : World} {A : Option Addr} {n c : Nat} {gs : List Gl} {F : Bool} (hF : (decide (gs.length ≤ 400) && glyphsB gs) = F) (hn : n = gs.length) (hl : gs.length ≤ 9223372036854775807) (hg : GlsAt w w.heap.size A gs) (hs : ∀ g ∈ gs, g.name.size ≤ 9223372036854775807) :
    Calls Try.prog 27 #[.slice A n c] w (HgtR w gs F) := by
  have HF := Lib.hid hF
  have HN := Lib.hid hn
  have HG := Lib.hid hg
  have HSZ := Lib.hid hs
  have hn1 : (n : Int) ≤ 9223372036854775807 := by omega
  by_cases h400 : n ≤ 400
  rotate_left
  · have h4i : (400 : Int) < (n : Int) := by omega
    have HX : Hid (F = false) := Lib.hid (by rw [← HF.out, decide_eq_false (by omega)]; rfl)
    clear hF hn hl hg hs h400
    go_enter Try.func27, Try.ntmps27
    go_wp2_with fail
    go_ret2
    exact .inl ⟨HX.out, rfl, Below.refl _ _⟩
  have h4i : ¬ (400 : Int) < (n : Int) := by omega
  have hF2 : glyphsB gs = F := by rw [← hF, decide_eq_true (by omega), Bool.true_and]
  have HF2 := Lib.hid hF2
  have hmm := run_makeMap_n Try.underlying61 n w
  obtain ⟨M, hM⟩ : ∃ M, w.heap.size = M := ⟨_, rfl⟩
  obtain ⟨W1, hW1⟩ : ∃ W1, w.alloc (.map #[] 0) = W1 := ⟨_, rfl⟩
  have HO0 : Hid (W1.ownsMap Try.prog 9 (plainElem Try.prog 3) M 0 (hmD (gs.take 0))) := Lib.hid (by rw [← hW1, ← hM]; exact World.ownsMap_made _ _ _ _)
  have HB0 : Hid (Below w.heap.size w W1) := Lib.hid (by rw [← hW1]; exact below_new _ _)
  rw [hM, hW1] at hmm
  have HMW : Hid (w.heap.size ≤ M) := Lib.hid (Nat.le_of_eq hM)
  have H0 : Hid (∀ j, j < 0 → glOK gs j = true) := Lib.hid fun j h => by omega
  have h4n : n ≤ 400 := h400
  have HW1 := Lib.hid hW1
  clear hF hn hl hg hs h400 hF2 hW1 hM
  go_enter Try.func27, Try.ntmps27
  go_wp2_with fail
  go_loopw [17] (fun i wr => ∃ k : Nat, k ≤ n ∧ i = .int .i64 k ∧ Hid (∀ j, j < k → glOK gs j = true) ∧ Hid (wr.ownsMap Try.prog 9 (plainElem Try.prog 3) M k (hmD (gs.take k))) ∧ Hid (Below w.heap.size w wr)) (fun i _ => n - (intOf i).toNat)
  case atStart => exact ⟨0, Nat.zero_le _, rfl, H0, HO0, HB0⟩
  case round =>
    obtain ⟨k, hk, rfl, HK, HOW, HBR⟩ := hrel
    by_cases hlt : k < n
    · have hkl : k < gs.length := by rw [← HN.out]; exact hlt
      have HKL := Lib.hid hkl
      obtain ⟨b, off, rfl, hb, x0, x1, x2, x3, x4, x5⟩ := (HG.out.below HBR.out).at hkl
      have hok := glOK_at hkl
      have hys := HSZ.out _ (List.getElem_mem hkl)
      obtain ⟨y, hy⟩ : ∃ y, gs[k]'hkl = y := ⟨_, rfl⟩
      rw [hy] at x0 x1 x2 x3 x4 x5 hok hys
      have HY : Hid (gs[k]'HKL.out = y) := Lib.hid hy
      have HFA : Hid (glOK gs k = false → F = false) := Lib.hid fun h => HF2.out ▸ glyphs_false hkl h
      obtain ⟨tk, htk⟩ : ∃ tk, ((gs.take k).any fun x => x.name.toList == y.name.toList) = tk := ⟨_, rfl⟩
      rw [htk] at hok
      have HTK : Hid (Maps.has (hmD (gs.take k)) (kl y.name) = tk) := Lib.hid (by rw [hm_has]; exact htk)
      obtain ⟨n1, hn1'⟩ : ∃ b, nameB y.name = b := ⟨_, rfl⟩
      obtain ⟨m1, hm1⟩ : ∃ b, metB y = b := ⟨_, rfl⟩
      have HKEY := Lib.hid (kl_of hys)
      have HCN : Hid (∀ w, Calls Try.prog 46 #[.string y.name] w fun e w' => e = .returned (.bool n1) ∧ w' = w) := Lib.hid fun w => hn1' ▸ name_any y.name w hys
      have HCM : Hid (∀ w, Calls Try.prog 40 #[.agg #[.string y.name, .int .i64 y.W, .int .i64 y.H, .int .i64 y.D, .int .i64 y.I, .int .i64 y.A]] w fun e w' => e = .returned (.bool m1) ∧ Below w.heap.size w w') := Lib.hid fun w => hm1 ▸ mets_any y w
      have HOK : Hid (glOK gs k = (n1 && m1 && decide (0 ≤ y.W) && !tk)) := Lib.hid (by rw [hok, hn1', hm1])
      have HMT : Hid (m1 = true → metP y) := Lib.hid fun h => (met_iff y).1 (hm1.trans h)
      clear hok hys hy hb htk hn1' hm1 hkl
      cases tk with
      | true =>
        have HX := Lib.hid (HFA.out (by rw [HOK.out]; simp))
        go_wp2_with (first
          | (at_lookup; refine wpList_lookup_own_ok_int _ rfl _ _ 61 rfl 9 3 .i64 keyS Try.underlying61 Try.underlying3 (zeroI _) M k _ rfl (HOW.out.alloc _) _ _ rfl HKEY.out ?_; intro cc _ _; rw [HTK.out])
          | fail)
        go_ret2
        exact .inl ⟨HX.out, rfl, below_self HBR.out (below_new _ _)⟩
      | false =>
        cases n1 with
        | false =>
          have HX := Lib.hid (HFA.out (by rw [HOK.out]; rfl))
          go_wp2_with (first
            | (at_lookup; refine wpList_lookup_own_ok_int _ rfl _ _ 61 rfl 9 3 .i64 keyS Try.underlying61 Try.underlying3 (zeroI _) M k _ rfl (HOW.out.alloc _) _ _ rfl HKEY.out ?_; intro cc _ _; rw [HTK.out])
            | (go_at_call 46; refine (HCN.out _).mono ?_; rintro e w' ⟨rfl, rfl⟩)
            | fail)
          go_ret2
          exact .inl ⟨HX.out, rfl, below_self HBR.out (below_new _ _)⟩
        | true =>
          by_cases hW : y.W < 0
          · have HX := Lib.hid (HFA.out (by rw [HOK.out, decide_eq_false (show ¬ 0 ≤ y.W by omega)]; simp))
            go_wp2_with (first
              | (at_lookup; refine wpList_lookup_own_ok_int _ rfl _ _ 61 rfl 9 3 .i64 keyS Try.underlying61 Try.underlying3 (zeroI _) M k _ rfl (HOW.out.alloc _) _ _ rfl HKEY.out ?_; intro cc _ _; rw [HTK.out])
              | (go_at_call 46; refine (HCN.out _).mono ?_; rintro e w' ⟨rfl, rfl⟩)
              | fail)
            go_ret2
            exact .inl ⟨HX.out, rfl, below_self HBR.out (below_new _ _)⟩
          · cases m1 with
            | false =>
              have HX := Lib.hid (HFA.out (by rw [HOK.out]; rfl))
              go_wp2_with (first
                | (at_lookup; refine wpList_lookup_own_ok_int _ rfl _ _ 61 rfl 9 3 .i64 keyS Try.underlying61 Try.underlying3 (zeroI _) M k _ rfl (HOW.out.alloc _) _ _ rfl HKEY.out ?_; intro cc _ _; rw [HTK.out])
                | (go_at_call 46; refine (HCN.out _).mono ?_; rintro e w' ⟨rfl, rfl⟩)
                | (go_at_call 40; refine (HCM.out _).mono ?_; rintro e w4 ⟨rfl, hb4⟩
                   have HB4 := Lib.hid (below_self (below_self HBR.out (below_new _ _)) hb4)
                   clear hb4)
                | fail)
              go_ret2
              exact .inl ⟨HX.out, rfl, HB4.out⟩
            | true =>
              have HK2 : Hid (∀ j, j < k + 1 → glOK gs j = true) := Lib.hid fun j h => by
                rcases Nat.lt_succ_iff_lt_or_eq.1 h with h' | rfl
                · exact HK.out j h'
                · rw [HOK.out, decide_eq_true (show 0 ≤ y.W by omega)]; rfl
              obtain ⟨h1, h2⟩ : -40000 ≤ height y ∧ height y ≤ 40000 := hgt_bd (HMT.out rfl)
              have HWF : Hid ((Lit.int .i64 (height y)).wf = true) := Lib.hid (WalkArith.wf_i64 (by omega))
              have HHC : Hid (∀ w, Calls Try.prog 23 #[.agg #[.string y.name, .int .i64 y.W, .int .i64 y.H, .int .i64 y.D, .int .i64 y.I, .int .i64 y.A]] w fun e w' => e = .returned (.int .i64 (height y)) ∧ Below w.heap.size w w') := Lib.hid fun w => by
                have h := height_any y.name y.W y.H y.D y.I y.A w
                rw [IntWalk.wrap64_in _ (by have e : y.H + y.D = height y := rfl; omega)] at h
                exact h
              have HKM : Hid (k < maxLen) := Lib.hid (by unfold maxLen; omega)
              clear h1 h2
              go_upto_region 10 with (first
                | (at_lookup; refine wpList_lookup_own_ok_int _ rfl _ _ 61 rfl 9 3 .i64 keyS Try.underlying61 Try.underlying3 (zeroI _) M k _ rfl (HOW.out.alloc _) _ _ rfl HKEY.out ?_; intro cc _ _; rw [HTK.out])
                | (go_at_call 46; refine (HCN.out _).mono ?_; rintro e w' ⟨rfl, rfl⟩)
                | (go_at_call 40; refine (HCM.out _).mono ?_; rintro e w4 ⟨rfl, hb4⟩
                   have HB4 := Lib.hid (below_self (below_self HBR.out (below_new _ _)) hb4)
                   have HOW4 := Lib.hid (ownsMap_below (HOW.out.alloc _) hb4)
                   obtain ⟨X, hX⟩ : ∃ X, wr.heap.size = X := ⟨_, rfl⟩
                   have h6 := (six_new hX (.string y.name) (.int .i64 y.W) (.int .i64 y.H) (.int .i64 y.D) (.int .i64 y.I) (.int .i64 y.A) 31).below hb4
                   have HXM : Hid (some X ≠ some M) := Lib.hid (fun h => by have := HOW.out.lt; injection h with h; omega)
                   obtain ⟨⟨d0, d1, d2, d3, d4, d5⟩, _⟩ := h6
                   have HXX := Lib.hid hX
                   clear hb4 hX)
                | fail)
              rw [HXX.out]
              have mk : ∀ W', Below w4.heap.size w4 W' → (fun w' => w'.cell? ⟨X, 0, none⟩ = some (.string y.name) ∧ w'.cell? ⟨X, 1, none⟩ = some (.int .i64 y.W) ∧ w'.cell? ⟨X, 2, none⟩ = some (.int .i64 y.H) ∧ w'.cell? ⟨X, 3, none⟩ = some (.int .i64 y.D) ∧ w'.cell? ⟨X, 4, none⟩ = some (.int .i64 y.I) ∧ w'.cell? ⟨X, 5, none⟩ = some (.int .i64 y.A)) W' := fun W' h => ⟨keep_cell h d0, keep_cell h d1, keep_cell h d2, keep_cell h d3, keep_cell h d4, keep_cell h d5⟩
              have MK := Lib.hid mk
              clear mk
              have HQ := Lib.hid (below_drew w4)
              refine wp_region_held_drew (S := fun w' => w'.cell? ⟨X, 0, none⟩ = some (.string y.name) ∧ w'.cell? ⟨X, 1, none⟩ = some (.int .i64 y.W) ∧ w'.cell? ⟨X, 2, none⟩ = some (.int .i64 y.H) ∧ w'.cell? ⟨X, 3, none⟩ = some (.int .i64 y.D) ∧ w'.cell? ⟨X, 4, none⟩ = some (.int .i64 y.I) ∧ w'.cell? ⟨X, 5, none⟩ = some (.int .i64 y.A)) (by kernel_rfl) (MK.out _ (below_drew _)) (fun hHeld => ?_)
              refine wpAnyH_take (i := 0) (v := ?_) rfl (by kernel_rfl) (by kernel_rfl) (by kernel_rfl) (fun _ _ _ h => h) (Or.inl ⟨by rfl, ?_⟩) hHeld ?_
              rotate_left
              · intro w hSw; (try dsimp only at hSw); go_simp; try with_reducible rfl
              simp only [Act.put]; (try simp only [List.setIfInBounds_toArray, List.set_cons_zero, List.set_cons_succ, List.getElem_toArray, List.getElem_cons_zero, List.getElem_cons_succ])
              refine wpAnyH_take (i := 1) (v := ?_) rfl (by kernel_rfl) (by kernel_rfl) (by kernel_rfl) (fun _ _ _ h => h) (Or.inl ⟨by rfl, ?_⟩) hHeld ?_
              rotate_left
              · intro w hSw; (try dsimp only at hSw); go_simp; try with_reducible rfl
              simp only [Act.put]; (try simp only [List.setIfInBounds_toArray, List.set_cons_zero, List.set_cons_succ, List.getElem_toArray, List.getElem_cons_zero, List.getElem_cons_succ])
              refine wpAnyH_take (i := 2) (v := ?_) rfl (by kernel_rfl) (by kernel_rfl) (by kernel_rfl) (fun _ _ _ h => h) (Or.inl ⟨by rfl, ?_⟩) hHeld ?_
              rotate_left
              · intro w hSw; (try dsimp only at hSw); go_simp; try with_reducible rfl
              simp only [Act.put]; (try simp only [List.setIfInBounds_toArray, List.set_cons_zero, List.set_cons_succ, List.getElem_toArray, List.getElem_cons_zero, List.getElem_cons_succ])
              refine wpAnyH_take (i := 3) (v := ?_) rfl (by kernel_rfl) (by kernel_rfl) (by kernel_rfl) (fun _ _ _ h => h) (Or.inl ⟨by rfl, ?_⟩) hHeld ?_
              rotate_left
              · intro w hSw; (try dsimp only at hSw); go_simp; try with_reducible rfl
              simp only [Act.put]; (try simp only [List.setIfInBounds_toArray, List.set_cons_zero, List.set_cons_succ, List.getElem_toArray, List.getElem_cons_zero, List.getElem_cons_succ])
              clear hHeld
              refine wpAnyH_one (a' := ?_) 4 (fun w' => Below w4.heap.size w4 w') (by kernel_rfl) rfl (by rfl) (fun K hK => ?_) (fun w6 hR => ⟨MK.out _ hR, ?_⟩)
              rotate_left
              · go_simp
                refine (HHC.out _).mono ?_
                rintro e w6 ⟨rfl, hb6⟩
                exact hK _ (below_self HQ.out hb6)
              replace HQ := Lib.hid hR
              have hHeld := MK.out _ hR
              clear hHeld
              have hown := ownsMap_below HOW4.out HQ.out
              obtain ⟨e0, e1, e2, e3, e4, e5⟩ := MK.out _ HQ.out
              obtain ⟨w5, rfl⟩ : ∃ w5, w5 = w6 := ⟨_, rfl⟩
              refine wpAnyH_one (a' := ?_) 5 (fun w' => w'.ownsMap Try.prog 9 (plainElem Try.prog 3) M (k + 1) ((hmD (gs.take k)).put (kl y.name) (.lit (.int .i64 (height y)))) ∧ w5.grownBy w' (some M)) (by kernel_rfl) rfl (by rfl) (fun K hK => ?_) (fun w7 hR => ⟨?_, ?_⟩)
              rotate_left
              · refine wp_mapUpdate_own w5 _ _ _ 61 rfl 9 3 keyS Try.underlying61 _ M k (hmD (gs.take k)) rfl hown HKM.out (.string y.name) (.int .i64 (height y)) (kl y.name) rfl rfl HKEY.out _ [] (plainElem_int Try.underlying3 HWF.out) ?_
                intro w' h1 h2
                exact hK w' ⟨h1, h2⟩
              · have hb := hR.2
                exact ⟨hb.cell e0 HXM.out, hb.cell e1 HXM.out, hb.cell e2 HXM.out, hb.cell e3 HXM.out, hb.cell e4 HXM.out, hb.cell e5 HXM.out⟩
              (try simp only [Act.put]; (try simp only [List.setIfInBounds_toArray, List.set_cons_zero, List.set_cons_succ, List.getElem_toArray, List.getElem_cons_zero, List.getElem_cons_succ]))
              refine wpAnyH_done (by kernel_rfl) ?_ _
              have HO7 : Hid (w7.ownsMap Try.prog 9 (plainElem Try.prog 3) M (k + 1) (hmD (gs.take (k + 1)))) := Lib.hid (by rw [hmD_snoc HKL.out, HY.out]; exact hR.1)
              have HB7 : Hid (Below w.heap.size w w7) := Lib.hid ((below_self (below_self HB4.out (Below.refl _ _)) HQ.out).grown hR.2 (Nat.le_trans HB4.out.size HQ.out.size) (fun j hj => by cases hj; exact HMW.out))
              clear hR hown e0 e1 e2 e3 e4 e5 HQ
              go_wp2_with fail
              go_roundw
              case rel => exact ⟨k + 1, by omega, by go_num, HK2, HO7, HB7⟩
              case measure => simp [intOf]; omega

    · have HX : Hid (F = true) := Lib.hid (HF2.out ▸ glyphs_true fun j hj => HK.out j (by have := HN.out; omega))
      have HKN : Hid (k = gs.length) := Lib.hid (by have := HN.out; omega)
      go_wp2_with fail
      go_ret2
      refine .inr ⟨HX.out, M, rfl, ⟨k, by omega, ?_⟩, HBR.out⟩
      have h := HOW.out
      rw [HKN.out, List.take_length, ← HKN.out] at h
      exact h
end Go.Proofs.Ytjhpajdkklklhaa.Fon
