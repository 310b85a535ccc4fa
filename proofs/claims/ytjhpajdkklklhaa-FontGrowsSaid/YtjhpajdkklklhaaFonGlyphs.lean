/- The reference of layer 5: glyphs. -/
import Derived.Test.YtjhpajdkklklhaaFonParams
namespace Go.Proofs.Ytjhpajdkklklhaa.Fon
open Go Go.RowKit By

theorem glOK_at {l : List Gl} {k : Nat} (h : k < l.length) : glOK l k = (nameB l[k].name && metB l[k] && decide (0 ≤ l[k].W) && !((l.take k).any fun x => x.name.toList == l[k].name.toList)) := by
  unfold glOK; rw [List.getElem?_eq_getElem h]
theorem glyphs_false {l : List Gl} {k : Nat} (h : k < l.length) (hf : glOK l k = false) : glyphsB l = false := by
  unfold glyphsB
  rw [List.all_eq_false]
  exact ⟨k, List.mem_range.2 h, by rw [hf]; decide⟩
theorem glyphs_true {l : List Gl} (h : ∀ k, k < l.length → glOK l k = true) : glyphsB l = true := by
  unfold glyphsB
  rw [List.all_eq_true]
  exact fun k hk => h k (List.mem_range.1 hk)
theorem any_false {l : List Gl} {k : Nat} {nm : ByteArray} (hk : k ≤ l.length) (h : ∀ j (hj : j < l.length), j < k → (l[j].name.toList == nm.toList) = false) : ((l.take k).any fun x => x.name.toList == nm.toList) = false := by
  rw [List.any_eq_false]
  intro x hx
  obtain ⟨j, hj, rfl⟩ := List.getElem_of_mem hx
  rw [List.length_take] at hj
  rw [List.getElem_take, h j (by omega) (by omega)]
  decide
theorem any_true {l : List Gl} {k j : Nat} {nm : ByteArray} (hj : j < l.length) (hk : j < k) (h : (l[j].name.toList == nm.toList) = true) : ((l.take k).any fun x => x.name.toList == nm.toList) = true := by
  rw [List.any_eq_true]
  refine ⟨l[j], ?_, h⟩
  exact List.mem_take_iff_getElem.2 ⟨j, by omega, rfl⟩
set_option maxRecDepth 100000 in
set_option maxHeartbeats 4000000 in
theorem rglyphs_any {w : World} {A : Option Addr} {n c : Nat} {gs : List Gl} (hn : n = gs.length) (hl : gs.length ≤ 500) (hg : GlsAt w w.heap.size A gs) (hs : ∀ g ∈ gs, g.name.size ≤ 9223372036854775807) :
    Calls Try.prog 32 #[.slice A n c] w fun e w' => e = .returned (.bool (glyphsB gs)) ∧ Below w.heap.size w w' := by
  obtain ⟨F, hF⟩ : ∃ F, glyphsB gs = F := ⟨_, rfl⟩
  have HF := Lib.hid hF
  rw [hF]
  have HN := Lib.hid hn
  have hn1 : (n : Int) ≤ 500 := by omega
  have HG := Lib.hid hg
  have HSZ := Lib.hid hs
  have H0 : Hid (∀ j, j < 0 → glOK gs j = true) := Lib.hid fun j h => by omega
  have HB0 := Lib.hid (Below.refl w.heap.size w)
  clear hF hn hl hg hs
  go_enter Try.func32, Try.ntmps32
  go_wp2_with fail
  go_loopw [3] (fun i wr => ∃ k : Nat, k ≤ n ∧ i = .int .i64 k ∧ Hid (∀ j, j < k → glOK gs j = true) ∧ Hid (Below w.heap.size w wr)) (fun i _ => n - (intOf i).toNat)
  case atStart => exact ⟨0, Nat.zero_le _, rfl, H0, HB0⟩
  case round =>
    obtain ⟨k, hk, rfl, HK, HBR⟩ := hrel
    by_cases hlt : k < n
    · have hkl : k < gs.length := by rw [← HN.out]; exact hlt
      obtain ⟨b, off, rfl, hb, x0, x1, x2, x3, x4, x5⟩ := (HG.out.below HBR.out).at hkl
      have hok := glOK_at hkl
      have hys := HSZ.out _ (List.getElem_mem hkl)
      obtain ⟨y, hy⟩ : ∃ y, gs[k] = y := ⟨_, rfl⟩
      rw [hy] at x0 x1 x2 x3 x4 x5 hok hys
      have HFA : Hid (glOK gs k = false → F = false) := Lib.hid fun h => HF.out ▸ glyphs_false hkl h
      cases h1 : nameB y.name with
      | false =>
        have HC : Hid (Calls Try.prog 50 #[.string y.name] wr fun e w' => e = .returned (.bool false) ∧ w' = wr) := Lib.hid (h1 ▸ rname_any y.name wr hys)
        have HX := Lib.hid (HFA.out (by rw [hok, h1]; rfl))
        clear h1 hok hys hy hb
        go_wp2_with (first | (go_at_call 50; refine HC.out.mono ?_; rintro e w' ⟨rfl, rfl⟩) | fail)
        go_ret
        exact ⟨ret_bool HX.out.symm, HBR.out⟩
      | true =>
        have HC : Hid (Calls Try.prog 50 #[.string y.name] wr fun e w' => e = .returned (.bool true) ∧ w' = wr) := Lib.hid (h1 ▸ rname_any y.name wr hys)
        cases h2 : metB y with
        | false =>
          have HM : Hid (Calls Try.prog 44 #[.agg #[.string y.name, .int .i64 y.W, .int .i64 y.H, .int .i64 y.D, .int .i64 y.I, .int .i64 y.A]] wr fun e w' => e = .returned (.bool false) ∧ Below wr.heap.size wr w') := Lib.hid (h2 ▸ rmetrics_any y wr)
          have HX := Lib.hid (HFA.out (by rw [hok, h1, h2]; rfl))
          clear h1 h2 hok hys hy hb
          go_wp2_with (first
            | (go_at_call 50; refine HC.out.mono ?_; rintro e w' ⟨rfl, rfl⟩)
            | (go_at_call 44; refine HM.out.mono ?_; rintro e w3 ⟨rfl, hb3⟩
               have HB3 := Lib.hid (below_self HBR.out hb3)
               clear hb3)
            | fail)
          go_ret
          exact ⟨ret_bool HX.out.symm, HB3.out⟩
        | true =>
          have HM : Hid (Calls Try.prog 44 #[.agg #[.string y.name, .int .i64 y.W, .int .i64 y.H, .int .i64 y.D, .int .i64 y.I, .int .i64 y.A]] wr fun e w' => e = .returned (.bool true) ∧ Below wr.heap.size wr w') := Lib.hid (h2 ▸ rmetrics_any y wr)
          by_cases h3 : y.W < 0
          · have HX := Lib.hid (HFA.out (by rw [hok, h1, h2]; simp; intro h; omega))
            clear h1 h2 hok hys hy hb
            go_wp2_with (first
              | (go_at_call 50; refine HC.out.mono ?_; rintro e w' ⟨rfl, rfl⟩)
              | (go_at_call 44; refine HM.out.mono ?_; rintro e w3 ⟨rfl, hb3⟩
                 have HB3 := Lib.hid (below_self HBR.out hb3)
                 have z1 := keep_cell hb3 x1
                 clear hb3)
              | fail)
            go_ret
            exact ⟨ret_bool HX.out.symm, HB3.out⟩
          · have HOK : Hid (glOK gs k = !((gs.take k).any fun x => x.name.toList == y.name.toList)) := Lib.hid (by
              rw [hok, h1, h2, decide_eq_true (show 0 ≤ y.W by omega)]; rfl)
            have HI0 : Hid (∀ j (hj : j < gs.length), j < 0 → (gs[j].name.toList == y.name.toList) = false) := Lib.hid fun j _ h => by omega
            clear h1 h2 hok hys hy hb
            go_wp2_with (first
              | (go_at_call 50; refine HC.out.mono ?_; rintro e w' ⟨rfl, rfl⟩)
              | (go_at_call 44; refine HM.out.mono ?_; rintro e w3 ⟨rfl, hb3⟩
                 have HB3 := Lib.hid (below_self HBR.out hb3)
                 have z0 := keep_cell hb3 x0
                 have z1 := keep_cell hb3 x1
                 clear hb3)
              | fail)
            have HG3 := Lib.hid (HG.out.below HB3.out)
            clear x0 x1 x2 x3 x4 x5
            go_loopw [4] (fun i wx => ∃ j : Nat, j ≤ k ∧ i = .int .i64 j ∧ Hid (∀ j' (hj : j' < gs.length), j' < j → (gs[j'].name.toList == y.name.toList) = false) ∧ Hid (Below w3.heap.size w3 wx)) (fun i _ => k - (intOf i).toNat)
            case atStart => exact ⟨0, Nat.zero_le _, rfl, HI0, Lib.hid (Below.refl _ _)⟩
            case round =>
              obtain ⟨j, hj, rfl, HJ, HBX⟩ := hrel
              by_cases hjk : j < k
              · have hjl : j < gs.length := by omega
                obtain ⟨b2, off2, hA2, hb2, v0, _, _, _, _, _⟩ := (HG3.out.below HBX.out).at hjl
                injection hA2 with hA2
                injection hA2 with e1 e2
                subst e1 e2
                have u0 := keep_cell HBX.out z0
                obtain ⟨x, hx⟩ : ∃ x, gs[j] = x := ⟨_, rfl⟩
                rw [hx] at v0
                cases he : (x.name.toList == y.name.toList) with
                | true =>
                  have HX := Lib.hid (HFA.out (by rw [HOK.out, any_true hjl hjk (by rw [hx]; exact he)]; rfl))
                  clear hx hb2
                  go_wp2_with fail
                  go_quiet (fail)
                  go_wp2
                  go_ret
                  exact ⟨ret_bool HX.out.symm, below_self (below_self HB3.out HBX.out) (below_drewN _ _)⟩
                | false =>
                  have HJ2 : Hid (∀ j' (hj : j' < gs.length), j' < j + 1 → (gs[j'].name.toList == y.name.toList) = false) := Lib.hid fun j' hj' h => by
                    rcases Nat.lt_succ_iff_lt_or_eq.1 h with h' | rfl
                    · exact HJ.out j' hj' h'
                    · rw [hx]; exact he
                  clear hx hb2
                  go_wp2_with fail
                  go_quiet (fail)
                  go_wp2
                  go_roundw
                  case rel => exact ⟨j + 1, by omega, by go_num, HJ2, Lib.hid (below_self HBX.out (below_drewN _ _))⟩
                  case measure => simp [intOf]; omega
              · have hjk2 : j = k := by omega
                have HK2 : Hid (∀ j', j' < k + 1 → glOK gs j' = true) := Lib.hid fun j' h => by
                  rcases Nat.lt_succ_iff_lt_or_eq.1 h with h' | rfl
                  · exact HK.out j' h'
                  · rw [HOK.out, any_false (by omega) fun i hi h => HJ.out i hi (by omega)]; rfl
                obtain rfl : k = j := hjk2.symm
                go_wp2
                go_roundw
                case rel => exact ⟨k + 1, by omega, by go_num, HK2, Lib.hid (below_self HB3.out HBX.out)⟩
                case measure => simp [intOf]; omega
    · have HX : Hid (F = true) := Lib.hid (HF.out ▸ glyphs_true fun j hj => HK.out j (by have := HN.out; omega))
      go_wp2_with fail
      go_ret
      exact ⟨ret_bool HX.out.symm, HBR.out⟩
end Go.Proofs.Ytjhpajdkklklhaa.Fon
