/- The reference of layer 5: Params. (Written by wip/tools/genparams.py.) -/
import Derived.Test.YtjhpajdkklklhaaFonFew
namespace Go.Proofs.Ytjhpajdkklklhaa.Fon
open Go Go.RowKit By

set_option maxRecDepth 100000 in
set_option maxHeartbeats 4000000 in
theorem rparams_any {p0 p1 p2 p3 p4 p5 p6 p7 p8 p9 p10 p11 p12 p13 p14 p15 p16 p17 p18 p19 : Int} (w : World) :
    Calls Try.prog 31 #[.agg #[.int .i64 p0, .int .i64 p1, .int .i64 p2, .int .i64 p3, .int .i64 p4, .int .i64 p5, .int .i64 p6, .int .i64 p7, .int .i64 p8, .int .i64 p9, .int .i64 p10, .int .i64 p11, .int .i64 p12, .int .i64 p13, .int .i64 p14, .int .i64 p15, .int .i64 p16, .int .i64 p17, .int .i64 p18, .int .i64 p19]] w fun e w' => e = .returned (.bool (paramsB [p0, p1, p2, p3, p4, p5, p6, p7, p8, p9, p10, p11, p12, p13, p14, p15, p16, p17, p18, p19])) ∧ Below w.heap.size w w' := by
  obtain ⟨F, hF⟩ : ∃ F, paramsB [p0, p1, p2, p3, p4, p5, p6, p7, p8, p9, p10, p11, p12, p13, p14, p15, p16, p17, p18, p19] = F := ⟨_, rfl⟩
  have HF : Hid ((([p0, p1, p2, p3, p4, p5, p6, p7, p8, p9, p10, p11, p12, p13, p14, p18, p19] : List Int).all (fun n => within n 0 20000) && (within p15 1 100 && within p16 1 100 && within p17 1 100)) = F) := Lib.hid (by rw [← hF]; unfold paramsB; simp [Bool.and_assoc])
  obtain ⟨ms, hms⟩ : ∃ ms, ([p0, p1, p2, p3, p4, p5, p6, p7, p8, p9, p10, p11, p12, p13, p14, p18, p19] : List Int) = ms := ⟨_, rfl⟩
  have hml : ms.length = 17 := by rw [← hms]; rfl
  rw [hF]
  rw [hms] at HF
  have H0 : Hid ((ms.take 0).all (fun n => within n 0 20000) = true) := Lib.hid (by simp)
  obtain ⟨N, hN⟩ : ∃ N, w.heap.size = N := ⟨_, rfl⟩
  obtain ⟨Wa, hWa⟩ : ∃ W', W' = w.alloc (.cells #[.int .i64 p0, .int .i64 p1, .int .i64 p2, .int .i64 p3, .int .i64 p4, .int .i64 p5, .int .i64 p6, .int .i64 p7, .int .i64 p8, .int .i64 p9, .int .i64 p10, .int .i64 p11, .int .i64 p12, .int .i64 p13, .int .i64 p14, .int .i64 p15, .int .i64 p16, .int .i64 p17, .int .i64 p18, .int .i64 p19] 25) := ⟨_, rfl⟩
  obtain ⟨W1, hW1⟩ : ∃ W', W' = Wa.alloc (.cells #[.int .i64 p0, .int .i64 p1, .int .i64 p2, .int .i64 p3, .int .i64 p4, .int .i64 p5, .int .i64 p6, .int .i64 p7, .int .i64 p8, .int .i64 p9, .int .i64 p10, .int .i64 p11, .int .i64 p12, .int .i64 p13, .int .i64 p14, .int .i64 p18, .int .i64 p19] 3) := ⟨_, rfl⟩
  have sa : Wa.heap.size = N + 1 := by rw [hWa]; exact size_new hN _
  have ba : Below w.heap.size w Wa := by rw [hWa]; exact below_new _ _
  have bb : Below Wa.heap.size Wa W1 := by rw [hW1]; exact below_new _ _
  have c15 := keep_cell bb (show Wa.cell? ⟨N, 15, none⟩ = some (.int .i64 p15) by rw [hWa]; exact new_cell hN _ _ 15 rfl)
  have c16 := keep_cell bb (show Wa.cell? ⟨N, 16, none⟩ = some (.int .i64 p16) by rw [hWa]; exact new_cell hN _ _ 16 rfl)
  have c17 := keep_cell bb (show Wa.cell? ⟨N, 17, none⟩ = some (.int .i64 p17) by rw [hWa]; exact new_cell hN _ _ 17 rfl)
  have HC : Hid (∀ k (h : k < ms.length), W1.cell? ⟨N + 1, k, none⟩ = some (.int .i64 ms[k])) := Lib.hid fun k h => by
    subst hms
    rw [hW1]
    refine new_cell sa _ _ _ ?_
    have hk : k < 17 := by omega
    have : ([.int .i64 p0, .int .i64 p1, .int .i64 p2, .int .i64 p3, .int .i64 p4, .int .i64 p5, .int .i64 p6, .int .i64 p7, .int .i64 p8, .int .i64 p9, .int .i64 p10, .int .i64 p11, .int .i64 p12, .int .i64 p13, .int .i64 p14, .int .i64 p18, .int .i64 p19] : List Value) = ([p0, p1, p2, p3, p4, p5, p6, p7, p8, p9, p10, p11, p12, p13, p14, p18, p19] : List Int).map (Value.int .i64) := rfl
    rw [List.getElem?_toArray, this, List.getElem?_map, List.getElem?_eq_getElem h]; rfl
  have HB := Lib.hid (below_self ba bb)
  have HW : Hid (W1 = (w.alloc (.cells #[.int .i64 p0, .int .i64 p1, .int .i64 p2, .int .i64 p3, .int .i64 p4, .int .i64 p5, .int .i64 p6, .int .i64 p7, .int .i64 p8, .int .i64 p9, .int .i64 p10, .int .i64 p11, .int .i64 p12, .int .i64 p13, .int .i64 p14, .int .i64 p15, .int .i64 p16, .int .i64 p17, .int .i64 p18, .int .i64 p19] 25)).alloc (.cells #[.int .i64 p0, .int .i64 p1, .int .i64 p2, .int .i64 p3, .int .i64 p4, .int .i64 p5, .int .i64 p6, .int .i64 p7, .int .i64 p8, .int .i64 p9, .int .i64 p10, .int .i64 p11, .int .i64 p12, .int .i64 p13, .int .i64 p14, .int .i64 p18, .int .i64 p19] 3)) := Lib.hid (by rw [hW1, hWa])
  have HML := Lib.hid hml
  have WI : Hid (∀ (x a b : Int) (r : Bool) (w : World), within x a b = r → Calls Try.prog 43 #[.int .i64 x, .int .i64 a, .int .i64 b] w fun e w' => e = .returned (.bool r) ∧ w' = w) := Lib.hid fun x a b r w h => h ▸ rwithin_any x a b w
  clear sa ba bb hWa hW1 hms hml hF
  go_enter Try.func31, Try.ntmps31
  go_wp2_with fail
  rw [← HW.out]
  go_loop [4] (fun i => ∃ k : Nat, k ≤ 17 ∧ i = .int .i64 k ∧ Hid ((ms.take k).all (fun n => within n 0 20000) = true)) (fun i => 17 - (intOf i).toNat)
  case atStart => exact ⟨0, by omega, rfl, H0⟩
  case round =>
    obtain ⟨k, hk, rfl, HK⟩ := hrel
    by_cases hlt : k < 17
    · have hkm : k < ms.length := by rw [HML.out]; exact hlt
      have hck := HC.out k hkm
      obtain ⟨x, hx⟩ : ∃ x, ms[k] = x := ⟨_, rfl⟩
      rw [hx] at hck
      cases hv : within x 0 20000 with
      | false =>
        have HV := Lib.hid (WI.out x 0 20000 false W1 hv)
        have HX : Hid (F = false) := Lib.hid (by
          have : ms.all (fun n => within n 0 20000) = false := by
            rw [List.all_eq_false]
            exact ⟨x, hx ▸ List.getElem_mem hkm, by rw [hv]; decide⟩
          rw [← HF.out, this]; rfl)
        clear hv hx
        go_wp2_with (first | (go_at_call 43; refine HV.out.mono ?_; rintro e w' ⟨rfl, rfl⟩) | fail)
        go_ret
        exact ⟨ret_bool HX.out.symm, hN ▸ HB.out⟩
      | true =>
        have HV := Lib.hid (WI.out x 0 20000 true W1 hv)
        have HX : Hid ((ms.take (k + 1)).all (fun n => within n 0 20000) = true) := Lib.hid (by
          rw [List.take_succ_eq_append_getElem hkm, List.all_append, HK.out, hx]
          simp [hv])
        clear hv hx
        go_wp2_with (first | (go_at_call 43; refine HV.out.mono ?_; rintro e w' ⟨rfl, rfl⟩) | fail)
        go_round
        case rel => exact ⟨k + 1, by omega, by go_num, HX⟩
        case measure => simp [intOf]; omega
    · have HF2 : Hid ((within p15 1 100 && within p16 1 100 && within p17 1 100) = F) := Lib.hid (by
        have := HK.out
        rw [List.take_of_length_le (by rw [HML.out]; omega)] at this
        rw [← HF.out, this, Bool.true_and])
      cases h15 : within p15 1 100 with
      | false =>
        have HV := Lib.hid (WI.out p15 1 100 false W1 h15)
        have HX : Hid (F = false) := Lib.hid (by rw [← HF2.out, h15]; rfl)
        clear h15
        go_wp2_with (first | (go_at_call 43; refine HV.out.mono ?_; rintro e w' ⟨rfl, rfl⟩) | fail)
        go_ret
        exact ⟨ret_bool HX.out.symm, hN ▸ HB.out⟩
      | true =>
        have HV := Lib.hid (WI.out p15 1 100 true W1 h15)
        cases h16 : within p16 1 100 with
        | false =>
          have HV2 := Lib.hid (WI.out p16 1 100 false W1 h16)
          have HX : Hid (F = false) := Lib.hid (by rw [← HF2.out, h15, h16]; rfl)
          clear h15 h16
          go_wp2_with (first
            | (go_at_call 43; first | (with_reducible refine HV.out.mono ?_) | (with_reducible refine HV2.out.mono ?_) | fail
               rintro e w' ⟨rfl, rfl⟩)
            | fail)
          go_ret
          exact ⟨ret_bool HX.out.symm, hN ▸ HB.out⟩
        | true =>
          have HV2 := Lib.hid (WI.out p16 1 100 true W1 h16)
          obtain ⟨r, hr⟩ : ∃ r, within p17 1 100 = r := ⟨_, rfl⟩
          have HV3 := Lib.hid (WI.out p17 1 100 r W1 hr)
          have HX : Hid (F = r) := Lib.hid (by rw [← HF2.out, h15, h16, hr]; rfl)
          clear h15 h16 hr
          go_wp2_with (first
            | (go_at_call 43; first | (with_reducible refine HV.out.mono ?_) | (with_reducible refine HV2.out.mono ?_) | (with_reducible refine HV3.out.mono ?_) | fail
               rintro e w' ⟨rfl, rfl⟩)
            | fail)
          go_ret
          exact ⟨ret_bool HX.out.symm, hN ▸ HB.out⟩
end Go.Proofs.Ytjhpajdkklklhaa.Fon
