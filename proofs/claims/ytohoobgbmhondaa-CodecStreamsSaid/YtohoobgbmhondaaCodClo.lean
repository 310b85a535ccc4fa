/- The reader's closure that calls itself. (Written by wip/tools/genclo.py.) -/
import Derived.Test.YtohoobgbmhondaaCodList2
namespace Go.Proofs.Ytohoobgbmhondaa.Cod
open Go Go.RowKit

set_option maxRecDepth 100000 in
set_option maxHeartbeats 8000000 in
theorem clo_step (d : Nat) (hd : d ≤ 64) (ih : ∀ e, e + 1 = d → Clo e) : Clo d := by
  intro w R Br Bf l h hl hE
  obtain ⟨N, hN⟩ : ∃ N, w.heap.size = N := ⟨_, rfl⟩
  obtain ⟨Wa, hWa⟩ : ∃ W, W = w.alloc (.cells #[.int .i64 (d : Int)] 3) := ⟨_, rfl⟩
  obtain ⟨W2, hW2⟩ : ∃ W, W = Wa.alloc (.cells #[.int .i64 0, .int .i64 0, .string ⟨#[]⟩, .slice none 0 0] 33) := ⟨_, rfl⟩
  have sa : Wa.heap.size = N + 1 := by rw [hWa]; exact size_new hN _
  have s2 : W2.heap.size = N + 2 := by rw [hW2]; exact size_new sa _
  have hRN : R < N := hN ▸ h.lt
  have ba : Below w.heap.size w Wa := by rw [hWa]; exact below_new _ _
  have bb : Below Wa.heap.size Wa W2 := by rw [hW2]; exact below_new _ _
  have hb : Below w.heap.size w W2 := below_self ba bb
  have HG := Lib.hid (by_below hb (some R))
  have HE := Lib.hid (hE.by_ HG.out)
  have HH := Lib.hid (head_rd_any (h.below hb))
  have q0 : ((w.alloc (.cells #[.int .i64 (d : Int)] 3)).alloc (.cells #[.int .i64 0, .int .i64 0, .string ⟨#[]⟩, .slice none 0 0] 33)).cell? ⟨Br, 0, none⟩ = some (.pointer (some ⟨R, 0, none⟩)) := by have := HE.out.r; rw [hW2, hWa] at this; exact this
  have cd : W2.cell? ⟨N, 0, none⟩ = some (.int .i64 (d : Int)) := old_cell bb (by rw [hWa]; exact new_cell hN _ _ 0 rfl) (by omega)
  have c0 : W2.cell? ⟨N + 1, 0, none⟩ = some (.int .i64 0) := by rw [hW2]; exact new_cell sa _ _ 0 rfl
  have c1 : W2.cell? ⟨N + 1, 1, none⟩ = some (.int .i64 0) := by rw [hW2]; exact new_cell sa _ _ 1 rfl
  have c2 : W2.cell? ⟨N + 1, 2, none⟩ = some (.string ⟨#[]⟩) := by rw [hW2]; exact new_cell sa _ _ 2 rfl
  have c3 : W2.cell? ⟨N + 1, 3, none⟩ = some (.slice none 0 0) := by rw [hW2]; exact new_cell sa _ _ 3 rfl
  have CF : Hid (∀ j, W2.frozen? ⟨N + 1, j, none⟩ = false) := Lib.hid fun j => by rw [hW2]; exact new_frozen sa _ _ j
  have HW : Hid (W2 = ((w.alloc (.cells #[.int .i64 (d : Int)] 3)).alloc (.cells #[.int .i64 0, .int .i64 0, .string ⟨#[]⟩, .slice none 0 0] 33))) := Lib.hid (by rw [hW2, hWa])
  have hRM : R < N + 1 := by omega
  have S2 : Hid (N + 1 < W2.heap.size) := Lib.hid (by omega)
  have SN : Hid (w.heap.size ≤ N + 1) := Lib.hid (by omega)
  have HN := Lib.hid hN
  have IH := Lib.hid ih
  clear h hE hWa hW2 sa s2 ba bb hb ih
  cases hh : rdHead l with
  | none =>
    have HRD : Hid (rd d l = none) := Lib.hid (by cases d with
      | zero => rfl
      | succ d => simp only [rd, hh])
    rw [hh] at HH
    clear hh
    go_enter Try.func37, Try.ntmps37
    go_wp2_with (first
      | (go_at_call 38; rw [← HW.out]; refine HH.out.mono ?_; rintro e w1 ⟨hg, rfl, hRd⟩
         have hbn := below_new w1 (.cells #[.int .i64 0, .int .u64 0] 74)
         have hg2 := by_trans hg (by_below hbn (some R))
         have d0 := by_cell hg2 hRM c0
         have d1 := by_cell hg2 hRM c1
         have d2 := by_cell hg2 hRM c2
         have d3 := by_cell hg2 hRM c3
         have f0 := by_frozen hg2 S2.out hRM (CF.out 0)
         have f1 := by_frozen hg2 S2.out hRM (CF.out 1)
         have f2 := by_frozen hg2 S2.out hRM (CF.out 2)
         have f3 := by_frozen hg2 S2.out hRM (CF.out 3)
         have HF := Lib.hid (val_fail' (by_trans HG.out hg2) SN.out hRM (by obtain ⟨q, hq⟩ := hRd; exact ⟨q, hq.below hbn⟩) d0 d1 d2 d3)
         clear hg hg2 hRd hbn)
      | fail)
    obtain ⟨W4, hW4⟩ : ∃ W4, W4 = ((((w1.alloc (.cells #[.int .i64 0, .int .u64 0] 74)).setCell ⟨N + 1, 0, none⟩ (.int .i64 0)).setCell ⟨N + 1, 1, none⟩ (.int .i64 0)).setCell ⟨N + 1, 2, none⟩ (.string ⟨#[]⟩)).setCell ⟨N + 1, 3, none⟩ (.slice none 0 0) := ⟨_, rfl⟩
    rw [← hW4]
    obtain ⟨⟨k0, k1, k2, k3⟩, hp⟩ := HF.out W4 hW4
    clear hW4
    exact bodyPost_ret (v := .tuple #[.agg #[.int .i64 0, .int .i64 0, .string ⟨#[]⟩, .slice none 0 0], .bool false]) (by simp [results, Try.results37, go_sem, k0, k1, k2, k3]) rfl (by rw [HRD.out]; exact hp)
  | some p =>
    obtain ⟨k, n, r⟩ := p
    obtain ⟨hle, hk3, hn⟩ := head_rd hh
    have hrl : r.length ≤ 10000000 := by have := congrArg List.length hle; rw [List.length_append] at this; omega
    rw [hh] at HH
    have hn2 : (n : Int) ≤ 18446744073709551615 := by omega
    clear hle
    by_cases hd0 : d = 0
    · have HRD : Hid (rd d l = none) := Lib.hid (by subst hd0; rfl)
      have hd1 : (d : Int) < 1 := by omega
      clear hh hd0
      go_enter Try.func37, Try.ntmps37
      go_wp2_with (first
        | (go_at_call 38; rw [← HW.out]; refine HH.out.mono ?_; rintro e w1 ⟨hg, rfl, hRd⟩
           have hbn := below_new w1 (.cells #[.int .i64 (k : Int), .int .u64 (n : Int)] 74)
           have hg2 := by_trans hg (by_below hbn (some R))
           have e0 := by_cell hg2 hRM c0
           have e1 := by_cell hg2 hRM c1
           have e2 := by_cell hg2 hRM c2
           have e3 := by_cell hg2 hRM c3
           have ed := by_cell hg2 hRN cd
           have FF : Hid (∀ j, (w1.alloc (.cells #[.int .i64 (k : Int), .int .u64 (n : Int)] 74)).frozen? ⟨N + 1, j, none⟩ = false) := Lib.hid fun j => by_frozen hg2 S2.out hRM (CF.out j)
           have SX : Hid (N + 1 < (w1.alloc (.cells #[.int .i64 (k : Int), .int .u64 (n : Int)] 74)).heap.size) := Lib.hid (Nat.lt_of_lt_of_le S2.out hg2.size)
           have HEX := Lib.hid (HE.out.by_ hg2)
           have qx : (w1.alloc (.cells #[.int .i64 (k : Int), .int .u64 (n : Int)] 74)).cell? ⟨Br, 0, none⟩ = some (.pointer (some ⟨R, 0, none⟩)) := HEX.out.r
           have HRX := Lib.hid (hRd.below hbn)
           have HGX := Lib.hid (by_trans HG.out hg2)
           have f0 := FF.out 0
           have f1 := FF.out 1
           have f2 := FF.out 2
           have f3 := FF.out 3
           have HF := Lib.hid (val_fail' HGX.out SN.out hRM ⟨_, HRX.out⟩ e0 e1 e2 e3)
           clear hg hg2 hRd hbn)
        | fail)
      obtain ⟨W4, hW4⟩ : ∃ W4, W4 = ((((w1.alloc (.cells #[.int .i64 (k : Int), .int .u64 (n : Int)] 74)).setCell ⟨N + 1, 0, none⟩ (.int .i64 0)).setCell ⟨N + 1, 1, none⟩ (.int .i64 0)).setCell ⟨N + 1, 2, none⟩ (.string ⟨#[]⟩)).setCell ⟨N + 1, 3, none⟩ (.slice none 0 0) := ⟨_, rfl⟩
      rw [← hW4]
      obtain ⟨⟨k0, k1, k2, k3⟩, hp⟩ := HF.out W4 hW4
      clear hW4
      exact bodyPost_ret (v := .tuple #[.agg #[.int .i64 0, .int .i64 0, .string ⟨#[]⟩, .slice none 0 0], .bool false]) (by simp [results, Try.results37, go_sem, k0, k1, k2, k3]) rfl (by rw [HRD.out]; exact hp)
    · obtain ⟨m, hm⟩ : ∃ m, d = m + 1 := ⟨d - 1, by omega⟩
      have hd1 : ¬ (d : Int) < 1 := by omega
      have HC := Lib.hid (IH.out m hm.symm)
      have HDM : Hid ((d : Int) = (m : Int) + 1) := Lib.hid (by omega)
      have HM := Lib.hid hm
      have hm64 : m ≤ 64 := by omega
      clear IH hm hd0
      by_cases hk1 : k = 1
      · subst hk1
        obtain ⟨z, hz⟩ : ∃ z, intg n = z := ⟨_, rfl⟩
        have HRD : Hid (rd d l = some (.node 1 z [] [], r)) := Lib.hid (by rw [HM.out]; simp [rd, hh, hz])
        have HIN : Hid (I64 z) := Lib.hid (by rw [← hz]; unfold intg I64; split <;> omega)
        have hi1 := HIN.out.1
        have hi2 := HIN.out.2
        have HI : Hid (∀ W, Calls Try.prog 39 #[.int .u64 n] W fun e w' => e = .returned (.int .i64 z) ∧ W = w') := Lib.hid fun W => by rw [← hz]; exact integer_any n W hn
        clear hh hz
        go_enter Try.func37, Try.ntmps37
        go_wp2_with (first
          | (go_at_call 38; rw [← HW.out]; refine HH.out.mono ?_; rintro e w1 ⟨hg, rfl, hRd⟩
             have hbn := below_new w1 (.cells #[.int .i64 1, .int .u64 (n : Int)] 74)
             have hg2 := by_trans hg (by_below hbn (some R))
             have e0 := by_cell hg2 hRM c0
             have e1 := by_cell hg2 hRM c1
             have e2 := by_cell hg2 hRM c2
             have e3 := by_cell hg2 hRM c3
             have ed := by_cell hg2 hRN cd
             have FF : Hid (∀ j, (w1.alloc (.cells #[.int .i64 1, .int .u64 (n : Int)] 74)).frozen? ⟨N + 1, j, none⟩ = false) := Lib.hid fun j => by_frozen hg2 S2.out hRM (CF.out j)
             have SX : Hid (N + 1 < (w1.alloc (.cells #[.int .i64 1, .int .u64 (n : Int)] 74)).heap.size) := Lib.hid (Nat.lt_of_lt_of_le S2.out hg2.size)
             have HEX := Lib.hid (HE.out.by_ hg2)
             have qx : (w1.alloc (.cells #[.int .i64 1, .int .u64 (n : Int)] 74)).cell? ⟨Br, 0, none⟩ = some (.pointer (some ⟨R, 0, none⟩)) := HEX.out.r
             have HRX := Lib.hid (hRd.below hbn)
             have HGX := Lib.hid (by_trans HG.out hg2)
             have f0 := FF.out 0
             have f1 := FF.out 1
             have f2 := FF.out 2
             have f3 := FF.out 3
             have HF := Lib.hid (val_made' (t := .node 1 z [] []) (a := 1) (i := z) (sb := ⟨#[]⟩) (A := none) (n := 0) (c := 0) (s := []) (l := []) rfl rfl rfl ⟨by omega, by omega⟩ HIN.out (by simp) (by simp) (.inl rfl) (fun _ => rfl) HGX.out SN.out hRM HRX.out e0 e1 e2 e3)
             clear hg hg2 hRd hbn)
          | (go_at_call 39; refine (HI.out _).mono ?_; rintro e w' ⟨rfl, rfl⟩)
          | fail)
        obtain ⟨W4, hW4⟩ : ∃ W4, W4 = ((((w1.alloc (.cells #[.int .i64 1, .int .u64 (n : Int)] 74)).setCell ⟨N + 1, 0, none⟩ (.int .i64 1)).setCell ⟨N + 1, 1, none⟩ (.int .i64 z)).setCell ⟨N + 1, 2, none⟩ (.string ⟨#[]⟩)).setCell ⟨N + 1, 3, none⟩ (.slice none 0 0) := ⟨_, rfl⟩
        rw [← hW4]
        obtain ⟨⟨k0, k1, k2, k3⟩, hp⟩ := HF.out W4 hW4
        clear hW4
        exact bodyPost_ret (v := .tuple #[.agg #[.int .i64 1, .int .i64 z, .string ⟨#[]⟩, .slice none 0 0], .bool true]) (by simp [results, Try.results37, go_sem, k0, k1, k2, k3]) rfl (by rw [HRD.out]; exact hp)
      · by_cases hk2 : k = 2
        · subst hk2
          obtain ⟨x, hx⟩ : ∃ x : Option (T × List UInt8), (if r.length < n then none else some (T.node 2 0 (r.take n) [], r.drop n)) = x := ⟨_, rfl⟩
          have hrd : rd d l = x := by rw [HM.out, ← hx]; simp [rd, hh]
          clear hh
          cases x with
          | none =>
            have HRD := Lib.hid hrd
            have HX := Lib.hid hx
            clear hrd hx
            go_enter Try.func37, Try.ntmps37
            go_wp2_with (first
              | (go_at_call 38; rw [← HW.out]; refine HH.out.mono ?_; rintro e w1 ⟨hg, rfl, hRd⟩
                 have hbn := below_new w1 (.cells #[.int .i64 2, .int .u64 (n : Int)] 74)
                 have hg2 := by_trans hg (by_below hbn (some R))
                 have e0 := by_cell hg2 hRM c0
                 have e1 := by_cell hg2 hRM c1
                 have e2 := by_cell hg2 hRM c2
                 have e3 := by_cell hg2 hRM c3
                 have ed := by_cell hg2 hRN cd
                 have FF : Hid (∀ j, (w1.alloc (.cells #[.int .i64 2, .int .u64 (n : Int)] 74)).frozen? ⟨N + 1, j, none⟩ = false) := Lib.hid fun j => by_frozen hg2 S2.out hRM (CF.out j)
                 have SX : Hid (N + 1 < (w1.alloc (.cells #[.int .i64 2, .int .u64 (n : Int)] 74)).heap.size) := Lib.hid (Nat.lt_of_lt_of_le S2.out hg2.size)
                 have HEX := Lib.hid (HE.out.by_ hg2)
                 have qx : (w1.alloc (.cells #[.int .i64 2, .int .u64 (n : Int)] 74)).cell? ⟨Br, 0, none⟩ = some (.pointer (some ⟨R, 0, none⟩)) := HEX.out.r
                 have HRX := Lib.hid (hRd.below hbn)
                 have HGX := Lib.hid (by_trans HG.out hg2)
                 have HT := Lib.hid (text_rd (n := n) HRX.out (by omega) (by omega))
                 rw [HX.out] at HT
                 clear hg hg2 hRd hbn)
              | (go_at_call 40; refine HT.out.mono ?_; rintro e w5 ⟨hg5, rfl, hRd5⟩
                 have d0 := by_cell hg5 hRM e0
                 have d1 := by_cell hg5 hRM e1
                 have d2 := by_cell hg5 hRM e2
                 have d3 := by_cell hg5 hRM e3
                 have f0 := by_frozen hg5 SX.out hRM (FF.out 0)
                 have f1 := by_frozen hg5 SX.out hRM (FF.out 1)
                 have f2 := by_frozen hg5 SX.out hRM (FF.out 2)
                 have f3 := by_frozen hg5 SX.out hRM (FF.out 3)
                 have HF := Lib.hid (val_fail' (by_trans HGX.out hg5) SN.out hRM hRd5 d0 d1 d2 d3)
                 clear hg5)
              | fail)
            obtain ⟨W4, hW4⟩ : ∃ W4, W4 = (((w5.setCell ⟨N + 1, 0, none⟩ (.int .i64 0)).setCell ⟨N + 1, 1, none⟩ (.int .i64 0)).setCell ⟨N + 1, 2, none⟩ (.string ⟨#[]⟩)).setCell ⟨N + 1, 3, none⟩ (.slice none 0 0) := ⟨_, rfl⟩
            rw [← hW4]
            obtain ⟨⟨k0, k1, k2, k3⟩, hp⟩ := HF.out W4 hW4
            clear hW4
            exact bodyPost_ret (v := .tuple #[.agg #[.int .i64 0, .int .i64 0, .string ⟨#[]⟩, .slice none 0 0], .bool false]) (by simp [results, Try.results37, go_sem, k0, k1, k2, k3]) rfl (by rw [HRD.out]; exact hp)
          | some p =>
            obtain ⟨t, r'⟩ := p
            have HRD := Lib.hid hrd
            have HX := Lib.hid hx
            clear hrd hx
            go_enter Try.func37, Try.ntmps37
            go_wp2_with (first
              | (go_at_call 38; rw [← HW.out]; refine HH.out.mono ?_; rintro e w1 ⟨hg, rfl, hRd⟩
                 have hbn := below_new w1 (.cells #[.int .i64 2, .int .u64 (n : Int)] 74)
                 have hg2 := by_trans hg (by_below hbn (some R))
                 have e0 := by_cell hg2 hRM c0
                 have e1 := by_cell hg2 hRM c1
                 have e2 := by_cell hg2 hRM c2
                 have e3 := by_cell hg2 hRM c3
                 have ed := by_cell hg2 hRN cd
                 have FF : Hid (∀ j, (w1.alloc (.cells #[.int .i64 2, .int .u64 (n : Int)] 74)).frozen? ⟨N + 1, j, none⟩ = false) := Lib.hid fun j => by_frozen hg2 S2.out hRM (CF.out j)
                 have SX : Hid (N + 1 < (w1.alloc (.cells #[.int .i64 2, .int .u64 (n : Int)] 74)).heap.size) := Lib.hid (Nat.lt_of_lt_of_le S2.out hg2.size)
                 have HEX := Lib.hid (HE.out.by_ hg2)
                 have qx : (w1.alloc (.cells #[.int .i64 2, .int .u64 (n : Int)] 74)).cell? ⟨Br, 0, none⟩ = some (.pointer (some ⟨R, 0, none⟩)) := HEX.out.r
                 have HRX := Lib.hid (hRd.below hbn)
                 have HGX := Lib.hid (by_trans HG.out hg2)
                 have HT := Lib.hid (text_rd (n := n) HRX.out (by omega) (by omega))
                 rw [HX.out] at HT
                 clear hg hg2 hRd hbn)
              | (go_at_call 40; refine HT.out.mono ?_; rintro e w5 ⟨hg5, hRd5, a, i, sb, A, q, c, rfl, hL5⟩
                 have d0 := by_cell hg5 hRM e0
                 have d1 := by_cell hg5 hRM e1
                 have d2 := by_cell hg5 hRM e2
                 have d3 := by_cell hg5 hRM e3
                 have f0 := by_frozen hg5 SX.out hRM (FF.out 0)
                 have f1 := by_frozen hg5 SX.out hRM (FF.out 1)
                 have f2 := by_frozen hg5 SX.out hRM (FF.out 2)
                 have f3 := by_frozen hg5 SX.out hRM (FF.out 3)
                 have HF := Lib.hid (val_pass hL5 SX.out (by_trans HGX.out hg5) SN.out hRM hRd5 d0 d1 d2 d3)
                 clear hg5)
              | fail)
            obtain ⟨W4, hW4⟩ : ∃ W4, W4 = (((w5.setCell ⟨N + 1, 0, none⟩ (.int .i64 a)).setCell ⟨N + 1, 1, none⟩ (.int .i64 i)).setCell ⟨N + 1, 2, none⟩ (.string sb)).setCell ⟨N + 1, 3, none⟩ (.slice A q c) := ⟨_, rfl⟩
            rw [← hW4]
            obtain ⟨⟨k0, k1, k2, k3⟩, hp⟩ := HF.out W4 hW4
            clear hW4
            exact bodyPost_ret (v := .tuple #[.agg #[.int .i64 a, .int .i64 i, .string sb, .slice A q c], .bool true]) (by simp [results, Try.results37, go_sem, k0, k1, k2, k3]) rfl (by rw [HRD.out]; exact hp)
        · by_cases hk3 : k = 3
          · subst hk3
            obtain ⟨x, hx⟩ : ∃ x : Option (T × List UInt8), (toList3 (rdN (rd m) n r)) = x := ⟨_, rfl⟩
            have hrd : rd d l = x := by rw [HM.out, ← hx]; simp only [rd, hh]; cases rdN (rd m) n r <;> simp [toList3]
            clear hh
            cases x with
            | none =>
              have HRD := Lib.hid hrd
              have HX := Lib.hid hx
              clear hrd hx
              go_enter Try.func37, Try.ntmps37
              go_wp2_with (first
                | (go_at_call 38; rw [← HW.out]; refine HH.out.mono ?_; rintro e w1 ⟨hg, rfl, hRd⟩
                   have hbn := below_new w1 (.cells #[.int .i64 3, .int .u64 (n : Int)] 74)
                   have hg2 := by_trans hg (by_below hbn (some R))
                   have e0 := by_cell hg2 hRM c0
                   have e1 := by_cell hg2 hRM c1
                   have e2 := by_cell hg2 hRM c2
                   have e3 := by_cell hg2 hRM c3
                   have ed := by_cell hg2 hRN cd
                   have FF : Hid (∀ j, (w1.alloc (.cells #[.int .i64 3, .int .u64 (n : Int)] 74)).frozen? ⟨N + 1, j, none⟩ = false) := Lib.hid fun j => by_frozen hg2 S2.out hRM (CF.out j)
                   have SX : Hid (N + 1 < (w1.alloc (.cells #[.int .i64 3, .int .u64 (n : Int)] 74)).heap.size) := Lib.hid (Nat.lt_of_lt_of_le S2.out hg2.size)
                   have HEX := Lib.hid (HE.out.by_ hg2)
                   have qx : (w1.alloc (.cells #[.int .i64 3, .int .u64 (n : Int)] 74)).cell? ⟨Br, 0, none⟩ = some (.pointer (some ⟨R, 0, none⟩)) := HEX.out.r
                   have HRX := Lib.hid (hRd.below hbn)
                   have HGX := Lib.hid (by_trans HG.out hg2)
                   have HT := Lib.hid (list_any (n := n) (D := N) HC.out HRX.out hrl HEX.out (by rw [ed, HDM.out]) hRN hm64 hn)
                   rw [HX.out] at HT
                   clear hg hg2 hRd hbn)
                | (go_at_call 41; refine HT.out.mono ?_; rintro e w5 ⟨hg5, rfl, hRd5⟩
                   have d0 := by_cell hg5 hRM e0
                   have d1 := by_cell hg5 hRM e1
                   have d2 := by_cell hg5 hRM e2
                   have d3 := by_cell hg5 hRM e3
                   have f0 := by_frozen hg5 SX.out hRM (FF.out 0)
                   have f1 := by_frozen hg5 SX.out hRM (FF.out 1)
                   have f2 := by_frozen hg5 SX.out hRM (FF.out 2)
                   have f3 := by_frozen hg5 SX.out hRM (FF.out 3)
                   have HF := Lib.hid (val_fail' (by_trans HGX.out hg5) SN.out hRM hRd5 d0 d1 d2 d3)
                   clear hg5)
                | fail)
              obtain ⟨W4, hW4⟩ : ∃ W4, W4 = (((w5.setCell ⟨N + 1, 0, none⟩ (.int .i64 0)).setCell ⟨N + 1, 1, none⟩ (.int .i64 0)).setCell ⟨N + 1, 2, none⟩ (.string ⟨#[]⟩)).setCell ⟨N + 1, 3, none⟩ (.slice none 0 0) := ⟨_, rfl⟩
              rw [← hW4]
              obtain ⟨⟨k0, k1, k2, k3⟩, hp⟩ := HF.out W4 hW4
              clear hW4
              exact bodyPost_ret (v := .tuple #[.agg #[.int .i64 0, .int .i64 0, .string ⟨#[]⟩, .slice none 0 0], .bool false]) (by simp [results, Try.results37, go_sem, k0, k1, k2, k3]) rfl (by rw [HRD.out]; exact hp)
            | some p =>
              obtain ⟨t, r'⟩ := p
              have HRD := Lib.hid hrd
              have HX := Lib.hid hx
              clear hrd hx
              go_enter Try.func37, Try.ntmps37
              go_wp2_with (first
                | (go_at_call 38; rw [← HW.out]; refine HH.out.mono ?_; rintro e w1 ⟨hg, rfl, hRd⟩
                   have hbn := below_new w1 (.cells #[.int .i64 3, .int .u64 (n : Int)] 74)
                   have hg2 := by_trans hg (by_below hbn (some R))
                   have e0 := by_cell hg2 hRM c0
                   have e1 := by_cell hg2 hRM c1
                   have e2 := by_cell hg2 hRM c2
                   have e3 := by_cell hg2 hRM c3
                   have ed := by_cell hg2 hRN cd
                   have FF : Hid (∀ j, (w1.alloc (.cells #[.int .i64 3, .int .u64 (n : Int)] 74)).frozen? ⟨N + 1, j, none⟩ = false) := Lib.hid fun j => by_frozen hg2 S2.out hRM (CF.out j)
                   have SX : Hid (N + 1 < (w1.alloc (.cells #[.int .i64 3, .int .u64 (n : Int)] 74)).heap.size) := Lib.hid (Nat.lt_of_lt_of_le S2.out hg2.size)
                   have HEX := Lib.hid (HE.out.by_ hg2)
                   have qx : (w1.alloc (.cells #[.int .i64 3, .int .u64 (n : Int)] 74)).cell? ⟨Br, 0, none⟩ = some (.pointer (some ⟨R, 0, none⟩)) := HEX.out.r
                   have HRX := Lib.hid (hRd.below hbn)
                   have HGX := Lib.hid (by_trans HG.out hg2)
                   have HT := Lib.hid (list_any (n := n) (D := N) HC.out HRX.out hrl HEX.out (by rw [ed, HDM.out]) hRN hm64 hn)
                   rw [HX.out] at HT
                   clear hg hg2 hRd hbn)
                | (go_at_call 41; refine HT.out.mono ?_; rintro e w5 ⟨hg5, hRd5, a, i, sb, A, q, c, rfl, hL5⟩
                   have d0 := by_cell hg5 hRM e0
                   have d1 := by_cell hg5 hRM e1
                   have d2 := by_cell hg5 hRM e2
                   have d3 := by_cell hg5 hRM e3
                   have f0 := by_frozen hg5 SX.out hRM (FF.out 0)
                   have f1 := by_frozen hg5 SX.out hRM (FF.out 1)
                   have f2 := by_frozen hg5 SX.out hRM (FF.out 2)
                   have f3 := by_frozen hg5 SX.out hRM (FF.out 3)
                   have HF := Lib.hid (val_pass hL5 SX.out (by_trans HGX.out hg5) SN.out hRM hRd5 d0 d1 d2 d3)
                   clear hg5)
                | fail)
              obtain ⟨W4, hW4⟩ : ∃ W4, W4 = (((w5.setCell ⟨N + 1, 0, none⟩ (.int .i64 a)).setCell ⟨N + 1, 1, none⟩ (.int .i64 i)).setCell ⟨N + 1, 2, none⟩ (.string sb)).setCell ⟨N + 1, 3, none⟩ (.slice A q c) := ⟨_, rfl⟩
              rw [← hW4]
              obtain ⟨⟨k0, k1, k2, k3⟩, hp⟩ := HF.out W4 hW4
              clear hW4
              exact bodyPost_ret (v := .tuple #[.agg #[.int .i64 a, .int .i64 i, .string sb, .slice A q c], .bool true]) (by simp [results, Try.results37, go_sem, k0, k1, k2, k3]) rfl (by rw [HRD.out]; exact hp)
          · have hk0 : k = 0 := by omega
            subst hk0
            have HRD : Hid (rd d l = none) := Lib.hid (by rw [HM.out]; simp [rd, hh])
            clear hh
            go_enter Try.func37, Try.ntmps37
            go_wp2_with (first
              | (go_at_call 38; rw [← HW.out]; refine HH.out.mono ?_; rintro e w1 ⟨hg, rfl, hRd⟩
                 have hbn := below_new w1 (.cells #[.int .i64 0, .int .u64 (n : Int)] 74)
                 have hg2 := by_trans hg (by_below hbn (some R))
                 have e0 := by_cell hg2 hRM c0
                 have e1 := by_cell hg2 hRM c1
                 have e2 := by_cell hg2 hRM c2
                 have e3 := by_cell hg2 hRM c3
                 have ed := by_cell hg2 hRN cd
                 have FF : Hid (∀ j, (w1.alloc (.cells #[.int .i64 0, .int .u64 (n : Int)] 74)).frozen? ⟨N + 1, j, none⟩ = false) := Lib.hid fun j => by_frozen hg2 S2.out hRM (CF.out j)
                 have SX : Hid (N + 1 < (w1.alloc (.cells #[.int .i64 0, .int .u64 (n : Int)] 74)).heap.size) := Lib.hid (Nat.lt_of_lt_of_le S2.out hg2.size)
                 have HEX := Lib.hid (HE.out.by_ hg2)
                 have qx : (w1.alloc (.cells #[.int .i64 0, .int .u64 (n : Int)] 74)).cell? ⟨Br, 0, none⟩ = some (.pointer (some ⟨R, 0, none⟩)) := HEX.out.r
                 have HRX := Lib.hid (hRd.below hbn)
                 have HGX := Lib.hid (by_trans HG.out hg2)
                 have f0 := FF.out 0
                 have f1 := FF.out 1
                 have f2 := FF.out 2
                 have f3 := FF.out 3
                 have HF := Lib.hid (val_fail' HGX.out SN.out hRM ⟨_, HRX.out⟩ e0 e1 e2 e3)
                 clear hg hg2 hRd hbn)
              | fail)
            obtain ⟨W4, hW4⟩ : ∃ W4, W4 = ((((w1.alloc (.cells #[.int .i64 0, .int .u64 (n : Int)] 74)).setCell ⟨N + 1, 0, none⟩ (.int .i64 0)).setCell ⟨N + 1, 1, none⟩ (.int .i64 0)).setCell ⟨N + 1, 2, none⟩ (.string ⟨#[]⟩)).setCell ⟨N + 1, 3, none⟩ (.slice none 0 0) := ⟨_, rfl⟩
            rw [← hW4]
            obtain ⟨⟨k0, k1, k2, k3⟩, hp⟩ := HF.out W4 hW4
            clear hW4
            exact bodyPost_ret (v := .tuple #[.agg #[.int .i64 0, .int .i64 0, .string ⟨#[]⟩, .slice none 0 0], .bool false]) (by simp [results, Try.results37, go_sem, k0, k1, k2, k3]) rfl (by rw [HRD.out]; exact hp)
theorem clo_all : ∀ (d : Nat), d ≤ 64 → Clo d
  | 0, h => clo_step 0 h (fun e he => by omega)
  | d + 1, h => clo_step (d + 1) h (fun e he => by obtain rfl : e = d := by omega
                                                   exact clo_all e (by omega))
end Go.Proofs.Ytohoobgbmhondaa.Cod
