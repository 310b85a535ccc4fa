import Derived.Test.YtggiljlndenjoaaDoorRefStrip
namespace Go.Proofs.YtggiljlndenjoaaDoor.RatM
open Go Go.RowKit Len
def strLen : Value → Nat
  | .string s => s.size
  | _ => 0
set_option maxHeartbeats 4000000 in
set_option maxRecDepth 100000 in
theorem refparse_dec (s : ByteArray) (w : World) (h : s.size ≤ 40) (hd : decB s.data.toList = true) :
    Calls Tryd.prog 9 #[.string s] w (Ret (pv s.data.toList) w) := by
  have hD : Hid (∀ w : World, Calls Tryd.prog 31 #[.string s] w fun e w' => e = .returned (.bool true) ∧ w = w') := Lib.hid fun w => by have := decimal_any s w (by omega); rwa [hd] at this
  have hpos : 0 < s.size := by
    cases hs : s.data.toList with
    | nil => rw [hs] at hd; exact absurd hd (by decide)
    | cons c r => have := congrArg List.length hs; simp at this; omega
  have HD := Lib.hid hd
  clear hd
  obtain ⟨R, hR⟩ : ∃ R, pv s.data.toList = R := ⟨_, rfl⟩
  rw [hR]
  have HR := Lib.hid hR
  clear hR
  go_enter Tryd.func9, Tryd.ntmps9
  go_wp2_with fail
  refine (hD.out _).mono ?_
  rintro e w1 ⟨rfl, rfl⟩
  clear hD
  go_wp2_with fail
  go_loop [0] (fun v => ∃ u : ByteArray, v = .string u ∧ 0 < u.size ∧ u.size ≤ 40 ∧ Hid (decB u.data.toList = true) ∧ Hid (pv u.data.toList = R)) (fun v => strLen v)
  case atStart => exact ⟨s, rfl, hpos, h, HD, HR⟩
  case round =>
    clear hpos h HD HR
    obtain ⟨u, rfl, hpos, hle, HD, HR⟩ := hrel
    by_cases h1 : 1 < u.size
    · by_cases ha : u[0] = 48
      · by_cases hb : u[1] = 46
        · have HX : Hid (Lead u.data.toList) := Lib.hid (lead_pt HD.out (by simpa using h1) (by rw [← hb]; rfl))
          have h2 : ((u[0].toNat : Int) == 48) = true := by rw [ha]; rfl
          have h3 : ((u[1].toNat : Int) == 46) = true := byte_pt hb
          clear ha hb
          by_cases hi : 0 ≤ Lib.index u.data.toList [46]
          · obtain ⟨k, hk, e⟩ := index_at u.data.toList hi
            have hks : k < u.size := by
              have := congrArg List.length e
              simp at this
              omega
            have hcut : Lib.cut u.data.toList [46] = (u.data.toList.take k, u.data.toList.drop (k + 1), true) := by unfold Lib.cut; rw [if_pos hi, hk]; simp
            obtain ⟨W, hW⟩ : ∃ W, u.extract 0 k = W := ⟨_, rfl⟩
            obtain ⟨F, hF⟩ : ∃ F, u.extract (k + 1) u.size = F := ⟨_, rfl⟩
            have hWd : W.data.toList = u.data.toList.take k := by rw [← hW, ext_take]
            have hFd : F.data.toList = u.data.toList.drop (k + 1) := by rw [← hF, ext_drop]
            have hWs : W.data.toList.length = W.size := by simp
            have HLd : Hid (10 < W.size → 2147483647 < num W.data.toList) := Lib.hid fun h => by have := HX.out; unfold Lead at this; rw [hcut, ← hWd] at this; exact this (by simpa using h)
            have hdd := HD.out
            unfold decB at hdd
            rw [hcut, ← hWd, ← hFd] at hdd
            simp at hdd
            have hfr := digB_all (decB_front HD.out)
            rw [hcut, ← hWd] at hfr
            have HWd : Hid (W.data.toList.all isD = true) := Lib.hid hfr
            have HF : Hid (F.data.toList.all isD = true) := Lib.hid (digB_all hdd.2)
            have HV : Hid (valZ W.data.toList F.data.toList = R) := Lib.hid (by have := HR.out; unfold pv at this; rw [hcut, ← hWd, ← hFd] at this; exact this)
            have hFs : F.size ≤ 40 := by rw [← hF]; simp; omega
            have hWs2 : W.size ≤ 40 := by rw [← hW]; simp; omega
            have hW0 : 0 < W.size := by have := digB_ne hdd.1; rw [← hWs]; exact List.length_pos_iff.2 this
            have hp : Hid (∀ w : World, Calls Tryd.prog 32 #[.string u] w fun e w' => e = .returned (.int .i64 (k : Nat)) ∧ w = w') := Lib.hid fun w => by have := point_any u w (by omega); rw [hk] at this; exact this
            clear hk hcut hi e HX HD HR hWd hFd hWs hdd hfr
            go_wp2_with fail
            refine (hp.out _).mono ?_
            rintro e w1 ⟨rfl, rfl⟩
            clear hp
            have q1 : IntKind.i64.wrap ((k : Int) + 1) = (k : Int) + 1 := IntWalk.i64_in _ (by omega)
            have q2 : (0 : Int) ≤ (k : Int) := by omega
            have q3 : (k : Int) ≤ (u.size : Int) := by omega
            have q4 : (0 : Int) ≤ (k : Int) + 1 := by omega
            have q5 : (k : Int) + 1 ≤ (u.size : Int) := by omega
            have q6 : ((k : Int) + 1).toNat = k + 1 := by omega
            go_wp2_with fail
            go_quiet (fail)
            clear q1 q2 q3 q4 q5 q6 hW hF
            try clear h1
            try clear h2
            try clear h3
            go_wp2_with fail
            go_loop [5] (fun v => ∃ f : ByteArray, v = .string f ∧ f.size ≤ 40 ∧ Hid (f.data.toList.all isD = true) ∧ Hid (valZ W.data.toList f.data.toList = R)) (fun v => strLen v)
            case atStart => exact ⟨_, rfl, hFs, HF, HV⟩
            case round =>
              clear HF HV hFs
              obtain ⟨f, rfl, hfl, HF, HV⟩ := hrel
              by_cases hp : 0 < f.size
              · obtain ⟨x, hx⟩ : ∃ x, f[f.size - 1] = x := ⟨_, rfl⟩
                by_cases hz : x = 48
                · have hb : ((f[f.size - 1].toNat : Int) == 48) = true := by rw [hx, hz]; rfl
                  obtain ⟨f', hf'⟩ : ∃ f', f.extract 0 (f.size - 1) = f' := ⟨_, rfl⟩
                  have hfs : f'.size = f.size - 1 := by rw [← hf']; simp
                  have hst : Hid (f'.data.toList.all isD = true ∧ valZ W.data.toList f'.data.toList = R) := Lib.hid (by
                    have e1 := split_at f (f.size - 1) (by omega)
                    rw [List.drop_eq_nil_of_le (by simp; omega), hx, hz, ← ext_take, hf'] at e1
                    have h1 := HF.out
                    have h2 := HV.out
                    rw [e1] at h1 h2
                    rw [val_zero] at h2
                    rw [List.all_append, Bool.and_eq_true] at h1
                    exact ⟨h1.1, h2⟩)
                  clear HF HV hx hz
                  go_wp2_with fail
                  go_round
                  case rel => exact ⟨f', rfl, by omega, Lib.hid hst.out.1, Lib.hid hst.out.2⟩
                  case measure => simp [strLen]; omega
                · have hb : ((f[f.size - 1].toNat : Int) == 48) = false := by
                    rw [hx, beq_eq_false_iff_ne]; intro e
                    exact hz (UInt8.toNat_inj.1 (show x.toNat = (48 : UInt8).toNat by show x.toNat = 48; omega))
                  have HN : Hid (∀ h : 0 < f.data.toList.length, f.data.toList[f.data.toList.length - 1] ≠ 48) := Lib.hid fun h => by
                    have e : f.data.toList[f.data.toList.length - 1] = x := by rw [← hx]; simp; rfl
                    rw [e]; exact hz
                  clear hx hz
                  by_cases h10 : 10 < W.size
                  · have fin : Hid (R = (0, 0, 2)) := Lib.hid (by rw [← HV.out]; exact val_wide HF.out (HLd.out h10))
                    go_wp2_with fail
                    all_goals exact bodyPost_ret (v := .tuple #[.agg #[.int .i64 0, .int .i64 0], .int .i64 2]) (by simp [results, Tryd.results9, go_sem]) rfl (ret_of fin.out (by first | exact (Below.refl _ _).alloc (Nat.le_refl _) _ | exact ((Below.refl _ _).alloc (Nat.le_refl _) _).drew | exact below_two _ | exact below_drewN ((Below.refl _ _).alloc (Nat.le_refl _) _) _))
                  · by_cases h31 : 31 < f.size
                    · have fin : Hid (R = (0, 0, 2)) := Lib.hid (by
                        rw [← HV.out]
                        have hl : f.data.toList.length = f.size := by simp
                        exact val_long (by omega) HF.out (HN.out (by omega)))
                      go_wp2_with fail
                      all_goals exact bodyPost_ret (v := .tuple #[.agg #[.int .i64 0, .int .i64 0], .int .i64 2]) (by simp [results, Tryd.results9, go_sem]) rfl (ret_of fin.out (by first | exact (Below.refl _ _).alloc (Nat.le_refl _) _ | exact ((Below.refl _ _).alloc (Nat.le_refl _) _).drew | exact below_two _ | exact below_drewN ((Below.refl _ _).alloc (Nat.le_refl _) _) _))
                    · have hred : Hid (∀ w : World, Calls Tryd.prog 33 #[.string (W ++ f), .int .i64 (f.size : Nat)] w (Ret R w)) := Lib.hid fun w => by
                        have hsz : (W ++ f).size = W.size + f.size := by simp
                        have hda : (W ++ f).data.toList = W.data.toList ++ f.data.toList := by simp
                        have := reduced_any (W ++ f) f.size w (by omega) (by omega) (by omega) (Lib.hid (by rw [hda, List.all_append, HWd.out, HF.out]; rfl))
                        rw [hda] at this
                        have e := HV.out
                        unfold valZ at e
                        rw [show f.data.toList.length = f.size by simp] at e
                        rwa [e] at this
                      clear HV HN HF HLd HWd
                      go_wp2_with fail
                      refine (hred.out _).mono ?_
                      rintro e w2 ⟨rfl, hb2⟩
                      obtain ⟨hc2, hf2⟩ := bcell hb2
                      go_wp2_with fail
                      exact bodyPost_ret (v := .tuple #[.agg #[.int .i64 R.1, .int .i64 R.2.1], .int .i64 R.2.2]) (by simp [results, Tryd.results9, go_sem, hc2]) rfl ⟨rfl, by first | exact below_set hb2 | exact below_start hb2 | exact (below_drewN ((Below.refl _ _).alloc (Nat.le_refl _) _) _).trans (hb2.mono (by simp)) | exact ((below_drewN ((Below.refl _ _).alloc (Nat.le_refl _) _) _).trans (hb2.mono (by simp))).setCell (by simp) _ | exact (((below_drewN ((Below.refl _ _).alloc (Nat.le_refl _) _) _).trans (hb2.mono (by simp))).setCell (by simp) _).setCell (by simp) _⟩
              · have HN : Hid (∀ h : 0 < f.data.toList.length, f.data.toList[f.data.toList.length - 1] ≠ 48) := Lib.hid fun h => by
                  have hl : f.data.toList.length = f.size := by simp
                  omega
                by_cases h10 : 10 < W.size
                · have fin : Hid (R = (0, 0, 2)) := Lib.hid (by rw [← HV.out]; exact val_wide HF.out (HLd.out h10))
                  go_wp2_with fail
                  all_goals exact bodyPost_ret (v := .tuple #[.agg #[.int .i64 0, .int .i64 0], .int .i64 2]) (by simp [results, Tryd.results9, go_sem]) rfl (ret_of fin.out (by first | exact (Below.refl _ _).alloc (Nat.le_refl _) _ | exact ((Below.refl _ _).alloc (Nat.le_refl _) _).drew | exact below_two _ | exact below_drewN ((Below.refl _ _).alloc (Nat.le_refl _) _) _))
                · by_cases h31 : 31 < f.size
                  · have fin : Hid (R = (0, 0, 2)) := Lib.hid (by
                      rw [← HV.out]
                      have hl : f.data.toList.length = f.size := by simp
                      exact val_long (by omega) HF.out (HN.out (by omega)))
                    go_wp2_with fail
                    all_goals exact bodyPost_ret (v := .tuple #[.agg #[.int .i64 0, .int .i64 0], .int .i64 2]) (by simp [results, Tryd.results9, go_sem]) rfl (ret_of fin.out (by first | exact (Below.refl _ _).alloc (Nat.le_refl _) _ | exact ((Below.refl _ _).alloc (Nat.le_refl _) _).drew | exact below_two _ | exact below_drewN ((Below.refl _ _).alloc (Nat.le_refl _) _) _))
                  · have hred : Hid (∀ w : World, Calls Tryd.prog 33 #[.string (W ++ f), .int .i64 (f.size : Nat)] w (Ret R w)) := Lib.hid fun w => by
                      have hsz : (W ++ f).size = W.size + f.size := by simp
                      have hda : (W ++ f).data.toList = W.data.toList ++ f.data.toList := by simp
                      have := reduced_any (W ++ f) f.size w (by omega) (by omega) (by omega) (Lib.hid (by rw [hda, List.all_append, HWd.out, HF.out]; rfl))
                      rw [hda] at this
                      have e := HV.out
                      unfold valZ at e
                      rw [show f.data.toList.length = f.size by simp] at e
                      rwa [e] at this
                    clear HV HN HF HLd HWd
                    go_wp2_with fail
                    refine (hred.out _).mono ?_
                    rintro e w2 ⟨rfl, hb2⟩
                    obtain ⟨hc2, hf2⟩ := bcell hb2
                    go_wp2_with fail
                    exact bodyPost_ret (v := .tuple #[.agg #[.int .i64 R.1, .int .i64 R.2.1], .int .i64 R.2.2]) (by simp [results, Tryd.results9, go_sem, hc2]) rfl ⟨rfl, by first | exact below_set hb2 | exact below_start hb2 | exact (below_drewN ((Below.refl _ _).alloc (Nat.le_refl _) _) _).trans (hb2.mono (by simp)) | exact ((below_drewN ((Below.refl _ _).alloc (Nat.le_refl _) _) _).trans (hb2.mono (by simp))).setCell (by simp) _ | exact (((below_drewN ((Below.refl _ _).alloc (Nat.le_refl _) _) _).trans (hb2.mono (by simp))).setCell (by simp) _).setCell (by simp) _⟩
          · have hi1 : Lib.index u.data.toList [46] = -1 := by have := Lib.index_ge u.data.toList [46]; omega
            have hcut : Lib.cut u.data.toList [46] = (u.data.toList, [], false) := by unfold Lib.cut; rw [if_neg hi]
            have hl : u.data.toList.length = u.size := by simp
            have HLd : Hid (10 < u.size → 2147483647 < num u.data.toList) := Lib.hid fun h => by have := HX.out; unfold Lead at this; rw [hcut] at this; exact this (by simpa using h)
            have HWd : Hid (u.data.toList.all isD = true) := Lib.hid (by have := digB_all (decB_front HD.out); rwa [hcut] at this)
            have HF : Hid ((ByteArray.mk #[]).data.toList.all isD = true) := Lib.hid rfl
            have HV : Hid (valZ u.data.toList (ByteArray.mk #[]).data.toList = R) := Lib.hid (by have := HR.out; unfold pv at this; rw [hcut] at this; exact this)
            have hFs : (ByteArray.mk #[]).size ≤ 40 := by decide
            have hp : Hid (∀ w : World, Calls Tryd.prog 32 #[.string u] w fun e w' => e = .returned (.int .i64 (-1)) ∧ w = w') := Lib.hid fun w => by have := point_any u w (by omega); rw [hi1] at this; exact this
            obtain ⟨W, hWu⟩ : ∃ W, W = u := ⟨_, rfl⟩
            clear hcut hi hi1 hl HX HD HR
            go_wp2_with fail
            refine (hp.out _).mono ?_
            rintro e w1 ⟨rfl, rfl⟩
            clear hp
            go_wp2_with fail
            subst hWu
            try clear h1
            try clear h2
            try clear h3
            go_loop [5] (fun v => ∃ f : ByteArray, v = .string f ∧ f.size ≤ 40 ∧ Hid (f.data.toList.all isD = true) ∧ Hid (valZ W.data.toList f.data.toList = R)) (fun v => strLen v)
            case atStart => exact ⟨_, rfl, hFs, HF, HV⟩
            case round =>
              clear HF HV hFs
              obtain ⟨f, rfl, hfl, HF, HV⟩ := hrel
              by_cases hp : 0 < f.size
              · obtain ⟨x, hx⟩ : ∃ x, f[f.size - 1] = x := ⟨_, rfl⟩
                by_cases hz : x = 48
                · have hb : ((f[f.size - 1].toNat : Int) == 48) = true := by rw [hx, hz]; rfl
                  obtain ⟨f', hf'⟩ : ∃ f', f.extract 0 (f.size - 1) = f' := ⟨_, rfl⟩
                  have hfs : f'.size = f.size - 1 := by rw [← hf']; simp
                  have hst : Hid (f'.data.toList.all isD = true ∧ valZ W.data.toList f'.data.toList = R) := Lib.hid (by
                    have e1 := split_at f (f.size - 1) (by omega)
                    rw [List.drop_eq_nil_of_le (by simp; omega), hx, hz, ← ext_take, hf'] at e1
                    have h1 := HF.out
                    have h2 := HV.out
                    rw [e1] at h1 h2
                    rw [val_zero] at h2
                    rw [List.all_append, Bool.and_eq_true] at h1
                    exact ⟨h1.1, h2⟩)
                  clear HF HV hx hz
                  go_wp2_with fail
                  go_round
                  case rel => exact ⟨f', rfl, by omega, Lib.hid hst.out.1, Lib.hid hst.out.2⟩
                  case measure => simp [strLen]; omega
                · have hb : ((f[f.size - 1].toNat : Int) == 48) = false := by
                    rw [hx, beq_eq_false_iff_ne]; intro e
                    exact hz (UInt8.toNat_inj.1 (show x.toNat = (48 : UInt8).toNat by show x.toNat = 48; omega))
                  have HN : Hid (∀ h : 0 < f.data.toList.length, f.data.toList[f.data.toList.length - 1] ≠ 48) := Lib.hid fun h => by
                    have e : f.data.toList[f.data.toList.length - 1] = x := by rw [← hx]; simp; rfl
                    rw [e]; exact hz
                  clear hx hz
                  by_cases h10 : 10 < W.size
                  · have fin : Hid (R = (0, 0, 2)) := Lib.hid (by rw [← HV.out]; exact val_wide HF.out (HLd.out h10))
                    go_wp2_with fail
                    all_goals exact bodyPost_ret (v := .tuple #[.agg #[.int .i64 0, .int .i64 0], .int .i64 2]) (by simp [results, Tryd.results9, go_sem]) rfl (ret_of fin.out (by first | exact (Below.refl _ _).alloc (Nat.le_refl _) _ | exact ((Below.refl _ _).alloc (Nat.le_refl _) _).drew | exact below_two _ | exact below_drewN ((Below.refl _ _).alloc (Nat.le_refl _) _) _))
                  · by_cases h31 : 31 < f.size
                    · have fin : Hid (R = (0, 0, 2)) := Lib.hid (by
                        rw [← HV.out]
                        have hl : f.data.toList.length = f.size := by simp
                        exact val_long (by omega) HF.out (HN.out (by omega)))
                      go_wp2_with fail
                      all_goals exact bodyPost_ret (v := .tuple #[.agg #[.int .i64 0, .int .i64 0], .int .i64 2]) (by simp [results, Tryd.results9, go_sem]) rfl (ret_of fin.out (by first | exact (Below.refl _ _).alloc (Nat.le_refl _) _ | exact ((Below.refl _ _).alloc (Nat.le_refl _) _).drew | exact below_two _ | exact below_drewN ((Below.refl _ _).alloc (Nat.le_refl _) _) _))
                    · have hred : Hid (∀ w : World, Calls Tryd.prog 33 #[.string (W ++ f), .int .i64 (f.size : Nat)] w (Ret R w)) := Lib.hid fun w => by
                        have hsz : (W ++ f).size = W.size + f.size := by simp
                        have hda : (W ++ f).data.toList = W.data.toList ++ f.data.toList := by simp
                        have := reduced_any (W ++ f) f.size w (by omega) (by omega) (by omega) (Lib.hid (by rw [hda, List.all_append, HWd.out, HF.out]; rfl))
                        rw [hda] at this
                        have e := HV.out
                        unfold valZ at e
                        rw [show f.data.toList.length = f.size by simp] at e
                        rwa [e] at this
                      clear HV HN HF HLd HWd
                      go_wp2_with fail
                      refine (hred.out _).mono ?_
                      rintro e w2 ⟨rfl, hb2⟩
                      obtain ⟨hc2, hf2⟩ := bcell hb2
                      go_wp2_with fail
                      exact bodyPost_ret (v := .tuple #[.agg #[.int .i64 R.1, .int .i64 R.2.1], .int .i64 R.2.2]) (by simp [results, Tryd.results9, go_sem, hc2]) rfl ⟨rfl, by first | exact below_set hb2 | exact below_start hb2 | exact (below_drewN ((Below.refl _ _).alloc (Nat.le_refl _) _) _).trans (hb2.mono (by simp)) | exact ((below_drewN ((Below.refl _ _).alloc (Nat.le_refl _) _) _).trans (hb2.mono (by simp))).setCell (by simp) _ | exact (((below_drewN ((Below.refl _ _).alloc (Nat.le_refl _) _) _).trans (hb2.mono (by simp))).setCell (by simp) _).setCell (by simp) _⟩
              · have HN : Hid (∀ h : 0 < f.data.toList.length, f.data.toList[f.data.toList.length - 1] ≠ 48) := Lib.hid fun h => by
                  have hl : f.data.toList.length = f.size := by simp
                  omega
                by_cases h10 : 10 < W.size
                · have fin : Hid (R = (0, 0, 2)) := Lib.hid (by rw [← HV.out]; exact val_wide HF.out (HLd.out h10))
                  go_wp2_with fail
                  all_goals exact bodyPost_ret (v := .tuple #[.agg #[.int .i64 0, .int .i64 0], .int .i64 2]) (by simp [results, Tryd.results9, go_sem]) rfl (ret_of fin.out (by first | exact (Below.refl _ _).alloc (Nat.le_refl _) _ | exact ((Below.refl _ _).alloc (Nat.le_refl _) _).drew | exact below_two _ | exact below_drewN ((Below.refl _ _).alloc (Nat.le_refl _) _) _))
                · by_cases h31 : 31 < f.size
                  · have fin : Hid (R = (0, 0, 2)) := Lib.hid (by
                      rw [← HV.out]
                      have hl : f.data.toList.length = f.size := by simp
                      exact val_long (by omega) HF.out (HN.out (by omega)))
                    go_wp2_with fail
                    all_goals exact bodyPost_ret (v := .tuple #[.agg #[.int .i64 0, .int .i64 0], .int .i64 2]) (by simp [results, Tryd.results9, go_sem]) rfl (ret_of fin.out (by first | exact (Below.refl _ _).alloc (Nat.le_refl _) _ | exact ((Below.refl _ _).alloc (Nat.le_refl _) _).drew | exact below_two _ | exact below_drewN ((Below.refl _ _).alloc (Nat.le_refl _) _) _))
                  · have hred : Hid (∀ w : World, Calls Tryd.prog 33 #[.string (W ++ f), .int .i64 (f.size : Nat)] w (Ret R w)) := Lib.hid fun w => by
                      have hsz : (W ++ f).size = W.size + f.size := by simp
                      have hda : (W ++ f).data.toList = W.data.toList ++ f.data.toList := by simp
                      have := reduced_any (W ++ f) f.size w (by omega) (by omega) (by omega) (Lib.hid (by rw [hda, List.all_append, HWd.out, HF.out]; rfl))
                      rw [hda] at this
                      have e := HV.out
                      unfold valZ at e
                      rw [show f.data.toList.length = f.size by simp] at e
                      rwa [e] at this
                    clear HV HN HF HLd HWd
                    go_wp2_with fail
                    refine (hred.out _).mono ?_
                    rintro e w2 ⟨rfl, hb2⟩
                    obtain ⟨hc2, hf2⟩ := bcell hb2
                    go_wp2_with fail
                    exact bodyPost_ret (v := .tuple #[.agg #[.int .i64 R.1, .int .i64 R.2.1], .int .i64 R.2.2]) (by simp [results, Tryd.results9, go_sem, hc2]) rfl ⟨rfl, by first | exact below_set hb2 | exact below_start hb2 | exact (below_drewN ((Below.refl _ _).alloc (Nat.le_refl _) _) _).trans (hb2.mono (by simp)) | exact ((below_drewN ((Below.refl _ _).alloc (Nat.le_refl _) _) _).trans (hb2.mono (by simp))).setCell (by simp) _ | exact (((below_drewN ((Below.refl _ _).alloc (Nat.le_refl _) _) _).trans (hb2.mono (by simp))).setCell (by simp) _).setCell (by simp) _⟩
        · have h2 : ((u[0].toNat : Int) == 48) = true := by rw [ha]; rfl
          have h3 : ((u[1].toNat : Int) == 46) = false := byte_npt hb
          obtain ⟨u', hu⟩ : ∃ u', u.extract 1 u.size = u' := ⟨_, rfl⟩
          have hul : u'.size = u.size - 1 := by rw [← hu]; simp
          have hst : Hid (decB u'.data.toList = true ∧ pv u'.data.toList = R) := Lib.hid (by
            have e0 : u.data.toList = (48 : UInt8) :: u[1] :: u.data.toList.drop 2 := by
              have e1 := split_at u 0 hpos
              have e2 : u.data.toList.drop 1 = u[1] :: u.data.toList.drop 2 := by rw [List.drop_eq_getElem_cons (by simpa using h1)]; rfl
              rw [List.take_zero, List.nil_append, ha] at e1
              exact e1.trans (congrArg (List.cons (48 : UInt8)) e2)
            have e3 : u'.data.toList = u[1] :: u.data.toList.drop 2 := by
              rw [← hu, ext_drop, e0]; rfl
            have hp := pv_strip (c := u[1]) (r := u.data.toList.drop 2) hb (by rw [← e0]; exact HD.out)
            rw [e3]
            exact ⟨hp.1, by rw [← hp.2, ← e0]; exact HR.out⟩)
          clear HD HR ha hb
          go_wp2_with fail
          go_round
          case rel => exact ⟨u', rfl, by omega, by omega, Lib.hid hst.out.1, Lib.hid hst.out.2⟩
          case measure => simp [strLen]; omega
      · have HX : Hid (Lead u.data.toList) := Lib.hid (lead_ne HD.out (by simpa using hpos) (by intro e; exact ha (by rw [← e]; rfl)))
        have h2 : ((u[0].toNat : Int) == 48) = false := by rw [beq_eq_false_iff_ne]; intro e; exact ha (UInt8.toNat_inj.1 (show u[0].toNat = (48 : UInt8).toNat by show u[0].toNat = 48; omega))
        clear ha
        by_cases hi : 0 ≤ Lib.index u.data.toList [46]
        · obtain ⟨k, hk, e⟩ := index_at u.data.toList hi
          have hks : k < u.size := by
            have := congrArg List.length e
            simp at this
            omega
          have hcut : Lib.cut u.data.toList [46] = (u.data.toList.take k, u.data.toList.drop (k + 1), true) := by unfold Lib.cut; rw [if_pos hi, hk]; simp
          obtain ⟨W, hW⟩ : ∃ W, u.extract 0 k = W := ⟨_, rfl⟩
          obtain ⟨F, hF⟩ : ∃ F, u.extract (k + 1) u.size = F := ⟨_, rfl⟩
          have hWd : W.data.toList = u.data.toList.take k := by rw [← hW, ext_take]
          have hFd : F.data.toList = u.data.toList.drop (k + 1) := by rw [← hF, ext_drop]
          have hWs : W.data.toList.length = W.size := by simp
          have HLd : Hid (10 < W.size → 2147483647 < num W.data.toList) := Lib.hid fun h => by have := HX.out; unfold Lead at this; rw [hcut, ← hWd] at this; exact this (by simpa using h)
          have hdd := HD.out
          unfold decB at hdd
          rw [hcut, ← hWd, ← hFd] at hdd
          simp at hdd
          have hfr := digB_all (decB_front HD.out)
          rw [hcut, ← hWd] at hfr
          have HWd : Hid (W.data.toList.all isD = true) := Lib.hid hfr
          have HF : Hid (F.data.toList.all isD = true) := Lib.hid (digB_all hdd.2)
          have HV : Hid (valZ W.data.toList F.data.toList = R) := Lib.hid (by have := HR.out; unfold pv at this; rw [hcut, ← hWd, ← hFd] at this; exact this)
          have hFs : F.size ≤ 40 := by rw [← hF]; simp; omega
          have hWs2 : W.size ≤ 40 := by rw [← hW]; simp; omega
          have hW0 : 0 < W.size := by have := digB_ne hdd.1; rw [← hWs]; exact List.length_pos_iff.2 this
          have hp : Hid (∀ w : World, Calls Tryd.prog 32 #[.string u] w fun e w' => e = .returned (.int .i64 (k : Nat)) ∧ w = w') := Lib.hid fun w => by have := point_any u w (by omega); rw [hk] at this; exact this
          clear hk hcut hi e HX HD HR hWd hFd hWs hdd hfr
          go_wp2_with fail
          refine (hp.out _).mono ?_
          rintro e w1 ⟨rfl, rfl⟩
          clear hp
          have q1 : IntKind.i64.wrap ((k : Int) + 1) = (k : Int) + 1 := IntWalk.i64_in _ (by omega)
          have q2 : (0 : Int) ≤ (k : Int) := by omega
          have q3 : (k : Int) ≤ (u.size : Int) := by omega
          have q4 : (0 : Int) ≤ (k : Int) + 1 := by omega
          have q5 : (k : Int) + 1 ≤ (u.size : Int) := by omega
          have q6 : ((k : Int) + 1).toNat = k + 1 := by omega
          go_wp2_with fail
          go_quiet (fail)
          clear q1 q2 q3 q4 q5 q6 hW hF
          try clear h1
          try clear h2
          try clear h3
          go_wp2_with fail
          go_loop [5] (fun v => ∃ f : ByteArray, v = .string f ∧ f.size ≤ 40 ∧ Hid (f.data.toList.all isD = true) ∧ Hid (valZ W.data.toList f.data.toList = R)) (fun v => strLen v)
          case atStart => exact ⟨_, rfl, hFs, HF, HV⟩
          case round =>
            clear HF HV hFs
            obtain ⟨f, rfl, hfl, HF, HV⟩ := hrel
            by_cases hp : 0 < f.size
            · obtain ⟨x, hx⟩ : ∃ x, f[f.size - 1] = x := ⟨_, rfl⟩
              by_cases hz : x = 48
              · have hb : ((f[f.size - 1].toNat : Int) == 48) = true := by rw [hx, hz]; rfl
                obtain ⟨f', hf'⟩ : ∃ f', f.extract 0 (f.size - 1) = f' := ⟨_, rfl⟩
                have hfs : f'.size = f.size - 1 := by rw [← hf']; simp
                have hst : Hid (f'.data.toList.all isD = true ∧ valZ W.data.toList f'.data.toList = R) := Lib.hid (by
                  have e1 := split_at f (f.size - 1) (by omega)
                  rw [List.drop_eq_nil_of_le (by simp; omega), hx, hz, ← ext_take, hf'] at e1
                  have h1 := HF.out
                  have h2 := HV.out
                  rw [e1] at h1 h2
                  rw [val_zero] at h2
                  rw [List.all_append, Bool.and_eq_true] at h1
                  exact ⟨h1.1, h2⟩)
                clear HF HV hx hz
                go_wp2_with fail
                go_round
                case rel => exact ⟨f', rfl, by omega, Lib.hid hst.out.1, Lib.hid hst.out.2⟩
                case measure => simp [strLen]; omega
              · have hb : ((f[f.size - 1].toNat : Int) == 48) = false := by
                  rw [hx, beq_eq_false_iff_ne]; intro e
                  exact hz (UInt8.toNat_inj.1 (show x.toNat = (48 : UInt8).toNat by show x.toNat = 48; omega))
                have HN : Hid (∀ h : 0 < f.data.toList.length, f.data.toList[f.data.toList.length - 1] ≠ 48) := Lib.hid fun h => by
                  have e : f.data.toList[f.data.toList.length - 1] = x := by rw [← hx]; simp; rfl
                  rw [e]; exact hz
                clear hx hz
                by_cases h10 : 10 < W.size
                · have fin : Hid (R = (0, 0, 2)) := Lib.hid (by rw [← HV.out]; exact val_wide HF.out (HLd.out h10))
                  go_wp2_with fail
                  all_goals exact bodyPost_ret (v := .tuple #[.agg #[.int .i64 0, .int .i64 0], .int .i64 2]) (by simp [results, Tryd.results9, go_sem]) rfl (ret_of fin.out (by first | exact (Below.refl _ _).alloc (Nat.le_refl _) _ | exact ((Below.refl _ _).alloc (Nat.le_refl _) _).drew | exact below_two _ | exact below_drewN ((Below.refl _ _).alloc (Nat.le_refl _) _) _))
                · by_cases h31 : 31 < f.size
                  · have fin : Hid (R = (0, 0, 2)) := Lib.hid (by
                      rw [← HV.out]
                      have hl : f.data.toList.length = f.size := by simp
                      exact val_long (by omega) HF.out (HN.out (by omega)))
                    go_wp2_with fail
                    all_goals exact bodyPost_ret (v := .tuple #[.agg #[.int .i64 0, .int .i64 0], .int .i64 2]) (by simp [results, Tryd.results9, go_sem]) rfl (ret_of fin.out (by first | exact (Below.refl _ _).alloc (Nat.le_refl _) _ | exact ((Below.refl _ _).alloc (Nat.le_refl _) _).drew | exact below_two _ | exact below_drewN ((Below.refl _ _).alloc (Nat.le_refl _) _) _))
                  · have hred : Hid (∀ w : World, Calls Tryd.prog 33 #[.string (W ++ f), .int .i64 (f.size : Nat)] w (Ret R w)) := Lib.hid fun w => by
                      have hsz : (W ++ f).size = W.size + f.size := by simp
                      have hda : (W ++ f).data.toList = W.data.toList ++ f.data.toList := by simp
                      have := reduced_any (W ++ f) f.size w (by omega) (by omega) (by omega) (Lib.hid (by rw [hda, List.all_append, HWd.out, HF.out]; rfl))
                      rw [hda] at this
                      have e := HV.out
                      unfold valZ at e
                      rw [show f.data.toList.length = f.size by simp] at e
                      rwa [e] at this
                    clear HV HN HF HLd HWd
                    go_wp2_with fail
                    refine (hred.out _).mono ?_
                    rintro e w2 ⟨rfl, hb2⟩
                    obtain ⟨hc2, hf2⟩ := bcell hb2
                    go_wp2_with fail
                    exact bodyPost_ret (v := .tuple #[.agg #[.int .i64 R.1, .int .i64 R.2.1], .int .i64 R.2.2]) (by simp [results, Tryd.results9, go_sem, hc2]) rfl ⟨rfl, by first | exact below_set hb2 | exact below_start hb2 | exact (below_drewN ((Below.refl _ _).alloc (Nat.le_refl _) _) _).trans (hb2.mono (by simp)) | exact ((below_drewN ((Below.refl _ _).alloc (Nat.le_refl _) _) _).trans (hb2.mono (by simp))).setCell (by simp) _ | exact (((below_drewN ((Below.refl _ _).alloc (Nat.le_refl _) _) _).trans (hb2.mono (by simp))).setCell (by simp) _).setCell (by simp) _⟩
            · have HN : Hid (∀ h : 0 < f.data.toList.length, f.data.toList[f.data.toList.length - 1] ≠ 48) := Lib.hid fun h => by
                have hl : f.data.toList.length = f.size := by simp
                omega
              by_cases h10 : 10 < W.size
              · have fin : Hid (R = (0, 0, 2)) := Lib.hid (by rw [← HV.out]; exact val_wide HF.out (HLd.out h10))
                go_wp2_with fail
                all_goals exact bodyPost_ret (v := .tuple #[.agg #[.int .i64 0, .int .i64 0], .int .i64 2]) (by simp [results, Tryd.results9, go_sem]) rfl (ret_of fin.out (by first | exact (Below.refl _ _).alloc (Nat.le_refl _) _ | exact ((Below.refl _ _).alloc (Nat.le_refl _) _).drew | exact below_two _ | exact below_drewN ((Below.refl _ _).alloc (Nat.le_refl _) _) _))
              · by_cases h31 : 31 < f.size
                · have fin : Hid (R = (0, 0, 2)) := Lib.hid (by
                    rw [← HV.out]
                    have hl : f.data.toList.length = f.size := by simp
                    exact val_long (by omega) HF.out (HN.out (by omega)))
                  go_wp2_with fail
                  all_goals exact bodyPost_ret (v := .tuple #[.agg #[.int .i64 0, .int .i64 0], .int .i64 2]) (by simp [results, Tryd.results9, go_sem]) rfl (ret_of fin.out (by first | exact (Below.refl _ _).alloc (Nat.le_refl _) _ | exact ((Below.refl _ _).alloc (Nat.le_refl _) _).drew | exact below_two _ | exact below_drewN ((Below.refl _ _).alloc (Nat.le_refl _) _) _))
                · have hred : Hid (∀ w : World, Calls Tryd.prog 33 #[.string (W ++ f), .int .i64 (f.size : Nat)] w (Ret R w)) := Lib.hid fun w => by
                    have hsz : (W ++ f).size = W.size + f.size := by simp
                    have hda : (W ++ f).data.toList = W.data.toList ++ f.data.toList := by simp
                    have := reduced_any (W ++ f) f.size w (by omega) (by omega) (by omega) (Lib.hid (by rw [hda, List.all_append, HWd.out, HF.out]; rfl))
                    rw [hda] at this
                    have e := HV.out
                    unfold valZ at e
                    rw [show f.data.toList.length = f.size by simp] at e
                    rwa [e] at this
                  clear HV HN HF HLd HWd
                  go_wp2_with fail
                  refine (hred.out _).mono ?_
                  rintro e w2 ⟨rfl, hb2⟩
                  obtain ⟨hc2, hf2⟩ := bcell hb2
                  go_wp2_with fail
                  exact bodyPost_ret (v := .tuple #[.agg #[.int .i64 R.1, .int .i64 R.2.1], .int .i64 R.2.2]) (by simp [results, Tryd.results9, go_sem, hc2]) rfl ⟨rfl, by first | exact below_set hb2 | exact below_start hb2 | exact (below_drewN ((Below.refl _ _).alloc (Nat.le_refl _) _) _).trans (hb2.mono (by simp)) | exact ((below_drewN ((Below.refl _ _).alloc (Nat.le_refl _) _) _).trans (hb2.mono (by simp))).setCell (by simp) _ | exact (((below_drewN ((Below.refl _ _).alloc (Nat.le_refl _) _) _).trans (hb2.mono (by simp))).setCell (by simp) _).setCell (by simp) _⟩
        · have hi1 : Lib.index u.data.toList [46] = -1 := by have := Lib.index_ge u.data.toList [46]; omega
          have hcut : Lib.cut u.data.toList [46] = (u.data.toList, [], false) := by unfold Lib.cut; rw [if_neg hi]
          have hl : u.data.toList.length = u.size := by simp
          have HLd : Hid (10 < u.size → 2147483647 < num u.data.toList) := Lib.hid fun h => by have := HX.out; unfold Lead at this; rw [hcut] at this; exact this (by simpa using h)
          have HWd : Hid (u.data.toList.all isD = true) := Lib.hid (by have := digB_all (decB_front HD.out); rwa [hcut] at this)
          have HF : Hid ((ByteArray.mk #[]).data.toList.all isD = true) := Lib.hid rfl
          have HV : Hid (valZ u.data.toList (ByteArray.mk #[]).data.toList = R) := Lib.hid (by have := HR.out; unfold pv at this; rw [hcut] at this; exact this)
          have hFs : (ByteArray.mk #[]).size ≤ 40 := by decide
          have hp : Hid (∀ w : World, Calls Tryd.prog 32 #[.string u] w fun e w' => e = .returned (.int .i64 (-1)) ∧ w = w') := Lib.hid fun w => by have := point_any u w (by omega); rw [hi1] at this; exact this
          obtain ⟨W, hWu⟩ : ∃ W, W = u := ⟨_, rfl⟩
          clear hcut hi hi1 hl HX HD HR
          go_wp2_with fail
          refine (hp.out _).mono ?_
          rintro e w1 ⟨rfl, rfl⟩
          clear hp
          go_wp2_with fail
          subst hWu
          try clear h1
          try clear h2
          try clear h3
          go_loop [5] (fun v => ∃ f : ByteArray, v = .string f ∧ f.size ≤ 40 ∧ Hid (f.data.toList.all isD = true) ∧ Hid (valZ W.data.toList f.data.toList = R)) (fun v => strLen v)
          case atStart => exact ⟨_, rfl, hFs, HF, HV⟩
          case round =>
            clear HF HV hFs
            obtain ⟨f, rfl, hfl, HF, HV⟩ := hrel
            by_cases hp : 0 < f.size
            · obtain ⟨x, hx⟩ : ∃ x, f[f.size - 1] = x := ⟨_, rfl⟩
              by_cases hz : x = 48
              · have hb : ((f[f.size - 1].toNat : Int) == 48) = true := by rw [hx, hz]; rfl
                obtain ⟨f', hf'⟩ : ∃ f', f.extract 0 (f.size - 1) = f' := ⟨_, rfl⟩
                have hfs : f'.size = f.size - 1 := by rw [← hf']; simp
                have hst : Hid (f'.data.toList.all isD = true ∧ valZ W.data.toList f'.data.toList = R) := Lib.hid (by
                  have e1 := split_at f (f.size - 1) (by omega)
                  rw [List.drop_eq_nil_of_le (by simp; omega), hx, hz, ← ext_take, hf'] at e1
                  have h1 := HF.out
                  have h2 := HV.out
                  rw [e1] at h1 h2
                  rw [val_zero] at h2
                  rw [List.all_append, Bool.and_eq_true] at h1
                  exact ⟨h1.1, h2⟩)
                clear HF HV hx hz
                go_wp2_with fail
                go_round
                case rel => exact ⟨f', rfl, by omega, Lib.hid hst.out.1, Lib.hid hst.out.2⟩
                case measure => simp [strLen]; omega
              · have hb : ((f[f.size - 1].toNat : Int) == 48) = false := by
                  rw [hx, beq_eq_false_iff_ne]; intro e
                  exact hz (UInt8.toNat_inj.1 (show x.toNat = (48 : UInt8).toNat by show x.toNat = 48; omega))
                have HN : Hid (∀ h : 0 < f.data.toList.length, f.data.toList[f.data.toList.length - 1] ≠ 48) := Lib.hid fun h => by
                  have e : f.data.toList[f.data.toList.length - 1] = x := by rw [← hx]; simp; rfl
                  rw [e]; exact hz
                clear hx hz
                by_cases h10 : 10 < W.size
                · have fin : Hid (R = (0, 0, 2)) := Lib.hid (by rw [← HV.out]; exact val_wide HF.out (HLd.out h10))
                  go_wp2_with fail
                  all_goals exact bodyPost_ret (v := .tuple #[.agg #[.int .i64 0, .int .i64 0], .int .i64 2]) (by simp [results, Tryd.results9, go_sem]) rfl (ret_of fin.out (by first | exact (Below.refl _ _).alloc (Nat.le_refl _) _ | exact ((Below.refl _ _).alloc (Nat.le_refl _) _).drew | exact below_two _ | exact below_drewN ((Below.refl _ _).alloc (Nat.le_refl _) _) _))
                · by_cases h31 : 31 < f.size
                  · have fin : Hid (R = (0, 0, 2)) := Lib.hid (by
                      rw [← HV.out]
                      have hl : f.data.toList.length = f.size := by simp
                      exact val_long (by omega) HF.out (HN.out (by omega)))
                    go_wp2_with fail
                    all_goals exact bodyPost_ret (v := .tuple #[.agg #[.int .i64 0, .int .i64 0], .int .i64 2]) (by simp [results, Tryd.results9, go_sem]) rfl (ret_of fin.out (by first | exact (Below.refl _ _).alloc (Nat.le_refl _) _ | exact ((Below.refl _ _).alloc (Nat.le_refl _) _).drew | exact below_two _ | exact below_drewN ((Below.refl _ _).alloc (Nat.le_refl _) _) _))
                  · have hred : Hid (∀ w : World, Calls Tryd.prog 33 #[.string (W ++ f), .int .i64 (f.size : Nat)] w (Ret R w)) := Lib.hid fun w => by
                      have hsz : (W ++ f).size = W.size + f.size := by simp
                      have hda : (W ++ f).data.toList = W.data.toList ++ f.data.toList := by simp
                      have := reduced_any (W ++ f) f.size w (by omega) (by omega) (by omega) (Lib.hid (by rw [hda, List.all_append, HWd.out, HF.out]; rfl))
                      rw [hda] at this
                      have e := HV.out
                      unfold valZ at e
                      rw [show f.data.toList.length = f.size by simp] at e
                      rwa [e] at this
                    clear HV HN HF HLd HWd
                    go_wp2_with fail
                    refine (hred.out _).mono ?_
                    rintro e w2 ⟨rfl, hb2⟩
                    obtain ⟨hc2, hf2⟩ := bcell hb2
                    go_wp2_with fail
                    exact bodyPost_ret (v := .tuple #[.agg #[.int .i64 R.1, .int .i64 R.2.1], .int .i64 R.2.2]) (by simp [results, Tryd.results9, go_sem, hc2]) rfl ⟨rfl, by first | exact below_set hb2 | exact below_start hb2 | exact (below_drewN ((Below.refl _ _).alloc (Nat.le_refl _) _) _).trans (hb2.mono (by simp)) | exact ((below_drewN ((Below.refl _ _).alloc (Nat.le_refl _) _) _).trans (hb2.mono (by simp))).setCell (by simp) _ | exact (((below_drewN ((Below.refl _ _).alloc (Nat.le_refl _) _) _).trans (hb2.mono (by simp))).setCell (by simp) _).setCell (by simp) _⟩
            · have HN : Hid (∀ h : 0 < f.data.toList.length, f.data.toList[f.data.toList.length - 1] ≠ 48) := Lib.hid fun h => by
                have hl : f.data.toList.length = f.size := by simp
                omega
              by_cases h10 : 10 < W.size
              · have fin : Hid (R = (0, 0, 2)) := Lib.hid (by rw [← HV.out]; exact val_wide HF.out (HLd.out h10))
                go_wp2_with fail
                all_goals exact bodyPost_ret (v := .tuple #[.agg #[.int .i64 0, .int .i64 0], .int .i64 2]) (by simp [results, Tryd.results9, go_sem]) rfl (ret_of fin.out (by first | exact (Below.refl _ _).alloc (Nat.le_refl _) _ | exact ((Below.refl _ _).alloc (Nat.le_refl _) _).drew | exact below_two _ | exact below_drewN ((Below.refl _ _).alloc (Nat.le_refl _) _) _))
              · by_cases h31 : 31 < f.size
                · have fin : Hid (R = (0, 0, 2)) := Lib.hid (by
                    rw [← HV.out]
                    have hl : f.data.toList.length = f.size := by simp
                    exact val_long (by omega) HF.out (HN.out (by omega)))
                  go_wp2_with fail
                  all_goals exact bodyPost_ret (v := .tuple #[.agg #[.int .i64 0, .int .i64 0], .int .i64 2]) (by simp [results, Tryd.results9, go_sem]) rfl (ret_of fin.out (by first | exact (Below.refl _ _).alloc (Nat.le_refl _) _ | exact ((Below.refl _ _).alloc (Nat.le_refl _) _).drew | exact below_two _ | exact below_drewN ((Below.refl _ _).alloc (Nat.le_refl _) _) _))
                · have hred : Hid (∀ w : World, Calls Tryd.prog 33 #[.string (W ++ f), .int .i64 (f.size : Nat)] w (Ret R w)) := Lib.hid fun w => by
                    have hsz : (W ++ f).size = W.size + f.size := by simp
                    have hda : (W ++ f).data.toList = W.data.toList ++ f.data.toList := by simp
                    have := reduced_any (W ++ f) f.size w (by omega) (by omega) (by omega) (Lib.hid (by rw [hda, List.all_append, HWd.out, HF.out]; rfl))
                    rw [hda] at this
                    have e := HV.out
                    unfold valZ at e
                    rw [show f.data.toList.length = f.size by simp] at e
                    rwa [e] at this
                  clear HV HN HF HLd HWd
                  go_wp2_with fail
                  refine (hred.out _).mono ?_
                  rintro e w2 ⟨rfl, hb2⟩
                  obtain ⟨hc2, hf2⟩ := bcell hb2
                  go_wp2_with fail
                  exact bodyPost_ret (v := .tuple #[.agg #[.int .i64 R.1, .int .i64 R.2.1], .int .i64 R.2.2]) (by simp [results, Tryd.results9, go_sem, hc2]) rfl ⟨rfl, by first | exact below_set hb2 | exact below_start hb2 | exact (below_drewN ((Below.refl _ _).alloc (Nat.le_refl _) _) _).trans (hb2.mono (by simp)) | exact ((below_drewN ((Below.refl _ _).alloc (Nat.le_refl _) _) _).trans (hb2.mono (by simp))).setCell (by simp) _ | exact (((below_drewN ((Below.refl _ _).alloc (Nat.le_refl _) _) _).trans (hb2.mono (by simp))).setCell (by simp) _).setCell (by simp) _⟩
    · have HX : Hid (Lead u.data.toList) := Lib.hid (lead_one (by simp; omega))
      by_cases hi : 0 ≤ Lib.index u.data.toList [46]
      · obtain ⟨k, hk, e⟩ := index_at u.data.toList hi
        have hks : k < u.size := by
          have := congrArg List.length e
          simp at this
          omega
        have hcut : Lib.cut u.data.toList [46] = (u.data.toList.take k, u.data.toList.drop (k + 1), true) := by unfold Lib.cut; rw [if_pos hi, hk]; simp
        obtain ⟨W, hW⟩ : ∃ W, u.extract 0 k = W := ⟨_, rfl⟩
        obtain ⟨F, hF⟩ : ∃ F, u.extract (k + 1) u.size = F := ⟨_, rfl⟩
        have hWd : W.data.toList = u.data.toList.take k := by rw [← hW, ext_take]
        have hFd : F.data.toList = u.data.toList.drop (k + 1) := by rw [← hF, ext_drop]
        have hWs : W.data.toList.length = W.size := by simp
        have HLd : Hid (10 < W.size → 2147483647 < num W.data.toList) := Lib.hid fun h => by have := HX.out; unfold Lead at this; rw [hcut, ← hWd] at this; exact this (by simpa using h)
        have hdd := HD.out
        unfold decB at hdd
        rw [hcut, ← hWd, ← hFd] at hdd
        simp at hdd
        have hfr := digB_all (decB_front HD.out)
        rw [hcut, ← hWd] at hfr
        have HWd : Hid (W.data.toList.all isD = true) := Lib.hid hfr
        have HF : Hid (F.data.toList.all isD = true) := Lib.hid (digB_all hdd.2)
        have HV : Hid (valZ W.data.toList F.data.toList = R) := Lib.hid (by have := HR.out; unfold pv at this; rw [hcut, ← hWd, ← hFd] at this; exact this)
        have hFs : F.size ≤ 40 := by rw [← hF]; simp; omega
        have hWs2 : W.size ≤ 40 := by rw [← hW]; simp; omega
        have hW0 : 0 < W.size := by have := digB_ne hdd.1; rw [← hWs]; exact List.length_pos_iff.2 this
        have hp : Hid (∀ w : World, Calls Tryd.prog 32 #[.string u] w fun e w' => e = .returned (.int .i64 (k : Nat)) ∧ w = w') := Lib.hid fun w => by have := point_any u w (by omega); rw [hk] at this; exact this
        clear hk hcut hi e HX HD HR hWd hFd hWs hdd hfr
        go_wp2_with fail
        refine (hp.out _).mono ?_
        rintro e w1 ⟨rfl, rfl⟩
        clear hp
        have q1 : IntKind.i64.wrap ((k : Int) + 1) = (k : Int) + 1 := IntWalk.i64_in _ (by omega)
        have q2 : (0 : Int) ≤ (k : Int) := by omega
        have q3 : (k : Int) ≤ (u.size : Int) := by omega
        have q4 : (0 : Int) ≤ (k : Int) + 1 := by omega
        have q5 : (k : Int) + 1 ≤ (u.size : Int) := by omega
        have q6 : ((k : Int) + 1).toNat = k + 1 := by omega
        go_wp2_with fail
        go_quiet (fail)
        clear q1 q2 q3 q4 q5 q6 hW hF
        try clear h1
        try clear h2
        try clear h3
        go_wp2_with fail
        go_loop [5] (fun v => ∃ f : ByteArray, v = .string f ∧ f.size ≤ 40 ∧ Hid (f.data.toList.all isD = true) ∧ Hid (valZ W.data.toList f.data.toList = R)) (fun v => strLen v)
        case atStart => exact ⟨_, rfl, hFs, HF, HV⟩
        case round =>
          clear HF HV hFs
          obtain ⟨f, rfl, hfl, HF, HV⟩ := hrel
          by_cases hp : 0 < f.size
          · obtain ⟨x, hx⟩ : ∃ x, f[f.size - 1] = x := ⟨_, rfl⟩
            by_cases hz : x = 48
            · have hb : ((f[f.size - 1].toNat : Int) == 48) = true := by rw [hx, hz]; rfl
              obtain ⟨f', hf'⟩ : ∃ f', f.extract 0 (f.size - 1) = f' := ⟨_, rfl⟩
              have hfs : f'.size = f.size - 1 := by rw [← hf']; simp
              have hst : Hid (f'.data.toList.all isD = true ∧ valZ W.data.toList f'.data.toList = R) := Lib.hid (by
                have e1 := split_at f (f.size - 1) (by omega)
                rw [List.drop_eq_nil_of_le (by simp; omega), hx, hz, ← ext_take, hf'] at e1
                have h1 := HF.out
                have h2 := HV.out
                rw [e1] at h1 h2
                rw [val_zero] at h2
                rw [List.all_append, Bool.and_eq_true] at h1
                exact ⟨h1.1, h2⟩)
              clear HF HV hx hz
              go_wp2_with fail
              go_round
              case rel => exact ⟨f', rfl, by omega, Lib.hid hst.out.1, Lib.hid hst.out.2⟩
              case measure => simp [strLen]; omega
            · have hb : ((f[f.size - 1].toNat : Int) == 48) = false := by
                rw [hx, beq_eq_false_iff_ne]; intro e
                exact hz (UInt8.toNat_inj.1 (show x.toNat = (48 : UInt8).toNat by show x.toNat = 48; omega))
              have HN : Hid (∀ h : 0 < f.data.toList.length, f.data.toList[f.data.toList.length - 1] ≠ 48) := Lib.hid fun h => by
                have e : f.data.toList[f.data.toList.length - 1] = x := by rw [← hx]; simp; rfl
                rw [e]; exact hz
              clear hx hz
              by_cases h10 : 10 < W.size
              · have fin : Hid (R = (0, 0, 2)) := Lib.hid (by rw [← HV.out]; exact val_wide HF.out (HLd.out h10))
                go_wp2_with fail
                all_goals exact bodyPost_ret (v := .tuple #[.agg #[.int .i64 0, .int .i64 0], .int .i64 2]) (by simp [results, Tryd.results9, go_sem]) rfl (ret_of fin.out (by first | exact (Below.refl _ _).alloc (Nat.le_refl _) _ | exact ((Below.refl _ _).alloc (Nat.le_refl _) _).drew | exact below_two _ | exact below_drewN ((Below.refl _ _).alloc (Nat.le_refl _) _) _))
              · by_cases h31 : 31 < f.size
                · have fin : Hid (R = (0, 0, 2)) := Lib.hid (by
                    rw [← HV.out]
                    have hl : f.data.toList.length = f.size := by simp
                    exact val_long (by omega) HF.out (HN.out (by omega)))
                  go_wp2_with fail
                  all_goals exact bodyPost_ret (v := .tuple #[.agg #[.int .i64 0, .int .i64 0], .int .i64 2]) (by simp [results, Tryd.results9, go_sem]) rfl (ret_of fin.out (by first | exact (Below.refl _ _).alloc (Nat.le_refl _) _ | exact ((Below.refl _ _).alloc (Nat.le_refl _) _).drew | exact below_two _ | exact below_drewN ((Below.refl _ _).alloc (Nat.le_refl _) _) _))
                · have hred : Hid (∀ w : World, Calls Tryd.prog 33 #[.string (W ++ f), .int .i64 (f.size : Nat)] w (Ret R w)) := Lib.hid fun w => by
                    have hsz : (W ++ f).size = W.size + f.size := by simp
                    have hda : (W ++ f).data.toList = W.data.toList ++ f.data.toList := by simp
                    have := reduced_any (W ++ f) f.size w (by omega) (by omega) (by omega) (Lib.hid (by rw [hda, List.all_append, HWd.out, HF.out]; rfl))
                    rw [hda] at this
                    have e := HV.out
                    unfold valZ at e
                    rw [show f.data.toList.length = f.size by simp] at e
                    rwa [e] at this
                  clear HV HN HF HLd HWd
                  go_wp2_with fail
                  refine (hred.out _).mono ?_
                  rintro e w2 ⟨rfl, hb2⟩
                  obtain ⟨hc2, hf2⟩ := bcell hb2
                  go_wp2_with fail
                  exact bodyPost_ret (v := .tuple #[.agg #[.int .i64 R.1, .int .i64 R.2.1], .int .i64 R.2.2]) (by simp [results, Tryd.results9, go_sem, hc2]) rfl ⟨rfl, by first | exact below_set hb2 | exact below_start hb2 | exact (below_drewN ((Below.refl _ _).alloc (Nat.le_refl _) _) _).trans (hb2.mono (by simp)) | exact ((below_drewN ((Below.refl _ _).alloc (Nat.le_refl _) _) _).trans (hb2.mono (by simp))).setCell (by simp) _ | exact (((below_drewN ((Below.refl _ _).alloc (Nat.le_refl _) _) _).trans (hb2.mono (by simp))).setCell (by simp) _).setCell (by simp) _⟩
          · have HN : Hid (∀ h : 0 < f.data.toList.length, f.data.toList[f.data.toList.length - 1] ≠ 48) := Lib.hid fun h => by
              have hl : f.data.toList.length = f.size := by simp
              omega
            by_cases h10 : 10 < W.size
            · have fin : Hid (R = (0, 0, 2)) := Lib.hid (by rw [← HV.out]; exact val_wide HF.out (HLd.out h10))
              go_wp2_with fail
              all_goals exact bodyPost_ret (v := .tuple #[.agg #[.int .i64 0, .int .i64 0], .int .i64 2]) (by simp [results, Tryd.results9, go_sem]) rfl (ret_of fin.out (by first | exact (Below.refl _ _).alloc (Nat.le_refl _) _ | exact ((Below.refl _ _).alloc (Nat.le_refl _) _).drew | exact below_two _ | exact below_drewN ((Below.refl _ _).alloc (Nat.le_refl _) _) _))
            · by_cases h31 : 31 < f.size
              · have fin : Hid (R = (0, 0, 2)) := Lib.hid (by
                  rw [← HV.out]
                  have hl : f.data.toList.length = f.size := by simp
                  exact val_long (by omega) HF.out (HN.out (by omega)))
                go_wp2_with fail
                all_goals exact bodyPost_ret (v := .tuple #[.agg #[.int .i64 0, .int .i64 0], .int .i64 2]) (by simp [results, Tryd.results9, go_sem]) rfl (ret_of fin.out (by first | exact (Below.refl _ _).alloc (Nat.le_refl _) _ | exact ((Below.refl _ _).alloc (Nat.le_refl _) _).drew | exact below_two _ | exact below_drewN ((Below.refl _ _).alloc (Nat.le_refl _) _) _))
              · have hred : Hid (∀ w : World, Calls Tryd.prog 33 #[.string (W ++ f), .int .i64 (f.size : Nat)] w (Ret R w)) := Lib.hid fun w => by
                  have hsz : (W ++ f).size = W.size + f.size := by simp
                  have hda : (W ++ f).data.toList = W.data.toList ++ f.data.toList := by simp
                  have := reduced_any (W ++ f) f.size w (by omega) (by omega) (by omega) (Lib.hid (by rw [hda, List.all_append, HWd.out, HF.out]; rfl))
                  rw [hda] at this
                  have e := HV.out
                  unfold valZ at e
                  rw [show f.data.toList.length = f.size by simp] at e
                  rwa [e] at this
                clear HV HN HF HLd HWd
                go_wp2_with fail
                refine (hred.out _).mono ?_
                rintro e w2 ⟨rfl, hb2⟩
                obtain ⟨hc2, hf2⟩ := bcell hb2
                go_wp2_with fail
                exact bodyPost_ret (v := .tuple #[.agg #[.int .i64 R.1, .int .i64 R.2.1], .int .i64 R.2.2]) (by simp [results, Tryd.results9, go_sem, hc2]) rfl ⟨rfl, by first | exact below_set hb2 | exact below_start hb2 | exact (below_drewN ((Below.refl _ _).alloc (Nat.le_refl _) _) _).trans (hb2.mono (by simp)) | exact ((below_drewN ((Below.refl _ _).alloc (Nat.le_refl _) _) _).trans (hb2.mono (by simp))).setCell (by simp) _ | exact (((below_drewN ((Below.refl _ _).alloc (Nat.le_refl _) _) _).trans (hb2.mono (by simp))).setCell (by simp) _).setCell (by simp) _⟩
      · have hi1 : Lib.index u.data.toList [46] = -1 := by have := Lib.index_ge u.data.toList [46]; omega
        have hcut : Lib.cut u.data.toList [46] = (u.data.toList, [], false) := by unfold Lib.cut; rw [if_neg hi]
        have hl : u.data.toList.length = u.size := by simp
        have HLd : Hid (10 < u.size → 2147483647 < num u.data.toList) := Lib.hid fun h => by have := HX.out; unfold Lead at this; rw [hcut] at this; exact this (by simpa using h)
        have HWd : Hid (u.data.toList.all isD = true) := Lib.hid (by have := digB_all (decB_front HD.out); rwa [hcut] at this)
        have HF : Hid ((ByteArray.mk #[]).data.toList.all isD = true) := Lib.hid rfl
        have HV : Hid (valZ u.data.toList (ByteArray.mk #[]).data.toList = R) := Lib.hid (by have := HR.out; unfold pv at this; rw [hcut] at this; exact this)
        have hFs : (ByteArray.mk #[]).size ≤ 40 := by decide
        have hp : Hid (∀ w : World, Calls Tryd.prog 32 #[.string u] w fun e w' => e = .returned (.int .i64 (-1)) ∧ w = w') := Lib.hid fun w => by have := point_any u w (by omega); rw [hi1] at this; exact this
        obtain ⟨W, hWu⟩ : ∃ W, W = u := ⟨_, rfl⟩
        clear hcut hi hi1 hl HX HD HR
        go_wp2_with fail
        refine (hp.out _).mono ?_
        rintro e w1 ⟨rfl, rfl⟩
        clear hp
        go_wp2_with fail
        subst hWu
        try clear h1
        try clear h2
        try clear h3
        go_loop [5] (fun v => ∃ f : ByteArray, v = .string f ∧ f.size ≤ 40 ∧ Hid (f.data.toList.all isD = true) ∧ Hid (valZ W.data.toList f.data.toList = R)) (fun v => strLen v)
        case atStart => exact ⟨_, rfl, hFs, HF, HV⟩
        case round =>
          clear HF HV hFs
          obtain ⟨f, rfl, hfl, HF, HV⟩ := hrel
          by_cases hp : 0 < f.size
          · obtain ⟨x, hx⟩ : ∃ x, f[f.size - 1] = x := ⟨_, rfl⟩
            by_cases hz : x = 48
            · have hb : ((f[f.size - 1].toNat : Int) == 48) = true := by rw [hx, hz]; rfl
              obtain ⟨f', hf'⟩ : ∃ f', f.extract 0 (f.size - 1) = f' := ⟨_, rfl⟩
              have hfs : f'.size = f.size - 1 := by rw [← hf']; simp
              have hst : Hid (f'.data.toList.all isD = true ∧ valZ W.data.toList f'.data.toList = R) := Lib.hid (by
                have e1 := split_at f (f.size - 1) (by omega)
                rw [List.drop_eq_nil_of_le (by simp; omega), hx, hz, ← ext_take, hf'] at e1
                have h1 := HF.out
                have h2 := HV.out
                rw [e1] at h1 h2
                rw [val_zero] at h2
                rw [List.all_append, Bool.and_eq_true] at h1
                exact ⟨h1.1, h2⟩)
              clear HF HV hx hz
              go_wp2_with fail
              go_round
              case rel => exact ⟨f', rfl, by omega, Lib.hid hst.out.1, Lib.hid hst.out.2⟩
              case measure => simp [strLen]; omega
            · have hb : ((f[f.size - 1].toNat : Int) == 48) = false := by
                rw [hx, beq_eq_false_iff_ne]; intro e
                exact hz (UInt8.toNat_inj.1 (show x.toNat = (48 : UInt8).toNat by show x.toNat = 48; omega))
              have HN : Hid (∀ h : 0 < f.data.toList.length, f.data.toList[f.data.toList.length - 1] ≠ 48) := Lib.hid fun h => by
                have e : f.data.toList[f.data.toList.length - 1] = x := by rw [← hx]; simp; rfl
                rw [e]; exact hz
              clear hx hz
              by_cases h10 : 10 < W.size
              · have fin : Hid (R = (0, 0, 2)) := Lib.hid (by rw [← HV.out]; exact val_wide HF.out (HLd.out h10))
                go_wp2_with fail
                all_goals exact bodyPost_ret (v := .tuple #[.agg #[.int .i64 0, .int .i64 0], .int .i64 2]) (by simp [results, Tryd.results9, go_sem]) rfl (ret_of fin.out (by first | exact (Below.refl _ _).alloc (Nat.le_refl _) _ | exact ((Below.refl _ _).alloc (Nat.le_refl _) _).drew | exact below_two _ | exact below_drewN ((Below.refl _ _).alloc (Nat.le_refl _) _) _))
              · by_cases h31 : 31 < f.size
                · have fin : Hid (R = (0, 0, 2)) := Lib.hid (by
                    rw [← HV.out]
                    have hl : f.data.toList.length = f.size := by simp
                    exact val_long (by omega) HF.out (HN.out (by omega)))
                  go_wp2_with fail
                  all_goals exact bodyPost_ret (v := .tuple #[.agg #[.int .i64 0, .int .i64 0], .int .i64 2]) (by simp [results, Tryd.results9, go_sem]) rfl (ret_of fin.out (by first | exact (Below.refl _ _).alloc (Nat.le_refl _) _ | exact ((Below.refl _ _).alloc (Nat.le_refl _) _).drew | exact below_two _ | exact below_drewN ((Below.refl _ _).alloc (Nat.le_refl _) _) _))
                · have hred : Hid (∀ w : World, Calls Tryd.prog 33 #[.string (W ++ f), .int .i64 (f.size : Nat)] w (Ret R w)) := Lib.hid fun w => by
                    have hsz : (W ++ f).size = W.size + f.size := by simp
                    have hda : (W ++ f).data.toList = W.data.toList ++ f.data.toList := by simp
                    have := reduced_any (W ++ f) f.size w (by omega) (by omega) (by omega) (Lib.hid (by rw [hda, List.all_append, HWd.out, HF.out]; rfl))
                    rw [hda] at this
                    have e := HV.out
                    unfold valZ at e
                    rw [show f.data.toList.length = f.size by simp] at e
                    rwa [e] at this
                  clear HV HN HF HLd HWd
                  go_wp2_with fail
                  refine (hred.out _).mono ?_
                  rintro e w2 ⟨rfl, hb2⟩
                  obtain ⟨hc2, hf2⟩ := bcell hb2
                  go_wp2_with fail
                  exact bodyPost_ret (v := .tuple #[.agg #[.int .i64 R.1, .int .i64 R.2.1], .int .i64 R.2.2]) (by simp [results, Tryd.results9, go_sem, hc2]) rfl ⟨rfl, by first | exact below_set hb2 | exact below_start hb2 | exact (below_drewN ((Below.refl _ _).alloc (Nat.le_refl _) _) _).trans (hb2.mono (by simp)) | exact ((below_drewN ((Below.refl _ _).alloc (Nat.le_refl _) _) _).trans (hb2.mono (by simp))).setCell (by simp) _ | exact (((below_drewN ((Below.refl _ _).alloc (Nat.le_refl _) _) _).trans (hb2.mono (by simp))).setCell (by simp) _).setCell (by simp) _⟩
          · have HN : Hid (∀ h : 0 < f.data.toList.length, f.data.toList[f.data.toList.length - 1] ≠ 48) := Lib.hid fun h => by
              have hl : f.data.toList.length = f.size := by simp
              omega
            by_cases h10 : 10 < W.size
            · have fin : Hid (R = (0, 0, 2)) := Lib.hid (by rw [← HV.out]; exact val_wide HF.out (HLd.out h10))
              go_wp2_with fail
              all_goals exact bodyPost_ret (v := .tuple #[.agg #[.int .i64 0, .int .i64 0], .int .i64 2]) (by simp [results, Tryd.results9, go_sem]) rfl (ret_of fin.out (by first | exact (Below.refl _ _).alloc (Nat.le_refl _) _ | exact ((Below.refl _ _).alloc (Nat.le_refl _) _).drew | exact below_two _ | exact below_drewN ((Below.refl _ _).alloc (Nat.le_refl _) _) _))
            · by_cases h31 : 31 < f.size
              · have fin : Hid (R = (0, 0, 2)) := Lib.hid (by
                  rw [← HV.out]
                  have hl : f.data.toList.length = f.size := by simp
                  exact val_long (by omega) HF.out (HN.out (by omega)))
                go_wp2_with fail
                all_goals exact bodyPost_ret (v := .tuple #[.agg #[.int .i64 0, .int .i64 0], .int .i64 2]) (by simp [results, Tryd.results9, go_sem]) rfl (ret_of fin.out (by first | exact (Below.refl _ _).alloc (Nat.le_refl _) _ | exact ((Below.refl _ _).alloc (Nat.le_refl _) _).drew | exact below_two _ | exact below_drewN ((Below.refl _ _).alloc (Nat.le_refl _) _) _))
              · have hred : Hid (∀ w : World, Calls Tryd.prog 33 #[.string (W ++ f), .int .i64 (f.size : Nat)] w (Ret R w)) := Lib.hid fun w => by
                  have hsz : (W ++ f).size = W.size + f.size := by simp
                  have hda : (W ++ f).data.toList = W.data.toList ++ f.data.toList := by simp
                  have := reduced_any (W ++ f) f.size w (by omega) (by omega) (by omega) (Lib.hid (by rw [hda, List.all_append, HWd.out, HF.out]; rfl))
                  rw [hda] at this
                  have e := HV.out
                  unfold valZ at e
                  rw [show f.data.toList.length = f.size by simp] at e
                  rwa [e] at this
                clear HV HN HF HLd HWd
                go_wp2_with fail
                refine (hred.out _).mono ?_
                rintro e w2 ⟨rfl, hb2⟩
                obtain ⟨hc2, hf2⟩ := bcell hb2
                go_wp2_with fail
                exact bodyPost_ret (v := .tuple #[.agg #[.int .i64 R.1, .int .i64 R.2.1], .int .i64 R.2.2]) (by simp [results, Tryd.results9, go_sem, hc2]) rfl ⟨rfl, by first | exact below_set hb2 | exact below_start hb2 | exact (below_drewN ((Below.refl _ _).alloc (Nat.le_refl _) _) _).trans (hb2.mono (by simp)) | exact ((below_drewN ((Below.refl _ _).alloc (Nat.le_refl _) _) _).trans (hb2.mono (by simp))).setCell (by simp) _ | exact (((below_drewN ((Below.refl _ _).alloc (Nat.le_refl _) _) _).trans (hb2.mono (by simp))).setCell (by simp) _).setCell (by simp) _⟩
end Go.Proofs.YtggiljlndenjoaaDoor.RatM
