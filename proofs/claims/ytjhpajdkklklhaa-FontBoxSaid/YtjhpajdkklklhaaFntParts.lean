/- The program's package font: validParts. -/
import Derived.Test.YtjhpajdkklklhaaFntSizes
import Derived.Test.YtjhpajdkklklhaaFntStr
namespace Go.Proofs.Ytjhpajdkklklhaa.Fon
open Go Go.RowKit Go.Maps Go.ChangeMaps Go.WideMaps By

def partsB (gs : List Gl) (s : St) : Bool := decide (s.parts.length ≤ 8) && (if s.parts.length = 0 then s.ov == 0 else s.parts.all (paOK gs s.ov) && (s.parts.any fun p => p.ext) && decide (0 ≤ s.ov))
theorem stretch_split (gs : List Gl) (s : St) : stretchB gs s = (nameB s.name && (decide (1 ≤ s.sizes.length) && decide (s.sizes.length ≤ 16) && sizesB gs s.sizes) && partsB gs s) := by
  unfold stretchB partsB
  generalize nameB s.name = a
  generalize decide (1 ≤ s.sizes.length) = b
  generalize decide (s.sizes.length ≤ 16) = c
  generalize decide (s.parts.length ≤ 8) = d
  generalize sizesB gs s.sizes = e
  generalize (if s.parts.length = 0 then _ else _ : Bool) = f
  cases a <;> cases b <;> cases c <;> cases d <;> cases e <;> cases f <;> rfl
set_option maxRecDepth 100000 in
set_option maxHeartbeats 2000000 in
theorem parts_any {w : World} {X : Nat} {gs : List Gl} {s : St} {C1 C2 : Option Addr} {e1 e2 : Nat} (h : Looks w X gs) (hd : Dif gs) (hl : s.parts.length ≤ 9223372036854775807) (hst : StIn w w.heap.size s C1 C2) (hs : ∀ p ∈ s.parts, p.name.size ≤ 9223372036854775807) :
    Calls Try.prog 48 #[.agg #[.string s.name, .slice C1 s.sizes.length e1, .slice C2 s.parts.length e2, .int .i64 s.ov], .func (.func 28) #[] #[.pointer (some ⟨X, 0, none⟩)]] w fun e w' => e = .returned (.bool (partsB gs s)) ∧ Below w.heap.size w w' := by
  obtain ⟨F, hF⟩ : ∃ F, partsB gs s = F := ⟨_, rfl⟩
  have HF := Lib.hid hF
  rw [hF]
  obtain ⟨n, hn⟩ : ∃ n, s.parts.length = n := ⟨_, rfl⟩
  have HN := Lib.hid hn
  obtain ⟨l1, hl1⟩ : ∃ l1, s.sizes.length = l1 := ⟨_, rfl⟩
  rw [hn, hl1]
  have hn1 : (n : Int) ≤ 9223372036854775807 := by omega
  have eg : ∀ args w, (callFunc 28 args).run Try.prog w = .ok (.enter 28 args) w := enters_of Try.func28 (by kernel_rfl) rfl
  obtain ⟨N, hN⟩ : ∃ N, w.heap.size = N := ⟨_, rfl⟩
  obtain ⟨W1, hW1⟩ : ∃ W1, w.alloc (.cells #[.string s.name, .slice C1 l1 e1, .slice C2 n e2, .int .i64 s.ov] 37) = W1 := ⟨_, rfl⟩
  have hb1 : Below w.heap.size w W1 := by rw [← hW1]; exact below_new _ _
  have h4 : Four W1 N (.string s.name) (.slice C1 l1 e1) (.slice C2 n e2) (.int .i64 s.ov) := by rw [← hW1]; exact four_new hN _ _ _ _ _
  obtain ⟨⟨c0, c1, c2, c3⟩, _⟩ := h4
  have HB1 := Lib.hid hb1
  have HW := Lib.hid hW1
  have HST := Lib.hid (hst.below hb1).2
  have HL : Hid (∀ W x (V : Int) (O : Bool), Below W1.heap.size W1 W → x ∈ s.parts → hgt gs x.name = V → (findG gs x.name).isSome = O → Calls Try.prog 28 #[.string x.name, .pointer (some ⟨X, 0, none⟩)] W fun e w' => e = .returned (.tuple #[.int .i64 V, .bool O]) ∧ w' = W) := Lib.hid fun W x V O hb hx h1 h2 => h1 ▸ h2 ▸ look_any ((h.below hb1).below hb) hd (hs x hx)
  clear hF hn hl hst hs h hd hl1 hb1 hW1
  by_cases h0 : n = 0
  · have hne : ((n : Int) == 0) = true := by rw [h0]; rfl
    have HX : Hid (F = (s.ov == 0)) := Lib.hid (by rw [← HF.out]; unfold partsB; rw [HN.out, h0]; simp)
    clear h0
    go_enter Try.func48, Try.ntmps48
    go_wp2_with fail
    rw [HW.out]
    go_ret
    exact ⟨ret_bool HX.out.symm, hN ▸ HB1.out⟩
  have hne : ((n : Int) == 0) = false := by simp; omega
  have HN0 := Lib.hid h0
  by_cases h8 : n ≤ 8
  rotate_left
  · have h8i : (8 : Int) < (n : Int) := by omega
    have HX : Hid (F = false) := Lib.hid (by rw [← HF.out]; unfold partsB; rw [HN.out, decide_eq_false h8]; rfl)
    clear h0 h8
    go_enter Try.func48, Try.ntmps48
    go_wp2_with fail
    rw [HW.out]
    go_ret
    exact ⟨ret_bool HX.out.symm, hN ▸ HB1.out⟩
  have h8i : ¬ (8 : Int) < (n : Int) := by omega
  by_cases hov : s.ov < 0
  · have HX : Hid (F = false) := Lib.hid (by rw [← HF.out]; unfold partsB; rw [HN.out, if_neg h0, decide_eq_false (show ¬ 0 ≤ s.ov by omega)]; simp)
    clear h0 h8
    go_enter Try.func48, Try.ntmps48
    go_wp2_with fail
    rw [HW.out]
    go_ret
    exact ⟨ret_bool HX.out.symm, hN ▸ HB1.out⟩
  have HF2 : Hid ((s.parts.all (paOK gs s.ov) && (s.parts.any fun p => p.ext)) = F) := Lib.hid (by rw [← HF.out]; unfold partsB; rw [HN.out, if_neg h0, decide_eq_true h8, decide_eq_true (show 0 ≤ s.ov by omega)]; simp)
  have HP0 : Hid (∀ j (hj : j < s.parts.length), j < 0 → paOK gs s.ov s.parts[j] = true) := Lib.hid fun j _ h => by omega
  have HE0 : Hid (false = (s.parts.take 0).any fun p => p.ext) := Lib.hid (by simp)
  obtain ⟨ps, hps⟩ : ∃ ps, s.parts = ps := ⟨_, rfl⟩
  obtain ⟨ov, hov'⟩ : ∃ ov, s.ov = ov := ⟨_, rfl⟩
  rw [hps] at HN HST HL HF2 HP0 HE0
  rw [hov'] at c3 HF2 HP0 hov HW
  rw [hov']
  clear h0 h8 hps hov' HF
  go_enter Try.func48, Try.ntmps48
  go_wp2_with fail
  rw [HW.out]
  go_loopw [5, 29] (fun x i wr => ∃ (k : Nat) (E : Bool), k ≤ n ∧ x = .bool E ∧ i = .int .i64 k ∧ Hid (∀ j (hj : j < ps.length), j < k → paOK gs ov ps[j] = true) ∧ Hid (E = (ps.take k).any fun p => p.ext) ∧ Hid (Below W1.heap.size W1 wr)) (fun _ i _ => n - (intOf i).toNat)
  case atStart => exact ⟨0, false, Nat.zero_le _, rfl, rfl, HP0, HE0, Lib.hid (Below.refl _ _)⟩
  case round =>
    obtain ⟨k, E, hk, rfl, rfl, HP, HE, HBR⟩ := hrel
    by_cases hlt : k < n
    · have hkl : k < ps.length := by rw [HN.out]; exact hlt
      obtain ⟨b, off, rfl, hb, x0, x1⟩ := (HST.out.below HBR.out).at hkl
      obtain ⟨y, hy⟩ : ∃ y, ps[k]'hkl = y := ⟨_, rfl⟩
      rw [hy] at x0 x1
      obtain ⟨V, hV⟩ : ∃ V, hgt gs y.name = V := ⟨_, rfl⟩
      obtain ⟨O, hO⟩ : ∃ O, (findG gs y.name).isSome = O := ⟨_, rfl⟩
      have HC : Hid (∀ W, Below wr.heap.size wr W → _) := Lib.hid fun W hb => HL.out W y V O (below_self HBR.out hb) (hy ▸ List.getElem_mem hkl) hV hO
      have HV := Lib.hid hV
      have HO := Lib.hid hO
      have HKL := Lib.hid hkl
      have HY : Hid (ps[k]'HKL.out = y) := Lib.hid hy
      have hbn := below_new wr (.cells #[.string y.name, .bool y.ext] 59)
      have z3 := keep_cell hbn (keep_cell HBR.out c3)
      have HBN := Lib.hid hbn
      clear hV hO hy hb hkl hbn
      cases O with
      | false =>
        have HX : Hid (F = false) := Lib.hid (by rw [← HF2.out, all_no HKL.out (by rw [HY.out]; unfold paOK; rw [HO.out]; rfl)]; rfl)
        go_wp2_with (first | (go_at_call 28; refine (HC.out _ HBN.out).mono ?_; rintro e w' ⟨rfl, rfl⟩) | fail)
        go_ret
        exact ⟨ret_bool HX.out.symm, hN ▸ below_self (below_self HB1.out HBR.out) (below_new _ _)⟩
      | true =>
        by_cases hle : V ≤ ov
        · have HX : Hid (F = false) := Lib.hid (by rw [← HF2.out, all_no HKL.out (by rw [HY.out]; exact paOK_no (by rw [HV.out]; exact hle))]; rfl)
          go_wp2_with (first | (go_at_call 28; refine (HC.out _ HBN.out).mono ?_; rintro e w' ⟨rfl, rfl⟩) | fail)
          go_ret
          exact ⟨ret_bool HX.out.symm, hN ▸ below_self (below_self HB1.out HBR.out) (below_new _ _)⟩
        · have HP2 : Hid (∀ j (hj : j < ps.length), j < k + 1 → paOK gs ov ps[j] = true) := Lib.hid fun j hj h => by
            rcases Nat.lt_succ_iff_lt_or_eq.1 h with h' | rfl
            · exact HP.out j hj h'
            · rw [HY.out]; exact paOK_of HO.out (by rw [HV.out]; omega)
          have HE2 : Hid ((E || y.ext) = (ps.take (k + 1)).any fun p => p.ext) := Lib.hid (by rw [any_next HKL.out, ← HE.out, HY.out])
          cases E with
          | true =>
            go_wp2_with (first | (go_at_call 28; refine (HC.out _ HBN.out).mono ?_; rintro e w' ⟨rfl, rfl⟩) | fail)
            go_roundw
            case rel => exact ⟨k + 1, true, by omega, rfl, by go_num, HP2, HE2, Lib.hid (below_self HBR.out (below_new _ _))⟩
            case measure => simp [intOf]; omega
          | false =>
            go_wp2_with (first | (go_at_call 28; refine (HC.out _ HBN.out).mono ?_; rintro e w' ⟨rfl, rfl⟩) | fail)
            go_roundw
            case rel => exact ⟨k + 1, y.ext, by omega, rfl, by go_num, HP2, HE2, Lib.hid (below_self HBR.out (below_new _ _))⟩
            case measure => simp [intOf]; omega
    · have HX : Hid (F = E) := Lib.hid (by
        rw [← HF2.out, all_yes fun j hj => HP.out j hj (by have := HN.out; omega), HE.out, List.take_of_length_le (by rw [HN.out]; omega), Bool.true_and])
      go_wp2_with fail
      go_ret
      exact ⟨ret_bool HX.out.symm, hN ▸ below_self HB1.out HBR.out⟩
end Go.Proofs.Ytjhpajdkklklhaa.Fon
