/- The program's package font: the closure of Valid, validSizes. -/
import Derived.Test.YtjhpajdkklklhaaFntHeights
namespace Go.Proofs.Ytjhpajdkklklhaa.Fon
open Go Go.RowKit Go.Maps Go.ChangeMaps Go.WideMaps By

/-- the closure that looks up glyphs -/
def Looks (w : World) (X : Nat) (gs : List Gl) : Prop := ∃ b, w.cell? ⟨X, 0, none⟩ = some (.map (some b)) ∧ HMap w b gs
theorem Looks.below {w w' : World} {X : Nat} {gs : List Gl} (h : Looks w X gs) (hb : Below w.heap.size w w') : Looks w' X gs := by
  obtain ⟨b, h1, h2⟩ := h
  exact ⟨b, keep_cell hb h1, h2.below hb⟩
theorem look_any {w : World} {X : Nat} {gs : List Gl} {nm : ByteArray} (h : Looks w X gs) (hd : Dif gs) (hs : nm.size ≤ 9223372036854775807) :
    Calls Try.prog 28 #[.string nm, .pointer (some ⟨X, 0, none⟩)] w fun e w' => e = .returned (.tuple #[.int .i64 (hgt gs nm), .bool (findG gs nm).isSome]) ∧ w' = w := by
  obtain ⟨b, h1, h2⟩ := h
  have hlk := h2.look hd hs
  obtain ⟨V, hV⟩ : ∃ V, hgt gs nm = V := ⟨_, rfl⟩
  obtain ⟨O, hO⟩ : ∃ O, (findG gs nm).isSome = O := ⟨_, rfl⟩
  rw [hV, hO] at hlk
  rw [hV, hO]
  clear hV hO h2 hd
  go_enter Try.func28, Try.ntmps28
  go_wp2
  go_ret2
  exact ⟨rfl, rfl⟩
set_option maxRecDepth 100000 in
set_option maxHeartbeats 2000000 in
theorem sizes_any {w : World} {X : Nat} {gs : List Gl} {A : Option Addr} {n c : Nat} {sz : List ByteArray} (h : Looks w X gs) (hd : Dif gs) (hn : n = sz.length) (hl : sz.length ≤ 9223372036854775807) (hst : StrsAt w w.heap.size A sz) (hs : ∀ x ∈ sz, x.size ≤ 9223372036854775807) :
    Calls Try.prog 47 #[.slice A n c, .func (.func 28) #[] #[.pointer (some ⟨X, 0, none⟩)]] w fun e w' => e = .returned (.bool (decide (1 ≤ sz.length) && decide (sz.length ≤ 16) && sizesB gs sz)) ∧ w' = w := by
  obtain ⟨F, hF⟩ : ∃ F, (decide (1 ≤ sz.length) && decide (sz.length ≤ 16) && sizesB gs sz) = F := ⟨_, rfl⟩
  have HF := Lib.hid hF
  rw [hF]
  have HN := Lib.hid hn
  have hn1 : (n : Int) ≤ 9223372036854775807 := by omega
  have HST := Lib.hid hst
  have HL : Hid (∀ x (V : Int) (O : Bool), x ∈ sz → hgt gs x = V → (findG gs x).isSome = O → Calls Try.prog 28 #[.string x, .pointer (some ⟨X, 0, none⟩)] w fun e w' => e = .returned (.tuple #[.int .i64 V, .bool O]) ∧ w' = w) := Lib.hid fun x V O hx h1 h2 => h1 ▸ h2 ▸ look_any h hd (hs x hx)
  have eg : ∀ args w, (callFunc 28 args).run Try.prog w = .ok (.enter 28 args) w := enters_of Try.func28 (by kernel_rfl) rfl
  clear hF hn hl hst hs h hd
  by_cases h0 : n = 0
  · have hne : ((n : Int) == 0) = true := by rw [h0]; rfl
    have HX : Hid (F = false) := Lib.hid (by rw [← HF.out, decide_eq_false (by have := HN.out; omega)]; rfl)
    clear h0
    go_enter Try.func47, Try.ntmps47
    go_wp2_with fail
    go_ret
    exact ⟨ret_bool HX.out.symm, rfl⟩
  have hne : ((n : Int) == 0) = false := by simp; omega
  by_cases h16 : n ≤ 16
  rotate_left
  · have h16i : (16 : Int) < (n : Int) := by omega
    have HX : Hid (F = false) := Lib.hid (by rw [← HF.out, decide_eq_false (show ¬ sz.length ≤ 16 by have := HN.out; omega)]; simp)
    clear h0 h16
    go_enter Try.func47, Try.ntmps47
    go_wp2_with fail
    go_ret
    exact ⟨ret_bool HX.out.symm, rfl⟩
  have h16i : ¬ (16 : Int) < (n : Int) := by omega
  have HF2 : Hid (sizesB gs sz = F) := Lib.hid (by rw [← HF.out, decide_eq_true (show 1 ≤ sz.length by have := HN.out; omega), decide_eq_true (show sz.length ≤ 16 by have := HN.out; omega)]; rfl)
  have HK0 : Hid (∀ j, j < 0 → szOK gs sz j = true) := Lib.hid fun j h => by omega
  have HL0 : Hid (0 < 0 → (0 : Int) = hgt gs (nth sz (0 - 1))) := Lib.hid fun h => by omega
  clear h0
  go_enter Try.func47, Try.ntmps47
  go_wp2_with fail
  go_loop [5, 20] (fun l i => ∃ (k : Nat) (L : Int), k ≤ n ∧ l = .int .i64 L ∧ i = .int .i64 k ∧ Hid (0 < k → L = hgt gs (nth sz (k - 1))) ∧ Hid (∀ j, j < k → szOK gs sz j = true)) (fun _ i => n - (intOf i).toNat)
  case atStart => exact ⟨0, 0, Nat.zero_le _, rfl, rfl, HL0, HK0⟩
  case round =>
    obtain ⟨k, L, hk, rfl, rfl, HLK, HK⟩ := hrel
    by_cases hlt : k < n
    · have hkl : k < sz.length := by rw [← HN.out]; exact hlt
      obtain ⟨b, off, rfl, hb, x0⟩ := HST.out.at hkl
      obtain ⟨y, hy⟩ : ∃ y, sz[k]'hkl = y := ⟨_, rfl⟩
      rw [hy] at x0
      have HNT : Hid (nth sz k = y) := Lib.hid (by rw [nth_at hkl]; exact hy)
      obtain ⟨V, hV⟩ : ∃ V, hgt gs y = V := ⟨_, rfl⟩
      obtain ⟨O, hO⟩ : ∃ O, (findG gs y).isSome = O := ⟨_, rfl⟩
      have HC := Lib.hid (HL.out y V O (hy ▸ List.getElem_mem hkl) hV hO)
      have HV := Lib.hid hV
      have HO := Lib.hid hO
      have HKL := Lib.hid hkl
      clear hV hO hy hb hkl
      cases O with
      | false =>
        have HX : Hid (F = false) := Lib.hid (by rw [← HF2.out]; exact szOK_false HKL.out (by unfold szOK; rw [HNT.out, HO.out]; rfl))
        go_wp2_with (first | (go_at_call 28; refine HC.out.mono ?_; rintro e w' ⟨rfl, rfl⟩) | fail)
        go_ret
        exact ⟨ret_bool HX.out.symm, rfl⟩
      | true =>
        by_cases hk0 : 0 < k
        · have hk0i : (0 : Int) < (k : Int) := by omega
          by_cases hle : V ≤ L
          · have HX : Hid (F = false) := Lib.hid (by rw [← HF2.out]; exact szOK_false HKL.out (szOK_no hk0 (by rw [HNT.out, HV.out, ← HLK.out hk0]; exact hle)))
            go_wp2_with (first | (go_at_call 28; refine HC.out.mono ?_; rintro e w' ⟨rfl, rfl⟩) | fail)
            go_ret
            exact ⟨ret_bool HX.out.symm, rfl⟩
          · have HK2 : Hid (∀ j, j < k + 1 → szOK gs sz j = true) := Lib.hid fun j h => by
              rcases Nat.lt_succ_iff_lt_or_eq.1 h with h' | rfl
              · exact HK.out j h'
              · exact szOK_of (by rw [HNT.out]; exact HO.out) (.inr (by rw [HNT.out, HV.out, ← HLK.out hk0]; omega))
            have HL2 : Hid (0 < k + 1 → V = hgt gs (nth sz (k + 1 - 1))) := Lib.hid fun _ => by rw [Nat.add_sub_cancel, HNT.out, HV.out]
            go_wp2_with (first | (go_at_call 28; refine HC.out.mono ?_; rintro e w' ⟨rfl, rfl⟩) | fail)
            go_round
            case rel => exact ⟨k + 1, V, by omega, rfl, by go_num, HL2, HK2⟩
            case measure => simp [intOf]; omega
        · have hk0i : ¬ (0 : Int) < (k : Int) := by omega
          have HK2 : Hid (∀ j, j < k + 1 → szOK gs sz j = true) := Lib.hid fun j h => by
            rcases Nat.lt_succ_iff_lt_or_eq.1 h with h' | rfl
            · exact HK.out j h'
            · exact szOK_of (by rw [HNT.out]; exact HO.out) (.inl (by omega))
          have HL2 : Hid (0 < k + 1 → V = hgt gs (nth sz (k + 1 - 1))) := Lib.hid fun _ => by rw [Nat.add_sub_cancel, HNT.out, HV.out]
          go_wp2_with (first | (go_at_call 28; refine HC.out.mono ?_; rintro e w' ⟨rfl, rfl⟩) | fail)
          go_round
          case rel => exact ⟨k + 1, V, by omega, rfl, by go_num, HL2, HK2⟩
          case measure => simp [intOf]; omega
    · have HX : Hid (F = true) := Lib.hid (HF2.out ▸ szOK_true fun j hj => HK.out j (by have := HN.out; omega))
      go_wp2_with fail
      go_ret
      exact ⟨ret_bool HX.out.symm, rfl⟩
end Go.Proofs.Ytjhpajdkklklhaa.Fon
