/- The reference of layer 5: numbers, names, metrics of a glyph. -/
import Derived.Test.YtjhpajdkklklhaaFonLies
namespace Go.Proofs.Ytjhpajdkklklhaa.Fon
open Go Go.RowKit By

theorem rwithin_any (n a b : Int) (w : World) : Calls Try.prog 43 #[.int .i64 n, .int .i64 a, .int .i64 b] w fun e w' => e = .returned (.bool (within n a b)) ∧ w' = w := by
  by_cases h1 : a ≤ n
  · by_cases h2 : n ≤ b
    · have HW : Hid (within n a b = true) := Lib.hid (within_iff.2 ⟨h1, h2⟩)
      go_enter Try.func43, Try.ntmps43
      go_wp2
      go_ret
      exact ⟨ret_bool HW.out.symm, rfl⟩
    · have HW : Hid (within n a b = false) := Lib.hid (by unfold within; simp; intro _; omega)
      go_enter Try.func43, Try.ntmps43
      go_wp2
      go_ret
      exact ⟨ret_bool HW.out.symm, rfl⟩
  · have HW : Hid (within n a b = false) := Lib.hid (by unfold within; simp; intro h; omega)
    go_enter Try.func43, Try.ntmps43
    go_wp2
    go_ret
    exact ⟨ret_bool HW.out.symm, rfl⟩
theorem rscale_pos (n p : Int) (w : World) (h0 : 0 ≤ n) (h1 : n ≤ 20000) (p0 : 1 ≤ p) (p1 : p ≤ 1000) : Calls Try.prog 45 #[.int .i64 n, .int .i64 p] w fun e w' => e = .returned (.int .i64 (scl n p)) ∧ w' = w := by
  obtain ⟨b0, b1⟩ := mul_bd h0 h1 p0 p1
  have hn : ¬ n < 0 := by omega
  have HS := Lib.hid (scl_pos (p := p) h0)
  go_enter Try.func45, Try.ntmps45
  go_wp2
  go_ret
  exact ⟨ret_int HS.out.symm, rfl⟩
theorem rscale_any (n p : Int) (w : World) (h0 : -20000 ≤ n) (h1 : n ≤ 20000) (p0 : 1 ≤ p) (p1 : p ≤ 1000) : Calls Try.prog 45 #[.int .i64 n, .int .i64 p] w fun e w' => e = .returned (.int .i64 (scl n p)) ∧ w' = w := by
  by_cases hn : n < 0
  · have HS := Lib.hid (scl_neg (p := p) hn)
    obtain ⟨c0, c1⟩ := scl_bd (n := -n) (p := p) (by omega) (by omega) p0 p1
    have HC := Lib.hid (rscale_pos (-n) p w (by omega) (by omega) p0 p1)
    obtain ⟨R, hR⟩ : ∃ R, scl (-n) p = R := ⟨_, rfl⟩
    rw [hR] at HC HS c0 c1
    clear hR
    go_enter Try.func45, Try.ntmps45
    go_wp2_with (first
      | (go_at_call 45; refine HC.out.mono ?_; rintro e w' ⟨rfl, rfl⟩)
      | fail)
    go_ret
    exact ⟨ret_int HS.out.symm, rfl⟩
  · exact rscale_pos n p w (by omega) h1 p0 p1
def okC (c : UInt8) : Bool := decide (32 ≤ c.toNat) && decide (c.toNat ≤ 126)
set_option maxHeartbeats 1000000 in
theorem rname_any (s : ByteArray) (w : World) (hs : s.size ≤ 9223372036854775807) : Calls Try.prog 50 #[.string s] w fun e w' => e = .returned (.bool (nameB s)) ∧ w' = w := by
  obtain ⟨B, hB⟩ : ∃ B, nameB s = B := ⟨_, rfl⟩
  have HB : Hid ((s.data.toList.all okC && decide (1 ≤ s.size) && decide (s.size ≤ 16)) = B) := Lib.hid hB
  have H0 : Hid ((s.data.toList.take 0).all okC = true) := Lib.hid (by simp)
  rw [hB]
  clear hB
  go_enter Try.func50, Try.ntmps50
  go_wp2
  go_loop [3] (fun i => ∃ k : Nat, k ≤ s.size ∧ i = .int .i64 k ∧ Hid ((s.data.toList.take k).all okC = true)) (fun i => s.size - (intOf i).toNat)
  case atStart => exact ⟨0, Nat.zero_le _, rfl, H0⟩
  case round =>
    obtain ⟨k, hk, rfl, HK⟩ := hrel
    by_cases hlt : k < s.size
    · have hkl : k < s.data.toList.length := by simpa using hlt
      have hg : s.data.toList[k] = s[k] := rfl
      by_cases h1 : (s[k].toNat : Int) < 32
      · have HF : Hid (B = false) := Lib.hid (by
          have hx : okC s[k] = false := by unfold okC; simp; intro h; omega
          have : s.data.toList.all okC = false := by
            rw [List.all_eq_false]
            exact ⟨s[k], hg ▸ List.getElem_mem hkl, by rw [hx]; decide⟩
          rw [← HB.out, this]; rfl)
        clear hg
        go_wp2
        go_ret
        exact ⟨ret_bool HF.out.symm, rfl⟩
      · by_cases h2 : (126 : Int) < (s[k].toNat : Int)
        · have HF : Hid (B = false) := Lib.hid (by
            have hx : okC s[k] = false := by unfold okC; simp; intro _; omega
            have : s.data.toList.all okC = false := by
              rw [List.all_eq_false]
              exact ⟨s[k], hg ▸ List.getElem_mem hkl, by rw [hx]; decide⟩
            rw [← HB.out, this]; rfl)
          clear hg
          go_wp2
          go_ret
          exact ⟨ret_bool HF.out.symm, rfl⟩
        · have HN : Hid ((s.data.toList.take (k + 1)).all okC = true) := Lib.hid (by
            have hx : okC s[k] = true := by unfold okC; simp; omega
            rw [List.take_succ_eq_append_getElem hkl, List.all_append, HK.out, hg]
            simp [hx])
          clear hg
          go_wp2
          go_round
          case rel => exact ⟨k + 1, by omega, by go_num, HN⟩
          case measure => simp [intOf]; omega
    · have HT : Hid ((decide (1 ≤ s.size) && decide (s.size ≤ 16)) = B) := Lib.hid (by
        have := HK.out
        rw [List.take_of_length_le (by simp; omega)] at this
        rw [← HB.out, this, Bool.true_and])
      clear HB
      by_cases h1 : 1 ≤ s.size
      · have h1i : (1 : Int) ≤ (s.size : Int) := by omega
        by_cases h2 : s.size ≤ 16
        · have h2i : (s.size : Int) ≤ 16 := by omega
          have HF : Hid (B = true) := Lib.hid (by rw [← HT.out]; simp [h1, h2])
          clear h1 h2
          go_wp2
          go_ret
          exact ⟨ret_bool HF.out.symm, rfl⟩
        · have h2i : ¬ (s.size : Int) ≤ 16 := by omega
          have HF : Hid (B = false) := Lib.hid (by rw [← HT.out]; simp [h2])
          clear h1 h2
          go_wp2
          go_ret
          exact ⟨ret_bool HF.out.symm, rfl⟩
      · have h1i : ¬ (1 : Int) ≤ (s.size : Int) := by omega
        have HF : Hid (B = false) := Lib.hid (by rw [← HT.out]; simp [h1])
        clear h1
        go_wp2
        go_ret
        exact ⟨ret_bool HF.out.symm, rfl⟩
/-- Height of the reference; the sum wraps -/
theorem rheight_any (g : Gl) (w : World) (hb : -9223372036854775808 ≤ g.H + g.D ∧ g.H + g.D ≤ 9223372036854775807) :
    Calls Try.prog 51 #[.agg #[.string g.name, .int .i64 g.W, .int .i64 g.H, .int .i64 g.D, .int .i64 g.I, .int .i64 g.A]] w fun e w' => e = .returned (.int .i64 (height g)) ∧ Below w.heap.size w w' := by
  obtain ⟨nm, W, H, D, I, A⟩ := g
  obtain ⟨h1, h2⟩ := hb
  simp only [] at h1 h2
  go_enter Try.func51, Try.ntmps51
  go_wp2
  go_ret
  exact ⟨ret_int rfl, below_new _ _⟩
set_option maxRecDepth 100000 in
set_option maxHeartbeats 1000000 in
/-- metrics of the reference -/
theorem rmetrics_any (g : Gl) (w : World) :
    Calls Try.prog 44 #[.agg #[.string g.name, .int .i64 g.W, .int .i64 g.H, .int .i64 g.D, .int .i64 g.I, .int .i64 g.A]] w fun e w' => e = .returned (.bool (metB g)) ∧ Below w.heap.size w w' := by
  obtain ⟨B, hB⟩ : ∃ B, metB g = B := ⟨_, rfl⟩
  have HB : Hid (((mets g).all fun n => within n (-20000) 20000) = B) := Lib.hid hB
  have H0 : Hid ((((mets g).take 0).all fun n => within n (-20000) 20000) = true) := Lib.hid (by simp)
  have HM : Hid (mets g = [g.W, g.H, g.D, g.I, g.A]) := Lib.hid rfl
  obtain ⟨m, hm⟩ : ∃ m, mets g = m := ⟨_, rfl⟩
  have hml : m.length = 5 := by rw [← hm]; rfl
  rw [hB]
  rw [hm] at HB H0 HM
  clear hB hm
  obtain ⟨nm, W, H, D, I, A⟩ := g
  simp only [] at HM ⊢
  obtain ⟨N, hN⟩ : ∃ N, w.heap.size = N := ⟨_, rfl⟩
  obtain ⟨Wa, hWa⟩ : ∃ W', W' = w.alloc (.cells #[.string nm, .int .i64 W, .int .i64 H, .int .i64 D, .int .i64 I, .int .i64 A] 31) := ⟨_, rfl⟩
  obtain ⟨W1, hW1⟩ : ∃ W', W' = Wa.alloc (.cells #[.int .i64 W, .int .i64 H, .int .i64 D, .int .i64 I, .int .i64 A] 3) := ⟨_, rfl⟩
  have sa : Wa.heap.size = N + 1 := by rw [hWa]; exact size_new hN _
  have ba : Below w.heap.size w Wa := by rw [hWa]; exact below_new _ _
  have bb : Below Wa.heap.size Wa W1 := by rw [hW1]; exact below_new _ _
  have hB1 := below_self ba bb
  have hc : Hid (∀ k (h : k < m.length), W1.cell? ⟨N + 1, k, none⟩ = some (.int .i64 m[k])) := Lib.hid fun k h => by
    have hk : k < 5 := by omega
    have e := HM.out
    subst e
    rw [hW1]
    have : k = 0 ∨ k = 1 ∨ k = 2 ∨ k = 3 ∨ k = 4 := by omega
    rcases this with rfl | rfl | rfl | rfl | rfl <;> exact new_cell sa _ _ _ rfl
  have HW : Hid (W1 = (w.alloc (.cells #[.string nm, .int .i64 W, .int .i64 H, .int .i64 D, .int .i64 I, .int .i64 A] 31)).alloc (.cells #[.int .i64 W, .int .i64 H, .int .i64 D, .int .i64 I, .int .i64 A] 3)) := Lib.hid (by rw [hW1, hWa])
  have HBL := Lib.hid hB1
  have HML := Lib.hid hml
  clear sa ba bb hWa hW1 hB1 HM hml
  go_enter Try.func44, Try.ntmps44
  go_wp2_with fail
  rw [← HW.out]
  go_loop [4] (fun i => ∃ k : Nat, k ≤ 5 ∧ i = .int .i64 k ∧ Hid (((m.take k).all fun n => within n (-20000) 20000) = true)) (fun i => 5 - (intOf i).toNat)
  case atStart => exact ⟨0, by omega, rfl, H0⟩
  case round =>
    obtain ⟨k, hk, rfl, HK⟩ := hrel
    by_cases hlt : k < 5
    · have hkm : k < m.length := by rw [HML.out]; exact hlt
      have hck := hc.out k hkm
      obtain ⟨x, hx⟩ : ∃ x, m[k] = x := ⟨_, rfl⟩
      rw [hx] at hck
      cases hv : within x (-20000) 20000 with
      | false =>
        have HC : Hid (Calls Try.prog 43 #[.int .i64 x, .int .i64 (-20000), .int .i64 20000] W1 fun e w' => e = .returned (.bool false) ∧ w' = W1) := Lib.hid (hv ▸ rwithin_any x _ _ _)
        have HF : Hid (B = false) := Lib.hid (by
          rw [← HB.out, List.all_eq_false]
          exact ⟨x, hx ▸ List.getElem_mem hkm, by rw [hv]; decide⟩)
        clear hv hx
        go_wp2_with (first
          | (go_at_call 43; refine HC.out.mono ?_; rintro e w' ⟨rfl, rfl⟩)
          | fail)
        go_ret
        exact ⟨ret_bool HF.out.symm, hN ▸ HBL.out⟩
      | true =>
        have HC : Hid (Calls Try.prog 43 #[.int .i64 x, .int .i64 (-20000), .int .i64 20000] W1 fun e w' => e = .returned (.bool true) ∧ w' = W1) := Lib.hid (hv ▸ rwithin_any x _ _ _)
        have HN : Hid (((m.take (k + 1)).all fun n => within n (-20000) 20000) = true) := Lib.hid (by
          rw [List.take_succ_eq_append_getElem hkm, List.all_append, HK.out, hx]
          simp [hv])
        clear hv hx
        go_wp2_with (first
          | (go_at_call 43; refine HC.out.mono ?_; rintro e w' ⟨rfl, rfl⟩)
          | fail)
        go_round
        case rel => exact ⟨k + 1, by omega, by go_num, HN⟩
        case measure => simp [intOf]; omega
    · have HF : Hid (B = true) := Lib.hid (by
        have := HK.out
        rwa [List.take_of_length_le (by rw [HML.out]; omega), HB.out] at this)
      go_wp2_with fail
      go_ret
      exact ⟨ret_bool HF.out.symm, hN ▸ HBL.out⟩
end Go.Proofs.Ytjhpajdkklklhaa.Fon
