/- The reference of layer 5: Few. (Written by wip/tools/genfew.py.) -/
import Derived.Test.YtjhpajdkklklhaaFonPick
namespace Go.Proofs.Ytjhpajdkklklhaa.Fon
open Go Go.RowKit By

def stFew (s : St) : Bool := decide (s.sizes.length ≤ 50) && decide (s.parts.length ≤ 50)
theorem few_eq (gs : List Gl) (ss : List St) : fewB gs ss = (decide (gs.length ≤ 500) && (decide (ss.length ≤ 50) && ss.all stFew)) := by
  unfold fewB stFew; rw [Bool.and_assoc]
set_option maxRecDepth 100000 in
set_option maxHeartbeats 2000000 in
theorem rfew_any {w : World} {A B : Option Addr} {n c m d : Nat} {p0 p1 p2 p3 p4 p5 p6 p7 p8 p9 p10 p11 p12 p13 p14 p15 p16 p17 p18 p19 : Int} {gs : List Gl} {ss : List St} (hn : n = gs.length) (hm : m = ss.length) (hl : gs.length ≤ 9223372036854775807) (hl2 : ss.length ≤ 9223372036854775807) (hg : StsAt w w.heap.size B ss) :
    Calls Try.prog 11 #[.agg #[.slice A n c, .slice B m d, .int .i64 p0, .int .i64 p1, .int .i64 p2, .int .i64 p3, .int .i64 p4, .int .i64 p5, .int .i64 p6, .int .i64 p7, .int .i64 p8, .int .i64 p9, .int .i64 p10, .int .i64 p11, .int .i64 p12, .int .i64 p13, .int .i64 p14, .int .i64 p15, .int .i64 p16, .int .i64 p17, .int .i64 p18, .int .i64 p19]] w fun e w' => e = .returned (.bool (fewB gs ss)) ∧ Below w.heap.size w w' := by
  obtain ⟨F, hF⟩ : ∃ F, fewB gs ss = F := ⟨_, rfl⟩
  have HF := Lib.hid ((few_eq gs ss).symm.trans hF)
  rw [hF]
  have hn1 : (n : Int) ≤ 9223372036854775807 := by omega
  have hm1 : (m : Int) ≤ 9223372036854775807 := by omega
  have HN := Lib.hid hn
  have HM := Lib.hid hm
  obtain ⟨N, hN⟩ : ∃ N, w.heap.size = N := ⟨_, rfl⟩
  obtain ⟨W1, hW1⟩ : ∃ W', W' = w.alloc (.cells #[.slice A n c, .slice B m d, .int .i64 p0, .int .i64 p1, .int .i64 p2, .int .i64 p3, .int .i64 p4, .int .i64 p5, .int .i64 p6, .int .i64 p7, .int .i64 p8, .int .i64 p9, .int .i64 p10, .int .i64 p11, .int .i64 p12, .int .i64 p13, .int .i64 p14, .int .i64 p15, .int .i64 p16, .int .i64 p17, .int .i64 p18, .int .i64 p19] 27) := ⟨_, rfl⟩
  have ba : Below w.heap.size w W1 := by rw [hW1]; exact below_new _ _
  have c0 : W1.cell? ⟨N, 0, none⟩ = some (.slice A n c) := by rw [hW1]; exact new_cell hN _ _ 0 rfl
  have c1 : W1.cell? ⟨N, 1, none⟩ = some (.slice B m d) := by rw [hW1]; exact new_cell hN _ _ 1 rfl
  have HW := Lib.hid hW1
  have HB := Lib.hid ba
  have HG := Lib.hid (hg.below ba)
  have H0 : Hid ((ss.take 0).all stFew = true) := Lib.hid (by simp)
  clear hn hm hF ba hW1 hg
  go_enter Try.func11, Try.ntmps11
  go_upto_region 1 with fail
  rw [← HW.out]
  by_cases h1 : n ≤ 500
  · have h1i : ¬ (500 : Int) < (n : Int) := by omega
    by_cases h2 : m ≤ 50
    · have h2i : ¬ (50 : Int) < (m : Int) := by omega
      have HF2 : Hid (ss.all stFew = F) := Lib.hid (by rw [← HF.out]; simp [← HN.out, ← HM.out, h1, h2])
      clear h1 h2 HF
      go_wp2_with fail
      go_loop [3] (fun i => ∃ k : Nat, k ≤ m ∧ i = .int .i64 k ∧ Hid ((ss.take k).all stFew = true)) (fun i => m - (intOf i).toNat)
      case atStart => exact ⟨0, Nat.zero_le _, rfl, H0⟩
      case round =>
        obtain ⟨k, hk, rfl, HK⟩ := hrel
        by_cases hlt : k < m
        · have hkl : k < ss.length := by rw [← HM.out]; exact hlt
          obtain ⟨b, off, C1, d1, C2, d2, rfl, hb, x0, x1, x2, x3, _⟩ := HG.out.at hkl
          obtain ⟨y, hy⟩ : ∃ y, ss[k] = y := ⟨_, rfl⟩
          rw [hy] at x0 x1 x2 x3
          obtain ⟨s1, hs1⟩ : ∃ s, y.sizes.length = s := ⟨_, rfl⟩
          obtain ⟨s2, hs2⟩ : ∃ s, y.parts.length = s := ⟨_, rfl⟩
          rw [hs1] at x1
          rw [hs2] at x2
          have hout : stFew y = false → F = false := fun h => by
            rw [← HF2.out, List.all_eq_false]
            exact ⟨y, hy ▸ List.getElem_mem hkl, by rw [h]; decide⟩
          have hin : stFew y = true → (ss.take (k + 1)).all stFew = true := fun h => by
            rw [List.take_succ_eq_append_getElem hkl, List.all_append, HK.out, hy]
            simp [h]
          by_cases g1 : s1 ≤ 50
          · have g1i : ¬ (50 : Int) < (s1 : Int) := by omega
            by_cases g2 : s2 ≤ 50
            · have g2i : ¬ (50 : Int) < (s2 : Int) := by omega
              have HX := Lib.hid (hin (by unfold stFew; simp; omega))
              clear hs1 hs2 hy hb hout hin g1 g2
              go_wp2_with fail
              go_round
              case rel => exact ⟨k + 1, by omega, by go_num, HX⟩
              case measure => simp [intOf]; omega
            · have g2i : (50 : Int) < (s2 : Int) := by omega
              have HX := Lib.hid (hout (by unfold stFew; simp; omega))
              clear hs1 hs2 hy hb hout hin g1 g2
              go_wp2_with fail
              go_ret
              exact ⟨ret_bool HX.out.symm, hN ▸ HB.out⟩
          · have g1i : (50 : Int) < (s1 : Int) := by omega
            have HX := Lib.hid (hout (by unfold stFew; simp; omega))
            clear hs1 hs2 hy hb hout hin g1
            go_wp2_with fail
            go_ret
            exact ⟨ret_bool HX.out.symm, hN ▸ HB.out⟩
        · have HX : Hid (F = true) := Lib.hid (by
            have := HK.out
            rwa [List.take_of_length_le (by rw [← HM.out]; omega), HF2.out] at this)
          go_wp2_with fail
          go_ret
          exact ⟨ret_bool HX.out.symm, hN ▸ HB.out⟩
    · have h2i : (50 : Int) < (m : Int) := by omega
      have HX : Hid (F = false) := Lib.hid (by rw [← HF.out]; simp [← HN.out, ← HM.out, h2])
      clear h1 h2 HF
      go_wp2_with fail
      go_ret
      exact ⟨ret_bool HX.out.symm, hN ▸ HB.out⟩
  · have h1i : (500 : Int) < (n : Int) := by omega
    have HX : Hid (F = false) := Lib.hid (by rw [← HF.out]; simp [← HN.out, h1])
    clear h1 HF
    go_wp2_with fail
    go_ret
    exact ⟨ret_bool HX.out.symm, hN ▸ HB.out⟩
end Go.Proofs.Ytjhpajdkklklhaa.Fon
