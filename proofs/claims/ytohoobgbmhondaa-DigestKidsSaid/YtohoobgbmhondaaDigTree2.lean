/- The digest of a tree, of the program. -/
import Derived.Test.YtohoobgbmhondaaDigTree
import Derived.Test.YtohoobgbmhondaaNumB
namespace Go.Proofs.Ytohoobgbmhondaa.Nod
open Go Go.RowKit By

theorem set_take {xs : List Int} {j : Nat} (h : j < xs.length) (x : Int) : (xs.set j x).take (j + 1) = xs.take j ++ [x] := by
  rw [List.take_succ_eq_append_getElem (by rw [List.length_set]; exact h), List.getElem_set_self, List.take_set_of_le (Nat.le_refl _)]
theorem digNL_take_succ {l : List N} {j : Nat} (h : j < l.length) : digNL (l.take (j + 1)) = digNL (l.take j) ++ [digN l[j]] := by
  rw [digNL_take, digNL_take, List.take_succ_eq_append_getElem (by rw [digNL_len]; exact h), digNL_get h]
set_option maxRecDepth 100000 in
set_option maxHeartbeats 2000000 in
/-- digest.Tree -/
theorem tree_n : ∀ (n : Nat) (t : N) (tv : Value) (F : Nat → Prop) (w : World), szN t ≤ n → n ≤ 500 → txN 140737488351232 140737488351232 t → Lies w F t tv →
    Calls Try.prog 24 #[tv] w fun e w' => e = .returned (.int .u64 (digN t)) ∧ Below w.heap.size w w' := by
  intro n
  induction n with
  | zero => intro t tv F w h; have := szN_pos t; omega
  | succ n ih =>
    intro t tv F w hn hnm hx hT
    obtain ⟨k, s, i, l⟩ := t
    obtain ⟨sb, A, c, rfl, hs, hk, hi, hs2, hl, hA⟩ := hT.node
    have hsz : Hid (szN (.node k s i l) = 1 + szNL l) := Lib.hid rfl
    have IH := Lib.hid ih
    have hll : l.length ≤ 500 := by have := szNL_len l; have := hsz.out; omega
    simp only [txN] at hx
    have HTX := Lib.hid hx.2.2
    have HBD : Hid (32 + s.length + 8 * (digNL l).length ≤ 140737488355328) := Lib.hid (by rw [digNL_len]; have := hx.1; omega)
    obtain ⟨R, hR⟩ : ∃ R, updI startI (joinL k i s (digNL l)) = R := ⟨_, rfl⟩
    have HR := Lib.hid hR
    simp only [digN]
    rw [hR]
    obtain ⟨q, hq⟩ : ∃ q, l.length = q := ⟨_, rfl⟩
    rw [hq]
    obtain ⟨N0, hN⟩ : ∃ N, w.heap.size = N := ⟨_, rfl⟩
    obtain ⟨W1, hW1⟩ : ∃ W1, W1 = w.alloc (.cells #[.int .i64 k, .string sb, .int .i64 i, .slice A q c] 49) := ⟨_, rfl⟩
    have HW1 := Lib.hid hW1
    have hs1 : W1.heap.size = N0 + 1 := by rw [hW1]; exact size_new hN _
    have hB1 : Below w.heap.size w W1 := by rw [hW1]; exact below_new _ _
    have hc0 : W1.cell? ⟨N0, 0, none⟩ = some (.int .i64 k) := by rw [hW1]; exact new_cell hN _ _ 0 rfl
    have hc1 : W1.cell? ⟨N0, 1, none⟩ = some (.string sb) := by rw [hW1]; exact new_cell hN _ _ 1 rfl
    have hc2 : W1.cell? ⟨N0, 2, none⟩ = some (.int .i64 i) := by rw [hW1]; exact new_cell hN _ _ 2 rfl
    have hc3 : W1.cell? ⟨N0, 3, none⟩ = some (.slice A q c) := by rw [hW1]; exact new_cell hN _ _ 3 rfl
    have hA1 := Lib.hid (hA.below hB1)
    have HB := Lib.hid hB1
    have HS := Lib.hid hs
    have HN := Lib.hid hN
    have HS1 := Lib.hid hs1
    have HQ := Lib.hid hq
    have hq1 : (q : Int) ≤ 500 := by omega
    have hn1 : n ≤ 500 := by omega
    have HND : Hid (∀ x ∈ digNL l, U64 x) := Lib.hid (digNL_bd l)
    obtain ⟨G, hG⟩ : ∃ G, W1.heap.size = G := ⟨_, rfl⟩
    have HG := Lib.hid hG
    clear hT ih hs hA hW1 hi hk hR hB1 hx hs2 hl hq hs1
    go_enter Try.func24, Try.ntmps24
    go_wp2_with (first
      | (at_make
         rw [← HW1.out]
         refine wpList_make_nums (by rfl) (.tmp 8) (.tmp 8) rfl W1.heap.size q rfl rfl (by omega) (Nat.le_refl _) ?_
         rw [HG.out]
         intro w2 hB2 hgrow
         have HX := Lib.hid hB2
         have HGB : Hid (Below W1.heap.size W1 w2) := Lib.hid ((Below.refl _ _).grown hgrow (Nat.le_refl _) (fun k hk => by cases hk))
         have z3 := old_cell HGB.out hc3 (by have := HS1.out; omega)
         clear hB2 hgrow)
      | fail)
    have HX0 : Hid ((List.replicate q (0 : Int)).take 0 = digNL (l.take 0)) := Lib.hid (by simp [digNL])
    have HXL : Hid ((List.replicate q (0 : Int)).length = q) := Lib.hid (by simp)
    go_loopw [13] (fun b wr => ∃ (j : Nat) (xs : List Int), j ≤ q ∧ b = .int .i64 (j : Int) ∧ Hid (xs.length = q) ∧ Hid (xs.take j = digNL (l.take j)) ∧ Hid (NumB wr G (.slice (some ⟨G, 0, none⟩) q q) xs) ∧ Hid (Below W1.heap.size W1 wr))
      (fun b _ => q - (intOf b).toNat)
    case atStart => exact ⟨0, List.replicate q 0, Nat.zero_le _, rfl, HXL, HX0, HX, HGB⟩
    case round =>
      obtain ⟨j, xs, hj, rfl, HXL, HXT, HXB, HGm⟩ := hrel
      have y0 := old_cell HGm.out hc0 (by have := HS1.out; omega)
      have y1 := old_cell HGm.out hc1 (by have := HS1.out; omega)
      have y2 := old_cell HGm.out hc2 (by have := HS1.out; omega)
      have y3 := old_cell HGm.out hc3 (by have := HS1.out; omega)
      by_cases hlt : j < q
      · have hjl : j < l.length := by rw [HQ.out]; exact hlt
        obtain ⟨b, off, xa, xi, xt, xB, xn, xc, rfl, hF, d0, d1, d2, d3, hLj⟩ := (hA1.out.below HGm.out).at hjl
        have hszj : szN l[j] ≤ n := by have h1 := szNL_get hjl; have h2 := hsz.out; omega
        obtain ⟨D, hD⟩ : ∃ D, digN l[j] = D := ⟨_, rfl⟩
        have HC : Hid (∀ W, Below wr.heap.size wr W → Calls Try.prog 24 #[.agg #[.int .i64 xa, .string xt, .int .i64 xi, .slice xB xn xc]] W fun e w' => e = .returned (.int .u64 D) ∧ Below W.heap.size W w') :=
          Lib.hid fun W hb => hD ▸ IH.out l[j] _ F W hszj hn1 (txNL_get HTX.out hjl) (hLj.below hb)
        have hjx : j < xs.length := by rw [HXL.out]; exact hlt
        have HXT2 : Hid ((xs.set j D).take (j + 1) = digNL (l.take (j + 1))) := Lib.hid (by rw [set_take hjx, digNL_take_succ hjl, HXT.out, hD])
        have HXL2 : Hid ((xs.set j D).length = q) := Lib.hid (by rw [List.length_set]; exact HXL.out)
        have hne : G ≤ wr.heap.size := by have := HGm.out.size; omega
        clear hLj hF hD
        go_wp2_with (first
          | (go_at_call 24
             refine (HC.out _ (below_new _ _)).mono ?_
             rintro e w6 ⟨rfl, hb6⟩
             have hbb := below_self (below_new wr _) hb6
             have hB6 := HXB.out.below hbb
             have hg6 := below_self HGm.out hbb
             have hP := hB6.put HXL.out.symm j D
             have hfz := hB6.frz HXL.out.symm j
             have HB7 := Lib.hid hP.1
             have HG7 := Lib.hid (hg6.grown hP.2 hg6.size (fun k hk => by cases hk; rw [HG.out]; exact Nat.le_refl _))
             obtain ⟨g9, off9, hge, _, hc9⟩ := hB6.at_.2.pos (by omega)
             injection hge with hge
             injection hge with e1 e2
             subst e1 e2
             have hcj := hc9 j hjx
             rw [Nat.zero_add] at hcj
             clear hbb hB6 hg6 hP hb6 hc9)
          | fail)
        go_roundw
        case rel => exact ⟨j + 1, xs.set j D, by omega, by go_num, HXL2, HXT2, HB7, HG7⟩
        case measure => simp [intOf]; omega
      · have HXE : Hid (xs = digNL l) := Lib.hid (by
          have h1 := HXT.out
          rw [List.take_of_length_le (by rw [HXL.out]; omega), List.take_of_length_le (by rw [HQ.out]; omega)] at h1
          exact h1)
        have hnm := HXB.out.at_.2
        rw [HXE.out] at hnm
        have HJ : Hid (Calls Try.prog 21 #[.int .i64 k, .string sb, .int .i64 i, .slice (some ⟨G, 0, none⟩) q q] wr fun e w' => e = .returned (.int .u64 R) ∧ Below wr.heap.size wr w') :=
          Lib.hid (HR.out ▸ join_any HS.out (by rw [digNL_len, HQ.out]) hnm HND.out HBD.out)
        clear hnm
        go_wp2_with (first
          | (go_at_call 21
             refine HJ.out.mono ?_
             rintro e w6 ⟨rfl, hb6⟩
             have HB6 := Lib.hid (below_self HGm.out hb6)
             clear hb6)
          | fail)
        go_ret
        exact ⟨rfl, hN ▸ below_self HB.out HB6.out⟩
end Go.Proofs.Ytohoobgbmhondaa.Nod
