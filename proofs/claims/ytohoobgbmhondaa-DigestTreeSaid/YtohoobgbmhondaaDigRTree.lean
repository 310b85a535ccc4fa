/- The digest of a tree, of the reference. -/
import Derived.Test.YtohoobgbmhondaaDigTree2
namespace Go.Proofs.Ytohoobgbmhondaa.Nod
open Go Go.RowKit By

set_option maxRecDepth 100000 in
set_option maxHeartbeats 2000000 in
/-- Tree of the reference -/
theorem rtree_n : ∀ (n : Nat) (t : N) (tv : Value) (F : Nat → Prop) (w : World), szN t ≤ n → n ≤ 500 → txN 140737488351232 140737488351232 t → Lies w F t tv →
    Calls Try.prog 25 #[tv] w fun e w' => e = .returned (.int .u64 (digN t)) ∧ Below w.heap.size w w' := by
  intro n
  induction n with
  | zero => intro t tv F w h; have := szN_pos t; omega
  | succ n ih =>
    intro t tv F w hn hnm hx hT
    obtain ⟨k, s, i, l⟩ := t
    obtain ⟨sb, A, c, rfl, hs, hk, hi, hs2, hl, hA⟩ := hT.node
    have hsz : Hid (szN (.node k s i l) = 1 + szNL l) := Lib.hid rfl
    have IH := Lib.hid ih
    have hll : l.length ≤ 500 := by have := szNL_len l; have := hsz.out; omega
    simp only [txN] at hx
    have HTX := Lib.hid hx.2.2
    have HBD : Hid (32 + s.length + 8 * (digNL l).length ≤ 140737488355328) := Lib.hid (by rw [digNL_len]; have := hx.1; omega)
    obtain ⟨R, hR⟩ : ∃ R, updI startI (joinL k i s (digNL l)) = R := ⟨_, rfl⟩
    have HR := Lib.hid hR
    simp only [digN]
    rw [hR]
    obtain ⟨q, hq⟩ : ∃ q, l.length = q := ⟨_, rfl⟩
    rw [hq]
    obtain ⟨N0, hN⟩ : ∃ N, w.heap.size = N := ⟨_, rfl⟩
    obtain ⟨W1, hW1⟩ : ∃ W1, W1 = w.alloc (.cells #[.int .i64 k, .string sb, .int .i64 i, .slice A q c] 49) := ⟨_, rfl⟩
    have HW1 := Lib.hid hW1
    have hs1 : W1.heap.size = N0 + 1 := by rw [hW1]; exact size_new hN _
    have hB1 : Below w.heap.size w W1 := by rw [hW1]; exact below_new _ _
    have hc0 : W1.cell? ⟨N0, 0, none⟩ = some (.int .i64 k) := by rw [hW1]; exact new_cell hN _ _ 0 rfl
    have hc1 : W1.cell? ⟨N0, 1, none⟩ = some (.string sb) := by rw [hW1]; exact new_cell hN _ _ 1 rfl
    have hc2 : W1.cell? ⟨N0, 2, none⟩ = some (.int .i64 i) := by rw [hW1]; exact new_cell hN _ _ 2 rfl
    have hc3 : W1.cell? ⟨N0, 3, none⟩ = some (.slice A q c) := by rw [hW1]; exact new_cell hN _ _ 3 rfl
    have hA1 := Lib.hid (hA.below hB1)
    have HB := Lib.hid hB1
    have HS := Lib.hid hs
    have HN := Lib.hid hN
    have HS1 := Lib.hid hs1
    have HQ := Lib.hid hq
    have hq1 : (q : Int) ≤ 500 := by omega
    have hn1 : n ≤ 500 := by omega
    have HND : Hid (∀ x ∈ digNL l, U64 x) := Lib.hid (digNL_bd l)
    obtain ⟨G, hG⟩ : ∃ G, W1.heap.size = G := ⟨_, rfl⟩
    have HG := Lib.hid hG
    clear hT ih hs hA hW1 hi hk hR hB1 hx hs2 hl hq hs1
    obtain ⟨i0, hi0, hz0, hz1, hz2⟩ := info_parts info_u64
    have HX : Hid (NumB W1 W1.heap.size (.slice none 0 0) (digNL (l.take 0))) := Lib.hid (by simp only [List.take_zero, digNL]; exact NumB.nil _ _)
    have HGB : Hid (Below W1.heap.size W1 W1) := Lib.hid (Below.refl _ _)
    go_enter Try.func25, Try.ntmps25
    go_wp2_with fail
    rw [← HW1.out]
    go_loopw [3, 4] (fun a b wr => ∃ (j : Nat) (va : Value), j ≤ q ∧ b = .int .i64 (j : Int) ∧ va = a ∧ Hid (NumB wr W1.heap.size va (digNL (l.take j))) ∧ Hid (Below W1.heap.size W1 wr))
      (fun _ b _ => q - (intOf b).toNat)
    case atStart => exact ⟨0, .slice none 0 0, Nat.zero_le _, rfl, rfl, HX, HGB⟩
    case round =>
      obtain ⟨j, va, hj, rfl, rfl, HXB, HGm⟩ := hrel
      have y0 := old_cell HGm.out hc0 (by have := HS1.out; omega)
      have y1 := old_cell HGm.out hc1 (by have := HS1.out; omega)
      have y2 := old_cell HGm.out hc2 (by have := HS1.out; omega)
      have y3 := old_cell HGm.out hc3 (by have := HS1.out; omega)
      by_cases hlt : j < q
      · have hjl : j < l.length := by rw [HQ.out]; exact hlt
        obtain ⟨b, off, xa, xi, xt, xB, xn, xc, rfl, hF, d0, d1, d2, d3, hLj⟩ := (hA1.out.below HGm.out).at hjl
        have hszj : szN l[j] ≤ n := by have h1 := szNL_get hjl; have h2 := hsz.out; omega
        obtain ⟨D, hD⟩ : ∃ D, digN l[j] = D := ⟨_, rfl⟩
        have HC : Hid (Calls Try.prog 25 #[.agg #[.int .i64 xa, .string xt, .int .i64 xi, .slice xB xn xc]] wr fun e w' => e = .returned (.int .u64 D) ∧ Below wr.heap.size wr w') :=
          Lib.hid (hD ▸ IH.out l[j] _ F wr hszj hn1 (txNL_get HTX.out hjl) hLj)
        obtain ⟨xs, hxs⟩ : ∃ xs, digNL (l.take j) = xs := ⟨_, rfl⟩
        have HXT : Hid (xs ++ [D] = digNL (l.take (j + 1))) := Lib.hid (by rw [digNL_take_succ hjl, hxs, hD])
        have HXL : Hid (xs.length = j) := Lib.hid (by rw [← hxs, digNL_len, List.length_take]; omega)
        rw [hxs] at HXB
        clear hLj hF hD hxs
        go_wp2_with (first
          | (go_at_call 25
             refine HC.out.mono ?_
             rintro e w6 ⟨rfl, hb6⟩
             have HB6 := Lib.hid (HXB.out.below hb6)
             have HG6 := Lib.hid (below_self HGm.out hb6)
             clear hb6)
          | (at_builtin
             refine wpList_append_own_at _ rfl _ _ 44 rfl W1.heap.size 39 i0 (.int .u64 0) 1 8 Try.underlying44 hi0 hz0 hz1 hz2 rfl (by decide) va xs.length (xs.map (Value.int .u64)) rfl (HB6.out.below (below_new _ _)) ⟨w6.heap.size, 0, none⟩ 1 1 [_] rfl rfl (cell_one_new _ _ _)
               (by intro u hu; simp at hu; subst hu; rfl) (by unfold maxLen; have := HXL.out; omega) (by have := HXL.out; omega) (by have := HG6.out.size; simp; omega) ?_
             intro v7 w7 hown hgrow _ hat
             have hB7 := numb_snoc hown
             rw [HXT.out] at hB7
             have HB7 := Lib.hid hB7
             have HG7 := Lib.hid ((below_self HG6.out (below_new w6 _)).grown hgrow (by have := HG6.out.size; simp; omega) HB6.out.low)
             clear hown hgrow hat hB7)
          | fail)
        go_wp2
        go_roundw
        case rel => exact ⟨j + 1, v7, by omega, by go_num, rfl, HB7, HG7⟩
        case measure => simp [intOf]; omega
      · have HXE : Hid (NumB wr W1.heap.size va (digNL l)) := Lib.hid (by
          have h1 := HXB.out
          rwa [List.take_of_length_le (by rw [HQ.out]; omega)] at h1)
        obtain ⟨A9, c9, rfl⟩ := HXE.out.form
        have hql : (digNL l).length = q := by rw [digNL_len, HQ.out]
        have HJ : Hid (Calls Try.prog 22 #[.int .i64 k, .string sb, .int .i64 i, .slice A9 q c9] wr fun e w' => e = .returned (.int .u64 R) ∧ Below wr.heap.size wr w') :=
          Lib.hid (HR.out ▸ rjoin_any HS.out hql.symm HXE.out.at_.2 HND.out HBD.out)
        rw [hql]
        clear hql
        go_wp2_with (first
          | (go_at_call 22
             refine HJ.out.mono ?_
             rintro e w6 ⟨rfl, hb6⟩
             have HB6 := Lib.hid (below_self HGm.out hb6)
             clear hb6)
          | fail)
        go_ret
        exact ⟨rfl, hN ▸ below_self HB.out HB6.out⟩
end Go.Proofs.Ytohoobgbmhondaa.Nod
