/- DigestKids: for every node the law returns true and turns nothing that lay in memory. No condition but the form's own reach. -/
import Derived.SevenTiedAt
import Derived.OpenShut
import Derived.Test.YtohoobgbmhondaaFrame
import Derived.Test.YtohoobgbmhondaaDigRTree
namespace Go.Proofs.Ytohoobgbmhondaa.digestKids
open Go Go.RowKit Go.WideShapes Go.ChangeShapes By Nod

set_option maxRecDepth 100000 in
set_option maxHeartbeats 4000000 in
theorem walk (t : N) (tv : Value) (w : World) (hT : Lies w (fun _ => True) t tv) (hx : txN 140737488351232 140737488351232 t) :
    Calls Try.prog 8 #[tv] w fun e w' => e = .returned (.bool true) ∧ Below w.heap.size w w' := by
  obtain ⟨k, s, i, l⟩ := t
  have hT0 := hT
  obtain ⟨sb, A, c, rfl, hs, _, _, _, _, hA⟩ := hT.node
  have hx0 := hx
  simp only [txN] at hx0
  have HS := Lib.hid hs
  have HTX := Lib.hid hx0.2.2
  have HND : Hid (∀ x ∈ digNL l, U64 x) := Lib.hid (digNL_bd l)
  obtain ⟨V, hV⟩ : ∃ V, digN (.node k s i l) = V := ⟨_, rfl⟩
  have HVJ : Hid (updI startI (joinL k i s (digNL l)) = V) := Lib.hid (by rw [← hV]; simp only [digN])
  have HSN : Hid (szN (.node k s i l) = 1 + szNL l) := Lib.hid rfl
  have HBS : Hid (s.length ≤ 140737488351232) := Lib.hid hx0.1
  clear hx0 hs
  obtain ⟨t, ht⟩ : ∃ t, N.node k s i l = t := ⟨_, rfl⟩
  rw [ht] at hT0 hx HSN hV
  have HV := Lib.hid hV
  obtain ⟨q, hq⟩ : ∃ q, l.length = q := ⟨_, rfl⟩
  have HQ := Lib.hid hq
  rw [hq] at hT0 ⊢
  obtain ⟨N0, hN⟩ : ∃ N, w.heap.size = N := ⟨_, rfl⟩
  obtain ⟨W1, hW1⟩ : ∃ W1, W1 = w.alloc (.cells #[.int .i64 k, .string sb, .int .i64 i, .slice A q c] 49) := ⟨_, rfl⟩
  have HW1 := Lib.hid hW1
  have hB1 : Below w.heap.size w W1 := by rw [hW1]; exact below_new _ _
  have hc0 : W1.cell? ⟨N0, 0, none⟩ = some (.int .i64 k) := by rw [hW1]; exact new_cell hN _ _ 0 rfl
  have hc1 : W1.cell? ⟨N0, 1, none⟩ = some (.string sb) := by rw [hW1]; exact new_cell hN _ _ 1 rfl
  have hc2 : W1.cell? ⟨N0, 2, none⟩ = some (.int .i64 i) := by rw [hW1]; exact new_cell hN _ _ 2 rfl
  have hc3 : W1.cell? ⟨N0, 3, none⟩ = some (.slice A q c) := by rw [hW1]; exact new_cell hN _ _ 3 rfl
  have HT := Lib.hid (hT0.below hB1)
  have HA := Lib.hid (hA.below hB1)
  have HB := Lib.hid hB1
  have HX := Lib.hid hx
  have HSZ : Hid (∀ W, Below W1.heap.size W1 W → Calls Try.prog 23 #[.agg #[.int .i64 k, .string sb, .int .i64 i, .slice A q c], .int .i64 201] W fun e w' => e = .returned (.int .i64 (min (szN t) 201 : Nat)) ∧ Below W.heap.size W w') :=
    Lib.hid fun W hb => size_n (szN t) t _ _ W 201 (Nat.le_refl _) (by omega) (by omega) (HT.out.below hb)
  clear hT hT0 hA hV hq ht hx hB1 hW1
  go_enter Try.func8, Try.ntmps8
  go_wp2_with fail
  rw [← HW1.out]
  by_cases hbig : szN t ≤ 200
  · obtain ⟨m, hm⟩ : ∃ m, min (szN t) 201 = m := ⟨_, rfl⟩
    have hm2 : (m : Int) ≤ 200 := by omega
    have HM := Lib.hid hm
    have HBG := Lib.hid hbig
    have HBD : Hid (32 + s.length + 8 * (digNL l).length ≤ 140737488355328) := Lib.hid (by
      rw [digNL_len]; have h1 := szNL_len l; have h2 := HSN.out; have h3 := HBS.out; omega)
    clear hbig hm
    refine (awake_any _).mono ?_
    rintro e w2 ⟨rfl, hb2⟩
    have HB2 := Lib.hid hb2
    replace hc0 := keep_cell hb2 hc0
    replace hc1 := keep_cell hb2 hc1
    replace hc2 := keep_cell hb2 hc2
    replace hc3 := keep_cell hb2 hc3
    clear hb2
    go_wp2_with (first
      | (go_at_call 23
         refine (HSZ.out _ HB2.out).mono ?_
         rintro e w3 ⟨he, hb3⟩
         rw [HM.out] at he
         subst he
         have HB3 := Lib.hid (below_self HB2.out hb3)
         replace hc0 := keep_cell hb3 hc0
         replace hc1 := keep_cell hb3 hc1
         replace hc2 := keep_cell hb3 hc2
         replace hc3 := keep_cell hb3 hc3
         clear hb3)
      | fail)
    have HTA : Hid (∀ W, Below w3.heap.size w3 W → Calls Try.prog 24 #[.agg #[.int .i64 k, .string sb, .int .i64 i, .slice A q c]] W fun e w' => e = .returned (.int .u64 V) ∧ Below W.heap.size W w') :=
      Lib.hid fun W hb => HV.out ▸ tree_n 200 t _ _ W HBG.out (by omega) HX.out (HT.out.below (below_self HB3.out hb))
    have HA3 := Lib.hid (HA.out.below HB3.out)
    have hq1 : (q : Int) ≤ 200 := by have h1 := szNL_len l; have h2 := HBG.out; have h3 := HSN.out; have h4 := HQ.out; omega
    obtain ⟨i0, hi0, hz0, hz1, hz2⟩ := info_parts info_u64
    have HX0 : Hid (NumB w3 w3.heap.size (.slice none 0 0) (digNL (l.take 0))) := Lib.hid (by simp only [List.take_zero, digNL]; exact NumB.nil _ _)
    have HGB : Hid (Below w3.heap.size w3 w3) := Lib.hid (Below.refl _ _)
    go_loopw [3, 17] (fun a b wr => ∃ (j : Nat) (va : Value), j ≤ q ∧ b = .int .i64 (j : Int) ∧ va = a ∧ Hid (NumB wr w3.heap.size va (digNL (l.take j))) ∧ Hid (Below w3.heap.size w3 wr))
      (fun _ b _ => q - (intOf b).toNat)
    case atStart => exact ⟨0, .slice none 0 0, Nat.zero_le _, rfl, rfl, HX0, HGB⟩
    case round =>
      obtain ⟨j, va, hj, rfl, rfl, HXB, HGm⟩ := hrel
      have y0 := keep_cell HGm.out hc0
      have y1 := keep_cell HGm.out hc1
      have y2 := keep_cell HGm.out hc2
      have y3 := keep_cell HGm.out hc3
      by_cases hlt : j < q
      · have hjl : j < l.length := by rw [HQ.out]; exact hlt
        obtain ⟨b, off, xa, xi, xt, xB, xn, xc, rfl, hF, d0, d1, d2, d3, hLj⟩ := (HA3.out.below HGm.out).at hjl
        have hszj : szN l[j] ≤ 200 := by have h1 := szNL_get hjl; have h2 := HBG.out; have h3 := HSN.out; omega
        obtain ⟨D, hD⟩ : ∃ D, digN l[j] = D := ⟨_, rfl⟩
        have HC : Hid (∀ W, Below wr.heap.size wr W → Calls Try.prog 24 #[.agg #[.int .i64 xa, .string xt, .int .i64 xi, .slice xB xn xc]] W fun e w' => e = .returned (.int .u64 D) ∧ Below W.heap.size W w') :=
          Lib.hid fun W hb => hD ▸ tree_n 200 l[j] _ _ W hszj (by omega) (txNL_get HTX.out hjl) (hLj.below hb)
        obtain ⟨xs, hxs⟩ : ∃ xs, digNL (l.take j) = xs := ⟨_, rfl⟩
        have HXT : Hid (xs ++ [D] = digNL (l.take (j + 1))) := Lib.hid (by rw [digNL_take_succ hjl, hxs, hD])
        have HXL : Hid (xs.length = j) := Lib.hid (by rw [← hxs, digNL_len, List.length_take]; omega)
        rw [hxs] at HXB
        clear hLj hF hD hxs
        go_wp2_with (first
          | (go_at_call 24
             refine (HC.out _ (below_new _ _)).mono ?_
             rintro e w6 ⟨rfl, hb6⟩
             have hbb := below_self (below_new wr _) hb6
             have HB6 := Lib.hid (HXB.out.below hbb)
             have HG6 := Lib.hid (below_self HGm.out hbb)
             clear hb6 hbb)
          | (at_builtin
             refine wpList_append_own_at _ rfl _ _ 44 rfl w3.heap.size 39 i0 (.int .u64 0) 1 8 Try.underlying44 hi0 hz0 hz1 hz2 rfl (by decide) va xs.length (xs.map (Value.int .u64)) rfl (HB6.out.below (below_new _ _)) ⟨w6.heap.size, 0, none⟩ 1 1 [_] rfl rfl (cell_one_new _ _ _)
               (by intro u hu; simp at hu; subst hu; rfl) (by unfold maxLen; have := HXL.out; omega) (by have := HXL.out; omega) (by have := HG6.out.size; simp; omega) ?_
             intro v7 w7 hown hgrow _ hat
             have hB7 := numb_snoc hown
             rw [HXT.out] at hB7
             have HB7 := Lib.hid hB7
             have HG7 := Lib.hid ((below_self HG6.out (below_new w6 _)).grown hgrow (by have := HG6.out.size; simp; omega) HB6.out.low)
             clear hown hgrow hat hB7)
          | fail)
        go_wp2
        go_roundw
        case rel => exact ⟨j + 1, v7, by omega, by go_num, rfl, HB7, HG7⟩
        case measure => simp [intOf]; omega
      · have HXE : Hid (NumB wr w3.heap.size va (digNL l)) := Lib.hid (by
          have h1 := HXB.out
          rwa [List.take_of_length_le (by rw [HQ.out]; omega)] at h1)
        obtain ⟨A9, c9, rfl⟩ := HXE.out.form
        have hql : (digNL l).length = q := by rw [digNL_len, HQ.out]
        rw [hql]
        have hbW := below_drew wr
        have HTW : Hid (∀ W, Below wr.heap.size wr W → Calls Try.prog 24 #[.agg #[.int .i64 k, .string sb, .int .i64 i, .slice A q c]] W fun e w' => e = .returned (.int .u64 V) ∧ Below W.heap.size W w') :=
          Lib.hid fun W hb => HTA.out W (below_self HGm.out hb)
        have HJW : Hid (∀ W, Below wr.heap.size wr W → Calls Try.prog 21 #[.int .i64 k, .string sb, .int .i64 i, .slice A9 q c9] W fun e w' => e = .returned (.int .u64 V) ∧ Below W.heap.size W w') :=
          Lib.hid fun W hb => HVJ.out ▸ join_any HS.out hql.symm (HXE.out.at_.2.below hb) HND.out HBD.out
        clear hql
        go_wp2_with fail
        go_region_held3 (fun w' => w'.cell? ⟨N0, 0, none⟩ = some (.int .i64 k) ∧ w'.cell? ⟨N0, 1, none⟩ = some (.string sb) ∧ w'.cell? ⟨N0, 2, none⟩ = some (.int .i64 i) ∧ w'.cell? ⟨N0, 3, none⟩ = some (.slice A q c))
          (first
            | (refine ⟨?_, ?_, ?_, ?_⟩
               all_goals go_keep)
            | (go_split_ands
               refine ⟨?_, ?_, ?_, ?_⟩
               all_goals ((rw [hbx.cell (World.block_lt_of_cell? _ _ (by assumption))]; assumption)))
            | (go_keep; done))
          (first
            | (go_at_call 24
               with_reducible refine (HTW.out _ hbW).mono ?_
               rintro e w' ⟨rfl, hbx⟩
               replace hbW := below_self hbW hbx)
            | (go_at_call 21
               with_reducible refine (HJW.out _ hbW).mono ?_
               rintro e w' ⟨rfl, hbx⟩
               replace hbW := below_self hbW hbx)
            | fail)
        all_goals go_wp2
        all_goals go_ret
        all_goals exact ⟨ret_bool (by simp), hN ▸ below_self (below_self HB.out (below_self HB3.out HGm.out)) hbW⟩
  · obtain ⟨m, hm⟩ : ∃ m, min (szN t) 201 = m := ⟨_, rfl⟩
    have hm2 : ¬ (m : Int) ≤ 200 := by omega
    have hm3 : (200 : Int) < (m : Int) := by omega
    have HM := Lib.hid hm
    clear hbig hm
    refine (awake_any _).mono ?_
    rintro e w2 ⟨rfl, hb2⟩
    have HB2 := Lib.hid hb2
    replace hc0 := keep_cell hb2 hc0
    replace hc1 := keep_cell hb2 hc1
    replace hc2 := keep_cell hb2 hc2
    replace hc3 := keep_cell hb2 hc3
    clear hb2
    go_wp2_with (first
      | (go_at_call 23
         refine (HSZ.out _ HB2.out).mono ?_
         rintro e w3 ⟨he, hb3⟩
         rw [HM.out] at he
         subst he
         have HB3 := Lib.hid (below_self HB2.out hb3)
         clear hb3)
      | (go_at_call 16
         refine (awake_any _).mono ?_
         rintro e w4 ⟨rfl, hb4⟩
         have HB4 := Lib.hid (below_self HB3.out hb4)
         clear hb4)
      | fail)
    go_ret
    exact ⟨rfl, hN ▸ below_self HB.out HB4.out⟩

theorem readable : ∀ t ∈ Try.f8.params.toList, Try.prog.readableRec t = true ∧ t < Try.prog.types.size := Frame.readable_of (by kernel_rfl)

set_option maxRecDepth 100000 in
theorem contract (H : Type) (enc : TypeId × Value → H) (W : World) (base : Nat) (args : Array Value) (ds gs : List (DataW H)) (before : List MemPlace)
    (hval : ∀ (j : Nat) t v, Try.f8.params[j]? = some t → args[j]? = some v → Value.okWide Try.prog W .any base t v)
    (hW : DataW.Whole enc Try.prog Try.f8.params.toList Rows.digestKidsSpec.vars false W args.toList ds gs before) (hT : True) (hsz : (DataW.weightsEach Try.prog (Try.f8.params.toList ++ (OpenSpec.ofChange Rows.digestKidsSpec).bare.plain.varTypes Try.prog) (ds ++ gs)).all (· ≤ reachBytes) = true) :
    Calls Try.prog 8 args W fun e W' => ∃ v, e = .returned v ∧ Rows.digestKidsSpec.post enc Try.prog Try.f8 false true false false W args v W' := by
  have hW' := hW
  obtain ⟨p, q, hA0, hV, rfl, hfz, hnd⟩ := hW
  have hA : DataW.TrodAll enc Try.prog W 0 (fun _ => true) true Try.f8.params.toList args.toList ds p := hA0
  rw [Try.params8] at hA hval
  obtain ⟨v0, vs0, d0, ds0, p0, q0, hargs, rfl, rfl, h0, r0⟩ := trodAll_cons hA
  obtain ⟨rfl, rfl, rfl⟩ := trodAll_nil r0
  obtain rfl : args = #[v0] := by cases args; simp_all
  obtain ⟨tv0, hv0, hI0⟩ := Nod.open_node (hval 0 49 v0 rfl rfl) h0
  refine (walk tv0 _ W hv0 (Nod.reach_node (j := 0) hsz rfl rfl hI0)).mono fun e W' ⟨he, hb⟩ => ⟨_, he, Frame.post_law Frame.laidOut readable (by kernel_rfl) Try.underlying4 hW' rfl rfl hb⟩

theorem laid_met (os : Os) : laidMetH Try.prog Rows.digestKidsRow.laid ((World.laidAll Try.prog os Rows.digestKidsRow.laid).forCall (fun _ _ => 0) ⟨#[], #[.agg #[.int .i64 0, .string ⟨#[]⟩, .int .i64 0, .slice none 0 0]], []⟩).memory := by
  rw [MakeChecks.laidMetH_plain _ _ _ (by kernel_rfl)]; exact laidMet_laidAll _ (by kernel_rfl) (by kernel_rfl)
theorem reads (os : Os) {H : Type} (enc : TypeId × Value → H) : ∃ places, DataW.whole enc Try.prog ((World.laidAll Try.prog os Rows.digestKidsRow.laid).forCall (fun _ _ => 0) ⟨#[], #[.agg #[.int .i64 0, .string ⟨#[]⟩, .int .i64 0, .slice none 0 0]], []⟩).memory Try.f8.params.toList Rows.digestKidsSpec.vars false (#[.agg #[.int .i64 0, .string ⟨#[]⟩, .int .i64 0, .slice none 0 0]] : Array Value).toList 8 = some ([.agg [.lit (.int .i64 0), .lit (.string []), .lit (.int .i64 0), .nil]], [], places) :=
  ⟨[], by kernel_rfl⟩
set_option maxRecDepth 100000 in
theorem lifted (os : Os) (started : os.Started) (H : Type) (enc : TypeId × Value → H) (F : Stop.Interp) :
    ReturnsInHanded {} Try.checked os 8 .any ((OpenSpec.ofChange Rows.digestKidsSpec).preRow enc Try.prog Try.f8 Rows.digestKidsRow.domain false Rows.digestKidsRow.laid) (((OpenSpec.ofChange Rows.digestKidsSpec).at F).post enc Try.prog Try.f8 false true false false) := by
  obtain ⟨places, hx⟩ := reads os enc
  refine returnsInHanded_of_row (C := Try.checked) (s := OpenSpec.ofChange Rows.digestKidsSpec) Frame.own started (by kernel_rfl) Try.func8
    (Frame.witness_row_shaped (enc := enc) (C := Try.checked) false (World.laidAll Try.prog os Rows.digestKidsRow.laid) #[.agg #[.int .i64 0, .string ⟨#[]⟩, .int .i64 0, .slice none 0 0]] (World.laidAll_os _ _ _) (World.shaped_of_ZipB (by kernel_rfl) (by kernel_rfl)) (by kernel_rfl)
      (OpenSpec.preRow_of_cond 8 hx (by kernel_rfl) (fun k hk => by cases hk) (by kernel_rfl) (laid_met os))) ?_
  intro W base args ds gs before hval hW _ _ hsz hL hsh _
  rw [MakeChecks.laidMetH_plain _ _ _ (by kernel_rfl)] at hL
  exact contract H enc W base args ds gs before hval hW (trivial) hsz

theorem said : Rows.DigestKidsSaid :=
  OpenClaim.holds_of_cond 8 Try.f8 rfl rfl rfl rfl rfl rfl rfl ⟨rfl, rfl, rfl, rfl, rfl⟩ rfl rfl rfl rfl rfl (by kernel_rfl) Try.func8 (by kernel_rfl)
    (of_decide_eq_true (by kernel_rfl)) (by unfold Func.isWrapper; first | (rw [if_pos (by decide +kernel)]; kernel_rfl) | (rw [if_neg (by decide +kernel)]; exact ⟨rfl, rfl⟩))
    (fun os started H enc _ F => by rw [OpenClaim.pre_eq_preRow]; exact lifted os started H enc F)

end Go.Proofs.Ytohoobgbmhondaa.digestKids
