/- DigestTree: for every node the law returns true and turns nothing that lay in memory. No condition but the form's own reach. -/
import Derived.SevenTiedAt
import Derived.OpenShut
import Derived.Test.YtohoobgbmhondaaFrame
import Derived.Test.YtohoobgbmhondaaDigRTree
namespace Go.Proofs.Ytohoobgbmhondaa.digestTree
open Go Go.RowKit Go.WideShapes Go.ChangeShapes By Nod

set_option maxRecDepth 100000 in
set_option maxHeartbeats 2000000 in
theorem walk (t : N) (tv : Value) (w : World) (hT : Lies w (fun _ => True) t tv) (hx : txN 140737488351232 140737488351232 t) :
    Calls Try.prog 6 #[tv] w fun e w' => e = .returned (.bool true) ∧ Below w.heap.size w w' := by
  obtain ⟨k, s, i, l⟩ := t
  have hT0 := hT
  obtain ⟨sb, A, c, rfl, _⟩ := hT.node
  obtain ⟨t, ht⟩ : ∃ t, N.node k s i l = t := ⟨_, rfl⟩
  rw [ht] at hT0 hx
  obtain ⟨q, hq⟩ : ∃ q, l.length = q := ⟨_, rfl⟩
  rw [hq] at hT0 ⊢
  obtain ⟨N0, hN⟩ : ∃ N, w.heap.size = N := ⟨_, rfl⟩
  obtain ⟨W1, hW1⟩ : ∃ W1, W1 = w.alloc (.cells #[.int .i64 k, .string sb, .int .i64 i, .slice A q c] 49) := ⟨_, rfl⟩
  have HW1 := Lib.hid hW1
  have hB1 : Below w.heap.size w W1 := by rw [hW1]; exact below_new _ _
  have hc0 : W1.cell? ⟨N0, 0, none⟩ = some (.int .i64 k) := by rw [hW1]; exact new_cell hN _ _ 0 rfl
  have hc1 : W1.cell? ⟨N0, 1, none⟩ = some (.string sb) := by rw [hW1]; exact new_cell hN _ _ 1 rfl
  have hc2 : W1.cell? ⟨N0, 2, none⟩ = some (.int .i64 i) := by rw [hW1]; exact new_cell hN _ _ 2 rfl
  have hc3 : W1.cell? ⟨N0, 3, none⟩ = some (.slice A q c) := by rw [hW1]; exact new_cell hN _ _ 3 rfl
  have HT := Lib.hid (hT0.below hB1)
  have HB := Lib.hid hB1
  have HX := Lib.hid hx
  have HSZ : Hid (∀ W, Below W1.heap.size W1 W → Calls Try.prog 23 #[.agg #[.int .i64 k, .string sb, .int .i64 i, .slice A q c], .int .i64 201] W fun e w' => e = .returned (.int .i64 (min (szN t) 201 : Nat)) ∧ Below W.heap.size W w') :=
    Lib.hid fun W hb => size_n (szN t) t _ _ W 201 (Nat.le_refl _) (by omega) (by omega) (HT.out.below hb)
  clear hT hT0 hq ht hx hB1 hW1
  go_enter Try.func6, Try.ntmps6
  go_wp2_with fail
  rw [← HW1.out]
  by_cases hbig : szN t ≤ 200
  · obtain ⟨m, hm⟩ : ∃ m, min (szN t) 201 = m := ⟨_, rfl⟩
    have hm2 : (m : Int) ≤ 200 := by omega
    have HM := Lib.hid hm
    have HBG := Lib.hid hbig
    obtain ⟨V, hV⟩ : ∃ V, digN t = V := ⟨_, rfl⟩
    have HV := Lib.hid hV
    clear hbig hm hV
    refine (awake_any _).mono ?_
    rintro e w2 ⟨rfl, hb2⟩
    have HB2 := Lib.hid hb2
    replace hc0 := keep_cell hb2 hc0
    replace hc1 := keep_cell hb2 hc1
    replace hc2 := keep_cell hb2 hc2
    replace hc3 := keep_cell hb2 hc3
    clear hb2
    go_wp2_with (first
      | (go_at_call 23
         refine (HSZ.out _ HB2.out).mono ?_
         rintro e w3 ⟨he, hb3⟩
         rw [HM.out] at he
         subst he
         have HB3 := Lib.hid (below_self HB2.out hb3)
         replace hc0 := keep_cell hb3 hc0
         replace hc1 := keep_cell hb3 hc1
         replace hc2 := keep_cell hb3 hc2
         replace hc3 := keep_cell hb3 hc3
         clear hb3)
      | fail)
    have hbW := below_drew w3
    have HTA : Hid (∀ W, Below w3.heap.size w3 W → Calls Try.prog 24 #[.agg #[.int .i64 k, .string sb, .int .i64 i, .slice A q c]] W fun e w' => e = .returned (.int .u64 V) ∧ Below W.heap.size W w') :=
      Lib.hid fun W hb => HV.out ▸ tree_n 200 t _ _ W HBG.out (by omega) HX.out (HT.out.below (below_self HB3.out hb))
    have HTR : Hid (∀ W, Below w3.heap.size w3 W → Calls Try.prog 25 #[.agg #[.int .i64 k, .string sb, .int .i64 i, .slice A q c]] W fun e w' => e = .returned (.int .u64 V) ∧ Below W.heap.size W w') :=
      Lib.hid fun W hb => HV.out ▸ rtree_n 200 t _ _ W HBG.out (by omega) HX.out (HT.out.below (below_self HB3.out hb))
    go_region_held3 (fun w' => w'.cell? ⟨N0, 0, none⟩ = some (.int .i64 k) ∧ w'.cell? ⟨N0, 1, none⟩ = some (.string sb) ∧ w'.cell? ⟨N0, 2, none⟩ = some (.int .i64 i) ∧ w'.cell? ⟨N0, 3, none⟩ = some (.slice A q c))
      (first
        | (refine ⟨?_, ?_, ?_, ?_⟩
           all_goals go_keep)
        | (go_split_ands
           refine ⟨?_, ?_, ?_, ?_⟩
           all_goals ((rw [hbx.cell (World.block_lt_of_cell? _ _ (by assumption))]; assumption)))
        | (go_keep; done))
      (first
        | (go_at_call 24
           with_reducible refine (HTA.out _ hbW).mono ?_
           rintro e w' ⟨rfl, hbx⟩
           replace hbW := below_self hbW hbx)
        | (go_at_call 25
           with_reducible refine (HTR.out _ hbW).mono ?_
           rintro e w' ⟨rfl, hbx⟩
           replace hbW := below_self hbW hbx)
        | fail)
    all_goals go_wp2
    all_goals go_ret
    all_goals exact ⟨ret_bool (by simp), hN ▸ below_self (below_self HB.out HB3.out) hbW⟩
  · obtain ⟨m, hm⟩ : ∃ m, min (szN t) 201 = m := ⟨_, rfl⟩
    have hm2 : ¬ (m : Int) ≤ 200 := by omega
    have hm3 : (200 : Int) < (m : Int) := by omega
    have HM := Lib.hid hm
    clear hbig hm
    refine (awake_any _).mono ?_
    rintro e w2 ⟨rfl, hb2⟩
    have HB2 := Lib.hid hb2
    replace hc0 := keep_cell hb2 hc0
    replace hc1 := keep_cell hb2 hc1
    replace hc2 := keep_cell hb2 hc2
    replace hc3 := keep_cell hb2 hc3
    clear hb2
    go_wp2_with (first
      | (go_at_call 23
         refine (HSZ.out _ HB2.out).mono ?_
         rintro e w3 ⟨he, hb3⟩
         rw [HM.out] at he
         subst he
         have HB3 := Lib.hid (below_self HB2.out hb3)
         clear hb3)
      | (go_at_call 16
         refine (awake_any _).mono ?_
         rintro e w4 ⟨rfl, hb4⟩
         have HB4 := Lib.hid (below_self HB3.out hb4)
         clear hb4)
      | fail)
    go_ret
    exact ⟨rfl, hN ▸ below_self HB.out HB4.out⟩

theorem readable : ∀ t ∈ Try.f6.params.toList, Try.prog.readableRec t = true ∧ t < Try.prog.types.size := Frame.readable_of (by kernel_rfl)

set_option maxRecDepth 100000 in
theorem contract (H : Type) (enc : TypeId × Value → H) (W : World) (base : Nat) (args : Array Value) (ds gs : List (DataW H)) (before : List MemPlace)
    (hval : ∀ (j : Nat) t v, Try.f6.params[j]? = some t → args[j]? = some v → Value.okWide Try.prog W .any base t v)
    (hW : DataW.Whole enc Try.prog Try.f6.params.toList Rows.digestTreeSpec.vars false W args.toList ds gs before) (hT : True) (hsz : (DataW.weightsEach Try.prog (Try.f6.params.toList ++ (OpenSpec.ofChange Rows.digestTreeSpec).bare.plain.varTypes Try.prog) (ds ++ gs)).all (· ≤ reachBytes) = true) :
    Calls Try.prog 6 args W fun e W' => ∃ v, e = .returned v ∧ Rows.digestTreeSpec.post enc Try.prog Try.f6 false true false false W args v W' := by
  have hW' := hW
  obtain ⟨p, q, hA0, hV, rfl, hfz, hnd⟩ := hW
  have hA : DataW.TrodAll enc Try.prog W 0 (fun _ => true) true Try.f6.params.toList args.toList ds p := hA0
  rw [Try.params6] at hA hval
  obtain ⟨v0, vs0, d0, ds0, p0, q0, hargs, rfl, rfl, h0, r0⟩ := trodAll_cons hA
  obtain ⟨rfl, rfl, rfl⟩ := trodAll_nil r0
  obtain rfl : args = #[v0] := by cases args; simp_all
  obtain ⟨tv0, hv0, hI0⟩ := Nod.open_node (hval 0 49 v0 rfl rfl) h0
  refine (walk tv0 _ W hv0 (Nod.reach_node (j := 0) hsz rfl rfl hI0)).mono fun e W' ⟨he, hb⟩ => ⟨_, he, Frame.post_law Frame.laidOut readable (by kernel_rfl) Try.underlying4 hW' rfl rfl hb⟩

theorem laid_met (os : Os) : laidMetH Try.prog Rows.digestTreeRow.laid ((World.laidAll Try.prog os Rows.digestTreeRow.laid).forCall (fun _ _ => 0) ⟨#[], #[.agg #[.int .i64 0, .string ⟨#[]⟩, .int .i64 0, .slice none 0 0]], []⟩).memory := by
  rw [MakeChecks.laidMetH_plain _ _ _ (by kernel_rfl)]; exact laidMet_laidAll _ (by kernel_rfl) (by kernel_rfl)
theorem reads (os : Os) {H : Type} (enc : TypeId × Value → H) : ∃ places, DataW.whole enc Try.prog ((World.laidAll Try.prog os Rows.digestTreeRow.laid).forCall (fun _ _ => 0) ⟨#[], #[.agg #[.int .i64 0, .string ⟨#[]⟩, .int .i64 0, .slice none 0 0]], []⟩).memory Try.f6.params.toList Rows.digestTreeSpec.vars false (#[.agg #[.int .i64 0, .string ⟨#[]⟩, .int .i64 0, .slice none 0 0]] : Array Value).toList 8 = some ([.agg [.lit (.int .i64 0), .lit (.string []), .lit (.int .i64 0), .nil]], [], places) :=
  ⟨[], by kernel_rfl⟩
set_option maxRecDepth 100000 in
theorem lifted (os : Os) (started : os.Started) (H : Type) (enc : TypeId × Value → H) (F : Stop.Interp) :
    ReturnsInHanded {} Try.checked os 6 .any ((OpenSpec.ofChange Rows.digestTreeSpec).preRow enc Try.prog Try.f6 Rows.digestTreeRow.domain false Rows.digestTreeRow.laid) (((OpenSpec.ofChange Rows.digestTreeSpec).at F).post enc Try.prog Try.f6 false true false false) := by
  obtain ⟨places, hx⟩ := reads os enc
  refine returnsInHanded_of_row (C := Try.checked) (s := OpenSpec.ofChange Rows.digestTreeSpec) Frame.own started (by kernel_rfl) Try.func6
    (Frame.witness_row_shaped (enc := enc) (C := Try.checked) false (World.laidAll Try.prog os Rows.digestTreeRow.laid) #[.agg #[.int .i64 0, .string ⟨#[]⟩, .int .i64 0, .slice none 0 0]] (World.laidAll_os _ _ _) (World.shaped_of_ZipB (by kernel_rfl) (by kernel_rfl)) (by kernel_rfl)
      (OpenSpec.preRow_of_cond 8 hx (by kernel_rfl) (fun k hk => by cases hk) (by kernel_rfl) (laid_met os))) ?_
  intro W base args ds gs before hval hW _ _ hsz hL hsh _
  rw [MakeChecks.laidMetH_plain _ _ _ (by kernel_rfl)] at hL
  exact contract H enc W base args ds gs before hval hW (trivial) hsz

theorem said : Rows.DigestTreeSaid :=
  OpenClaim.holds_of_cond 6 Try.f6 rfl rfl rfl rfl rfl rfl rfl ⟨rfl, rfl, rfl, rfl, rfl⟩ rfl rfl rfl rfl rfl (by kernel_rfl) Try.func6 (by kernel_rfl)
    (of_decide_eq_true (by kernel_rfl)) (by unfold Func.isWrapper; first | (rw [if_pos (by decide +kernel)]; kernel_rfl) | (rw [if_neg (by decide +kernel)]; exact ⟨rfl, rfl⟩))
    (fun os started H enc _ F => by rw [OpenClaim.pre_eq_preRow]; exact lifted os started H enc F)

end Go.Proofs.Ytohoobgbmhondaa.digestTree
