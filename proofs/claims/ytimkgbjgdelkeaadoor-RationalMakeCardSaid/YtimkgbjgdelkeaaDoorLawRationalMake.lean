/- RationalMake: for every two integers the law returns true and turns nothing that lay in memory. Condition: the package-level tables hold what the program's text lays (tied by the card). -/
import Derived.Test.YtimkgbjgdelkeaaDoorCards
import Derived.SevenTiedAt
import Derived.OpenShut
import Derived.Test.YtimkgbjgdelkeaaDoorTie
import Derived.Test.YtimkgbjgdelkeaaDoorLaid
import Derived.Test.YtimkgbjgdelkeaaDoorRatOpen
import Derived.Test.YtimkgbjgdelkeaaDoorRatBds
import Derived.Test.YtimkgbjgdelkeaaDoorRatText
import Derived.Deep.RegionHeld3
namespace Go.Proofs.YtimkgbjgdelkeaaDoor.rationalMake
open Go Go.RowKit Go.WideShapes Go.ChangeShapes Len RatM

set_option maxRecDepth 100000 in
set_option maxHeartbeats 4000000 in
theorem walk (n d : Int) (w : World) (hT : Tabs w) (hn : I64 n) (hd : I64 d) :
    Calls Tryd.prog 3 #[.int .i64 n, .int .i64 d] w fun e w' => e = .returned (.bool true) ∧ Below w.heap.size w w' := by
  obtain ⟨r, h1⟩ : ∃ r, makeZ n d = r := ⟨_, rfl⟩
  have hr := bd_of (bd_make n d) h1
  have rx := hr.x
  have ry := hr.y
  have R1 := Lib.hid h1
  clear h1 hr
  obtain ⟨n1, n2⟩ := id hn
  obtain ⟨d1, d2⟩ := id hd
  go_enter Tryd.func3, Tryd.ntmps3
  go_wp2_with fail
  have hK := Kept.refl hT
  refine (awake_any _ hK.tabs).mono ?_
  rintro e w1 ⟨rfl, hb1⟩
  replace hK := hK.go hb1
  clear hb1
  go_wp2_with fail
  refine (ret_at (make_any n d _ (by omega) (by omega) (by omega) (by omega)) R1).mono ?_
  rintro e w2 ⟨rfl, hb⟩
  replace hK := hK.go hb
  clear hb
  go_wp2_with fail
  refine (ret_at (refmake_any n d _ (by omega) (by omega) (by omega) (by omega)) R1).mono ?_
  rintro e w3 ⟨rfl, hb⟩
  replace hK := hK.goA hb
  have t5 := Two.freshA hb
  clear hb
  have t5a := t5.c0
  have t5b := t5.c1
  have t5l := t5.lt
  clear t5a t5b t5l
  go_wp2_with fail
  replace t5 := (t5.alloc (.cells #[.int .i64 r.1, .int .i64 r.2.1] 28)).alloc (.cells #[.int .i64 n, .int .i64 d] 24)
  have t7 := (Two.fresh w3 (.int .i64 r.1) (.int .i64 r.2.1) 28).alloc (.cells #[.int .i64 n, .int .i64 d] 24)
  have t9 := Two.fresh1 w3 (.cells #[.int .i64 r.1, .int .i64 r.2.1] 28) (.int .i64 n) (.int .i64 d) 24
  replace hK := (hK.alloc (.cells #[.int .i64 r.1, .int .i64 r.2.1] 28)).alloc (.cells #[.int .i64 n, .int .i64 d] 24)
  generalize ((w3.alloc (.cells #[.int .i64 r.1, .int .i64 r.2.1] 28)).alloc (.cells #[.int .i64 n, .int .i64 d] 24)) = W at *
  obtain ⟨B7, hB7⟩ : ∃ B, w3.heap.size = B := ⟨_, rfl⟩
  rw [hB7] at t7 t9 ⊢
  clear hB7
  have t5a := t5.c0
  have t5b := t5.c1
  have t5l := t5.lt
  have t7a := t7.c0
  have t7b := t7.c1
  have t7l := t7.lt
  have t9a := t9.c0
  have t9b := t9.c1
  have t9l := t9.lt
  clear t5l
  clear t7l
  clear t9l
  go_region_held3 (fun w' => w'.cell? ⟨w2.heap.size, 0, none⟩ = some (.int .i64 r.1) ∧ w'.cell? ⟨w2.heap.size, 1, none⟩ = some (.int .i64 r.2.1) ∧ w'.cell? ⟨B7, 0, none⟩ = some (.int .i64 r.1) ∧ w'.cell? ⟨B7, 1, none⟩ = some (.int .i64 r.2.1) ∧ w'.cell? ⟨B7 + 1, 0, none⟩ = some (.int .i64 n) ∧ w'.cell? ⟨B7 + 1, 1, none⟩ = some (.int .i64 d) ∧ Kept w w')
    (first
      | (refine ⟨?_, ?_, ?_, ?_, ?_, ?_, Kept.drew (by assumption)⟩
         all_goals go_keep)
      | (go_split_ands
         refine ⟨?_, ?_, ?_, ?_, ?_, ?_, ?_⟩
         · (rw [hbx.cell (World.block_lt_of_cell? _ _ (by assumption))]; assumption)
         · (rw [hbx.cell (World.block_lt_of_cell? _ _ (by assumption))]; assumption)
         · (rw [hbx.cell (World.block_lt_of_cell? _ _ (by assumption))]; assumption)
         · (rw [hbx.cell (World.block_lt_of_cell? _ _ (by assumption))]; assumption)
         · (rw [hbx.cell (World.block_lt_of_cell? _ _ (by assumption))]; assumption)
         · (rw [hbx.cell (World.block_lt_of_cell? _ _ (by assumption))]; assumption)
         · exact Kept.go (by assumption) hbx)
      | (go_keep; done))
    (first
      | (go_at_call 15; refine (is_same r _).mono ?_; rintro e w' ⟨rfl, hbx⟩)
      | (go_at_call 16; go_split_ands; refine (text_any _ _ _ (by assumption) (by assumption) (Kept.tabs (w0 := w) (by assumption))).mono ?_; rintro e w' ⟨rfl, hbx⟩)
      | (go_at_call 17; go_split_ands; refine (reftext_any _ _ _ (by assumption) (by assumption) (Kept.tabs (w0 := w) (by assumption))).mono ?_; rintro e w' ⟨rfl, hbx⟩)
      | (go_at_call 18; refine (valid_any n d _ (by omega) (by omega) (by omega) (by omega)).mono ?_; rintro e w' ⟨rfl, hbx⟩)
      | (go_at_call 19; refine (refvalid_any n d _ (by omega) (by omega) (by omega) (by omega)).mono ?_; rintro e w' ⟨rfl, hbx⟩))
  all_goals go_wp2
  all_goals
    go_ret
    go_split_ands
    exact ⟨rfl, (by assumption : Kept w _).below⟩

theorem readable : ∀ t ∈ Tryd.f3.params.toList, Tryd.prog.readableRec t = true ∧ t < Tryd.prog.types.size := Frame.readable_of (by kernel_rfl)

set_option maxRecDepth 100000 in
theorem contract (H : Type) (enc : TypeId × Value → H) (W : World) (base : Nat) (args : Array Value) (ds gs : List (DataW H)) (before : List MemPlace)
    (hval : ∀ (j : Nat) t v, Tryd.f3.params[j]? = some t → args[j]? = some v → Value.okWide Tryd.prog W .any base t v)
    (hW : DataW.Whole enc Tryd.prog Tryd.f3.params.toList Rows.rationalMakeSpec.vars false W args.toList ds gs before) (hT : Len.Tabs W) :
    Calls Tryd.prog 3 args W fun e W' => ∃ v, e = .returned v ∧ Rows.rationalMakeSpec.post enc Tryd.prog Tryd.f3 false true false false W args v W' := by
  have hW' := hW
  obtain ⟨p, q, hA0, hV, rfl, hfz, hnd⟩ := hW
  have hA : DataW.TrodAll enc Tryd.prog W 0 (fun _ => true) true Tryd.f3.params.toList args.toList ds p := hA0
  rw [Tryd.params3] at hA hval
  obtain ⟨v0, vs0, d0, ds0, p0, q0, hargs, rfl, rfl, h0, r0⟩ := trodAll_cons hA
  obtain ⟨v1, vs1, d1, ds1, p1, q1, rfl, rfl, rfl, h1, r1⟩ := trodAll_cons r0
  obtain ⟨rfl, rfl, rfl⟩ := trodAll_nil r1
  obtain rfl : args = #[v0, v1] := by cases args; simp_all
  obtain ⟨a0, rfl, rfl, rfl, w0⟩ := open_int Tryd.underlying3 (hval 0 3 v0 rfl rfl) h0
  obtain ⟨a1, rfl, rfl, rfl, w1⟩ := open_int Tryd.underlying3 (hval 1 3 v1 rfl rfl) h1
  refine (walk a0 a1 W hT (i64_of w0) (i64_of w1)).mono fun e W' ⟨he, hb⟩ => ⟨_, he, Frame.post_law Frame.laidOut readable (by kernel_rfl) Tryd.underlying4 hW' rfl rfl hb⟩

theorem laid_met (os : Os) : laidMetH Tryd.prog Rows.rationalMakeRow.laid ((World.laidAll Tryd.prog os Rows.rationalMakeRow.laid).forCall (fun _ _ => 0) ⟨#[], #[.int .i64 0, .int .i64 0], []⟩).memory := by
  rw [MakeChecks.laidMetH_plain _ _ _ (by kernel_rfl)]; exact laidMet_laidAll _ (by kernel_rfl) (by kernel_rfl)
theorem reads (os : Os) {H : Type} (enc : TypeId × Value → H) : ∃ places, DataW.whole enc Tryd.prog ((World.laidAll Tryd.prog os Rows.rationalMakeRow.laid).forCall (fun _ _ => 0) ⟨#[], #[.int .i64 0, .int .i64 0], []⟩).memory Tryd.f3.params.toList Rows.rationalMakeSpec.vars false (#[.int .i64 0, .int .i64 0] : Array Value).toList 8 = some ([.lit (.int .i64 0), .lit (.int .i64 0)], [], places) :=
  ⟨[], by kernel_rfl⟩
set_option maxRecDepth 100000 in
theorem lifted (os : Os) (started : os.Started) (H : Type) (enc : TypeId × Value → H) (F : Stop.Interp) :
    ReturnsInHanded {} Tryd.checked os 3 .any ((OpenSpec.ofChange Rows.rationalMakeSpec).preRow enc Tryd.prog Tryd.f3 Rows.rationalMakeRow.domain false Rows.rationalMakeRow.laid) (((OpenSpec.ofChange Rows.rationalMakeSpec).at F).post enc Tryd.prog Tryd.f3 false true false false) := by
  obtain ⟨places, hx⟩ := reads os enc
  refine returnsInHanded_of_row (C := Tryd.checked) (s := OpenSpec.ofChange Rows.rationalMakeSpec) Frame.own started (by kernel_rfl) Tryd.func3
    (Frame.witness_row_shaped (enc := enc) (C := Tryd.checked) false (World.laidAll Tryd.prog os Rows.rationalMakeRow.laid) #[.int .i64 0, .int .i64 0] (World.laidAll_os _ _ _) (World.shaped_of_ZipB (by kernel_rfl) (by kernel_rfl)) (by kernel_rfl)
      (OpenSpec.preRow_of_cond 8 hx (by kernel_rfl) (fun k hk => by cases hk) (by kernel_rfl) (laid_met os))) ?_
  intro W base args ds gs before hval hW _ _ hsz hL hsh _
  rw [MakeChecks.laidMetH_plain _ _ _ (by kernel_rfl)] at hL
  exact contract H enc W base args ds gs before hval hW (Laid.tabs_of hL)

theorem said : Rows.RationalMakeSaid :=
  OpenClaim.holds_of_cond 3 Tryd.f3 rfl rfl rfl rfl rfl rfl rfl ⟨rfl, rfl, rfl, rfl, rfl⟩ rfl rfl rfl rfl rfl (by kernel_rfl) Tryd.func3 (by kernel_rfl)
    (of_decide_eq_true (by kernel_rfl)) (by unfold Func.isWrapper; first | (rw [if_pos (by decide +kernel)]; kernel_rfl) | (rw [if_neg (by decide +kernel)]; exact ⟨rfl, rfl⟩))
    (fun os started H enc _ F => by rw [OpenClaim.pre_eq_preRow]; exact lifted os started H enc F)

/-- No parameter wants a stand-in; the program's own looks are off. -/
theorem plain (f : FuncId) (fn : Func) (hf : Tryd.pinned.checked.prog.funcNamed "vinculum/vinculumlaw02.RationalMake" = some f) (hfn : Tryd.pinned.checked.prog.funcs[f]? = some fn) :
    true = Tryd.pinned.checked.prog.looks [] ∧ ∀ (j : Nat) t, fn.params[j]? = some t → Tryd.pinned.checked.prog.wantsStandIn t = false := by
  obtain rfl : f = 3 := Option.some.inj ((show Tryd.prog.funcNamed "vinculum/vinculumlaw02.RationalMake" = some 3 by kernel_rfl).symm.trans hf) |>.symm
  obtain rfl : fn = Tryd.f3 := (Option.some.inj (Tryd.func3.symm.trans hfn)).symm
  refine ⟨by kernel_rfl, fun j t ht => ?_⟩
  have hall : (Tryd.f3.params.toList.all fun u => !Tryd.prog.wantsStandIn u) = true := by kernel_rfl
  have hm : t ∈ Tryd.f3.params.toList := by simpa using Array.mem_of_getElem? ht
  exact (show Tryd.prog.wantsStandIn t = false by simpa using List.all_eq_true.1 hall t hm)

/-- ████ THE CARD ████ -/
theorem card : Rows.RationalMakeCardSaid :=
  Claim7.holds_tied_plain_at .later [] _ _ _ _ said (fun _ h => by cases h) (by kernel_rfl) (fun _ h => by cases h) rationalMake_row_tie rfl ⟨rfl, rfl⟩ (by kernel_rfl) rfl plain (by kernel_rfl)
end Go.Proofs.YtimkgbjgdelkeaaDoor.rationalMake
