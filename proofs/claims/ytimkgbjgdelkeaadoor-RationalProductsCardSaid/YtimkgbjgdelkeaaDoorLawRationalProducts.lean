/- RationalProducts: for every two pairs of integers the law returns true and turns nothing that lay in memory. Condition: the package-level tables hold what the program's text lays (tied by the card). -/
import Derived.Test.YtimkgbjgdelkeaaDoorCards
import Derived.SevenTiedAt
import Derived.OpenShut
import Derived.Test.YtimkgbjgdelkeaaDoorTie
import Derived.Test.YtimkgbjgdelkeaaDoorLaid
import Derived.Test.YtimkgbjgdelkeaaDoorRatOpen
import Derived.Test.YtimkgbjgdelkeaaDoorRatRoot
namespace Go.Proofs.YtimkgbjgdelkeaaDoor.rationalProducts
open Go Go.RowKit Go.WideShapes Go.ChangeShapes Len RatM

set_option maxRecDepth 100000 in
set_option maxHeartbeats 4000000 in
theorem walk (a b c d : Int) (w : World) (hT : Tabs w) (ha : I64 a) (hb : I64 b) (hc : I64 c) (hd : I64 d) :
    Calls Tryd.prog 6 #[.agg #[.int .i64 a, .int .i64 b], .agg #[.int .i64 c, .int .i64 d]] w fun e w' => e = .returned (.bool true) ∧ Below w.heap.size w w' := by
  obtain ⟨r1, h1⟩ : ∃ r, mulZ a b c d = r := ⟨_, rfl⟩
  obtain ⟨r2, h2⟩ : ∃ r, divZ a b c d = r := ⟨_, rfl⟩
  obtain ⟨r3, h3⟩ : ∃ r, rootZ a b = r := ⟨_, rfl⟩
  have R1 := Lib.hid h1
  have R2 := Lib.hid h2
  have R3 := Lib.hid h3
  clear h1 h2 h3
  go_enter Tryd.func6, Tryd.ntmps6
  go_wp2_with fail
  have hK := ((Kept.refl hT).alloc (.cells #[.int .i64 a, .int .i64 b] 28)).alloc (.cells #[.int .i64 c, .int .i64 d] 28)
  have t2 := (Two.fresh w (.int .i64 a) (.int .i64 b) 28).alloc (.cells #[.int .i64 c, .int .i64 d] 28)
  have t3 := Two.fresh1 w (.cells #[.int .i64 a, .int .i64 b] 28) (.int .i64 c) (.int .i64 d) 28
  refine (awake_any _ hK.tabs).mono ?_
  rintro e w1 ⟨rfl, hb1⟩
  replace hK := hK.go hb1
  replace t2 := t2.go hb1
  replace t3 := t3.go hb1
  clear hb1
  have t2a := t2.c0
  have t2b := t2.c1
  have t3a := t3.c0
  have t3b := t3.c1
  have l2 := t2.lt
  have l3 := t3.lt
  go_upto_region 3 with fail
  go_cut [5, 6] (fun s5 s6 wx => ∃ X Y : Nat, s5 = .pointer (some ⟨X, 0, none⟩) ∧ s6 = .pointer (some ⟨Y, 0, none⟩) ∧ Kept w wx ∧ Two wx w.heap.size (.int .i64 a) (.int .i64 b) ∧ Two wx (w.heap.size + 1) (.int .i64 c) (.int .i64 d) ∧ Two wx X (.int .i64 a) (.int .i64 b) ∧ Two wx Y (.int .i64 c) (.int .i64 d))
  case first =>
    go_region
    all_goals go_wp2_with fail
    all_goals go_meet
    all_goals exact ⟨_, _, rfl, rfl, ((hK.alloc _).alloc _).drew, ((t2.alloc _).alloc _).drew, ((t3.alloc _).alloc _).drew, by first | exact ((Two.fresh _ _ _ _).alloc _).drew | exact (Two.fresh1 _ _ _ _ _).drew, by first | exact ((Two.fresh _ _ _ _).alloc _).drew | exact (Two.fresh1 _ _ _ _ _).drew⟩
  case rest =>
    obtain ⟨X, Y, rfl, rfl, hKx, t2x, t3x, t5, t6⟩ := hcut
    clear hK t2 t3 t2a t2b t3a t3b l2 l3
    have t2xa := t2x.c0
    have t2xb := t2x.c1
    have t2xl := t2x.lt
    have t3xa := t3x.c0
    have t3xb := t3x.c1
    have t3xl := t3x.lt
    have t5a := t5.c0
    have t5b := t5.c1
    have t5l := t5.lt
    have t6a := t6.c0
    have t6b := t6.c1
    have t6l := t6.lt
    go_wp2_with fail
    refine (ret_at (mul_any a b c d _ ha hb hc hd) R1).mono ?_
    rintro e w1 ⟨rfl, hb⟩
    clear t2xa t2xb t2xl t3xa t3xb t3xl t5a t5b t5l t6a t6b t6l
    replace hKx := hKx.go hb
    replace t2x := t2x.go hb
    replace t3x := t3x.go hb
    replace t5 := t5.go hb
    replace t6 := t6.go hb
    clear hb
    have t2xa := t2x.c0
    have t2xb := t2x.c1
    have t2xl := t2x.lt
    have t3xa := t3x.c0
    have t3xb := t3x.c1
    have t3xl := t3x.lt
    have t5a := t5.c0
    have t5b := t5.c1
    have t5l := t5.lt
    have t6a := t6.c0
    have t6b := t6.c1
    have t6l := t6.lt
    go_wp2_with fail
    refine (ret_at (refmul_any a b c d _ ha hb hc hd) R1).mono ?_
    rintro e w2 ⟨rfl, hb⟩
    clear t2xa t2xb t2xl t3xa t3xb t3xl t5a t5b t5l t6a t6b t6l
    replace hKx := hKx.goA hb
    replace t2x := t2x.goA hb
    replace t3x := t3x.goA hb
    replace t5 := t5.goA hb
    replace t6 := t6.goA hb
    have t7 := Two.freshA hb
    clear hb
    have t2xa := t2x.c0
    have t2xb := t2x.c1
    have t2xl := t2x.lt
    have t3xa := t3x.c0
    have t3xb := t3x.c1
    have t3xl := t3x.lt
    have t5a := t5.c0
    have t5b := t5.c1
    have t5l := t5.lt
    have t6a := t6.c0
    have t6b := t6.c1
    have t6l := t6.lt
    have t7a := t7.c0
    have t7b := t7.c1
    have t7l := t7.lt
    go_wp2_with fail
    refine (ret_at (div_any a b c d _ ha hb hc hd) R2).mono ?_
    rintro e w3 ⟨rfl, hb⟩
    clear t2xa t2xb t2xl t3xa t3xb t3xl t5a t5b t5l t6a t6b t6l t7a t7b t7l
    replace hKx := hKx.goA hb
    replace t2x := t2x.goA hb
    replace t3x := t3x.goA hb
    replace t5 := t5.goA hb
    replace t6 := t6.goA hb
    replace t7 := t7.goA hb
    have t9 := Two.freshA hb
    clear hb
    have t2xa := t2x.c0
    have t2xb := t2x.c1
    have t2xl := t2x.lt
    have t3xa := t3x.c0
    have t3xb := t3x.c1
    have t3xl := t3x.lt
    have t5a := t5.c0
    have t5b := t5.c1
    have t5l := t5.lt
    have t6a := t6.c0
    have t6b := t6.c1
    have t6l := t6.lt
    have t7a := t7.c0
    have t7b := t7.c1
    have t7l := t7.lt
    have t9a := t9.c0
    have t9b := t9.c1
    have t9l := t9.lt
    go_wp2_with fail
    refine (ret_at (refdiv_any a b c d _ ha hb hc hd) R2).mono ?_
    rintro e w4 ⟨rfl, hb⟩
    clear t2xa t2xb t2xl t3xa t3xb t3xl t5a t5b t5l t6a t6b t6l t7a t7b t7l t9a t9b t9l
    replace hKx := hKx.goA hb
    replace t2x := t2x.goA hb
    replace t3x := t3x.goA hb
    replace t5 := t5.goA hb
    replace t6 := t6.goA hb
    replace t7 := t7.goA hb
    replace t9 := t9.goA hb
    have t11 := Two.freshA hb
    clear hb
    have t2xa := t2x.c0
    have t2xb := t2x.c1
    have t2xl := t2x.lt
    have t3xa := t3x.c0
    have t3xb := t3x.c1
    have t3xl := t3x.lt
    have t5a := t5.c0
    have t5b := t5.c1
    have t5l := t5.lt
    have t6a := t6.c0
    have t6b := t6.c1
    have t6l := t6.lt
    have t7a := t7.c0
    have t7b := t7.c1
    have t7l := t7.lt
    have t9a := t9.c0
    have t9b := t9.c1
    have t9l := t9.lt
    have t11a := t11.c0
    have t11b := t11.c1
    have t11l := t11.lt
    go_wp2_with fail
    refine (ret_at (root_any a b _ ha hb) R3).mono ?_
    rintro e w5 ⟨rfl, hb⟩
    clear t2xa t2xb t2xl t3xa t3xb t3xl t5a t5b t5l t6a t6b t6l t7a t7b t7l t9a t9b t9l t11a t11b t11l
    replace hKx := hKx.goA hb
    replace t2x := t2x.goA hb
    replace t3x := t3x.goA hb
    replace t5 := t5.goA hb
    replace t6 := t6.goA hb
    replace t7 := t7.goA hb
    replace t9 := t9.goA hb
    replace t11 := t11.goA hb
    have t13 := Two.freshA hb
    clear hb
    have t2xa := t2x.c0
    have t2xb := t2x.c1
    have t2xl := t2x.lt
    have t3xa := t3x.c0
    have t3xb := t3x.c1
    have t3xl := t3x.lt
    have t5a := t5.c0
    have t5b := t5.c1
    have t5l := t5.lt
    have t6a := t6.c0
    have t6b := t6.c1
    have t6l := t6.lt
    have t7a := t7.c0
    have t7b := t7.c1
    have t7l := t7.lt
    have t9a := t9.c0
    have t9b := t9.c1
    have t9l := t9.lt
    have t11a := t11.c0
    have t11b := t11.c1
    have t11l := t11.lt
    have t13a := t13.c0
    have t13b := t13.c1
    have t13l := t13.lt
    go_wp2_with fail
    refine (ret_at (refroot_any a b _ ha hb) R3).mono ?_
    rintro e w6 ⟨rfl, hb⟩
    clear t2xa t2xb t2xl t3xa t3xb t3xl t5a t5b t5l t6a t6b t6l t7a t7b t7l t9a t9b t9l t11a t11b t11l t13a t13b t13l
    replace hKx := hKx.goA hb
    replace t2x := t2x.goA hb
    replace t3x := t3x.goA hb
    replace t5 := t5.goA hb
    replace t6 := t6.goA hb
    replace t7 := t7.goA hb
    replace t9 := t9.goA hb
    replace t11 := t11.goA hb
    replace t13 := t13.goA hb
    have t15 := Two.freshA hb
    clear hb
    have t2xa := t2x.c0
    have t2xb := t2x.c1
    have t2xl := t2x.lt
    have t3xa := t3x.c0
    have t3xb := t3x.c1
    have t3xl := t3x.lt
    have t5a := t5.c0
    have t5b := t5.c1
    have t5l := t5.lt
    have t6a := t6.c0
    have t6b := t6.c1
    have t6l := t6.lt
    have t7a := t7.c0
    have t7b := t7.c1
    have t7l := t7.lt
    have t9a := t9.c0
    have t9b := t9.c1
    have t9l := t9.lt
    have t11a := t11.c0
    have t11b := t11.c1
    have t11l := t11.lt
    have t13a := t13.c0
    have t13b := t13.c1
    have t13l := t13.lt
    have t15a := t15.c0
    have t15b := t15.c1
    have t15l := t15.lt
    go_wp2_with fail
    refine (is_same r1 _).mono ?_
    rintro e w7 ⟨rfl, hb⟩
    clear t2xa t2xb t2xl t3xa t3xb t3xl t5a t5b t5l t6a t6b t6l t7a t7b t7l t9a t9b t9l t11a t11b t11l t13a t13b t13l t15a t15b t15l
    replace hKx := hKx.goA hb
    replace t7 := t7.goA hb
    replace t9 := t9.goA hb
    replace t11 := t11.goA hb
    replace t13 := t13.goA hb
    replace t15 := t15.goA hb
    have t17 := Two.freshA hb
    clear hb
    have t7a := t7.c0
    have t7b := t7.c1
    have t7l := t7.lt
    have t9a := t9.c0
    have t9b := t9.c1
    have t9l := t9.lt
    have t11a := t11.c0
    have t11b := t11.c1
    have t11l := t11.lt
    have t13a := t13.c0
    have t13b := t13.c1
    have t13l := t13.lt
    have t15a := t15.c0
    have t15b := t15.c1
    have t15l := t15.lt
    have t17a := t17.c0
    have t17b := t17.c1
    have t17l := t17.lt
    go_wp2_with fail
    refine (is_same r2 _).mono ?_
    rintro e w8 ⟨rfl, hb⟩
    clear t7a t7b t7l t9a t9b t9l t11a t11b t11l t13a t13b t13l t15a t15b t15l t17a t17b t17l
    replace hKx := hKx.go hb
    replace t7 := t7.go hb
    replace t9 := t9.go hb
    replace t11 := t11.go hb
    replace t13 := t13.go hb
    replace t15 := t15.go hb
    replace t17 := t17.go hb
    clear hb
    have t7a := t7.c0
    have t7b := t7.c1
    have t7l := t7.lt
    have t9a := t9.c0
    have t9b := t9.c1
    have t9l := t9.lt
    have t11a := t11.c0
    have t11b := t11.c1
    have t11l := t11.lt
    have t13a := t13.c0
    have t13b := t13.c1
    have t13l := t13.lt
    have t15a := t15.c0
    have t15b := t15.c1
    have t15l := t15.lt
    have t17a := t17.c0
    have t17b := t17.c1
    have t17l := t17.lt
    go_wp2_with fail
    refine (is_same r3 _).mono ?_
    rintro e w9 ⟨rfl, hb⟩
    clear t7a t7b t7l t9a t9b t9l t11a t11b t11l t13a t13b t13l t15a t15b t15l t17a t17b t17l
    replace hKx := hKx.go hb
    replace t7 := t7.go hb
    replace t9 := t9.go hb
    replace t11 := t11.go hb
    replace t13 := t13.go hb
    replace t15 := t15.go hb
    replace t17 := t17.go hb
    clear hb
    have t7a := t7.c0
    have t7b := t7.c1
    have t7l := t7.lt
    have t9a := t9.c0
    have t9b := t9.c1
    have t9l := t9.lt
    have t11a := t11.c0
    have t11b := t11.c1
    have t11l := t11.lt
    have t13a := t13.c0
    have t13b := t13.c1
    have t13l := t13.lt
    have t15a := t15.c0
    have t15b := t15.c1
    have t15l := t15.lt
    have t17a := t17.c0
    have t17b := t17.c1
    have t17l := t17.lt
    go_wp2_with fail
    go_ret
    exact ⟨rfl, hKx.below⟩

theorem readable : ∀ t ∈ Tryd.f6.params.toList, Tryd.prog.readableRec t = true ∧ t < Tryd.prog.types.size := Frame.readable_of (by kernel_rfl)

set_option maxRecDepth 100000 in
theorem contract (H : Type) (enc : TypeId × Value → H) (W : World) (base : Nat) (args : Array Value) (ds gs : List (DataW H)) (before : List MemPlace)
    (hval : ∀ (j : Nat) t v, Tryd.f6.params[j]? = some t → args[j]? = some v → Value.okWide Tryd.prog W .any base t v)
    (hW : DataW.Whole enc Tryd.prog Tryd.f6.params.toList Rows.rationalProductsSpec.vars false W args.toList ds gs before) (hT : Len.Tabs W) :
    Calls Tryd.prog 6 args W fun e W' => ∃ v, e = .returned v ∧ Rows.rationalProductsSpec.post enc Tryd.prog Tryd.f6 false true false false W args v W' := by
  have hW' := hW
  obtain ⟨p, q, hA0, hV, rfl, hfz, hnd⟩ := hW
  have hA : DataW.TrodAll enc Tryd.prog W 0 (fun _ => true) true Tryd.f6.params.toList args.toList ds p := hA0
  rw [Tryd.params6] at hA hval
  obtain ⟨v0, vs0, d0, ds0, p0, q0, hargs, rfl, rfl, h0, r0⟩ := trodAll_cons hA
  obtain ⟨v1, vs1, d1, ds1, p1, q1, rfl, rfl, rfl, h1, r1⟩ := trodAll_cons r0
  obtain ⟨rfl, rfl, rfl⟩ := trodAll_nil r1
  obtain rfl : args = #[v0, v1] := by cases args; simp_all
  obtain ⟨x0, y0, rfl, u0, z0⟩ := open_two Tryd.underlying28 (by kernel_rfl) (by kernel_rfl) Tryd.underlying3 Tryd.underlying3 (hval 0 28 v0 rfl rfl) h0
  obtain ⟨x1, y1, rfl, u1, z1⟩ := open_two Tryd.underlying28 (by kernel_rfl) (by kernel_rfl) Tryd.underlying3 Tryd.underlying3 (hval 1 28 v1 rfl rfl) h1
  refine (walk x0 y0 x1 y1 W hT u0 z0 u1 z1).mono fun e W' ⟨he, hb⟩ => ⟨_, he, Frame.post_law Frame.laidOut readable (by kernel_rfl) Tryd.underlying4 hW' rfl rfl hb⟩

theorem laid_met (os : Os) : laidMetH Tryd.prog Rows.rationalProductsRow.laid ((World.laidAll Tryd.prog os Rows.rationalProductsRow.laid).forCall (fun _ _ => 0) ⟨#[], #[.agg #[.int .i64 0, .int .i64 0], .agg #[.int .i64 0, .int .i64 0]], []⟩).memory := by
  rw [MakeChecks.laidMetH_plain _ _ _ (by kernel_rfl)]; exact laidMet_laidAll _ (by kernel_rfl) (by kernel_rfl)
theorem reads (os : Os) {H : Type} (enc : TypeId × Value → H) : ∃ places, DataW.whole enc Tryd.prog ((World.laidAll Tryd.prog os Rows.rationalProductsRow.laid).forCall (fun _ _ => 0) ⟨#[], #[.agg #[.int .i64 0, .int .i64 0], .agg #[.int .i64 0, .int .i64 0]], []⟩).memory Tryd.f6.params.toList Rows.rationalProductsSpec.vars false (#[.agg #[.int .i64 0, .int .i64 0], .agg #[.int .i64 0, .int .i64 0]] : Array Value).toList 8 = some ([.agg [.lit (.int .i64 0), .lit (.int .i64 0)], .agg [.lit (.int .i64 0), .lit (.int .i64 0)]], [], places) :=
  ⟨[], by kernel_rfl⟩
set_option maxRecDepth 100000 in
theorem lifted (os : Os) (started : os.Started) (H : Type) (enc : TypeId × Value → H) (F : Stop.Interp) :
    ReturnsInHanded {} Tryd.checked os 6 .any ((OpenSpec.ofChange Rows.rationalProductsSpec).preRow enc Tryd.prog Tryd.f6 Rows.rationalProductsRow.domain false Rows.rationalProductsRow.laid) (((OpenSpec.ofChange Rows.rationalProductsSpec).at F).post enc Tryd.prog Tryd.f6 false true false false) := by
  obtain ⟨places, hx⟩ := reads os enc
  refine returnsInHanded_of_row (C := Tryd.checked) (s := OpenSpec.ofChange Rows.rationalProductsSpec) Frame.own started (by kernel_rfl) Tryd.func6
    (Frame.witness_row_shaped (enc := enc) (C := Tryd.checked) false (World.laidAll Tryd.prog os Rows.rationalProductsRow.laid) #[.agg #[.int .i64 0, .int .i64 0], .agg #[.int .i64 0, .int .i64 0]] (World.laidAll_os _ _ _) (World.shaped_of_ZipB (by kernel_rfl) (by kernel_rfl)) (by kernel_rfl)
      (OpenSpec.preRow_of_cond 8 hx (by kernel_rfl) (fun k hk => by cases hk) (by kernel_rfl) (laid_met os))) ?_
  intro W base args ds gs before hval hW _ _ hsz hL hsh _
  rw [MakeChecks.laidMetH_plain _ _ _ (by kernel_rfl)] at hL
  exact contract H enc W base args ds gs before hval hW (Laid.tabs_of hL)

theorem said : Rows.RationalProductsSaid :=
  OpenClaim.holds_of_cond 6 Tryd.f6 rfl rfl rfl rfl rfl rfl rfl ⟨rfl, rfl, rfl, rfl, rfl⟩ rfl rfl rfl rfl rfl (by kernel_rfl) Tryd.func6 (by kernel_rfl)
    (of_decide_eq_true (by kernel_rfl)) (by unfold Func.isWrapper; first | (rw [if_pos (by decide +kernel)]; kernel_rfl) | (rw [if_neg (by decide +kernel)]; exact ⟨rfl, rfl⟩))
    (fun os started H enc _ F => by rw [OpenClaim.pre_eq_preRow]; exact lifted os started H enc F)

/-- No parameter wants a stand-in; the program's own looks are off. -/
theorem plain (f : FuncId) (fn : Func) (hf : Tryd.pinned.checked.prog.funcNamed "vinculum/vinculumlaw02.RationalProducts" = some f) (hfn : Tryd.pinned.checked.prog.funcs[f]? = some fn) :
    true = Tryd.pinned.checked.prog.looks [] ∧ ∀ (j : Nat) t, fn.params[j]? = some t → Tryd.pinned.checked.prog.wantsStandIn t = false := by
  obtain rfl : f = 6 := Option.some.inj ((show Tryd.prog.funcNamed "vinculum/vinculumlaw02.RationalProducts" = some 6 by kernel_rfl).symm.trans hf) |>.symm
  obtain rfl : fn = Tryd.f6 := (Option.some.inj (Tryd.func6.symm.trans hfn)).symm
  refine ⟨by kernel_rfl, fun j t ht => ?_⟩
  have hall : (Tryd.f6.params.toList.all fun u => !Tryd.prog.wantsStandIn u) = true := by kernel_rfl
  have hm : t ∈ Tryd.f6.params.toList := by simpa using Array.mem_of_getElem? ht
  exact (show Tryd.prog.wantsStandIn t = false by simpa using List.all_eq_true.1 hall t hm)

/-- ████ THE CARD ████ -/
theorem card : Rows.RationalProductsCardSaid :=
  Claim7.holds_tied_plain_at .later [] _ _ _ _ said (fun _ h => by cases h) (by kernel_rfl) (fun _ h => by cases h) rationalProducts_row_tie rfl ⟨rfl, rfl⟩ (by kernel_rfl) rfl plain (by kernel_rfl)
end Go.Proofs.YtimkgbjgdelkeaaDoor.rationalProducts
