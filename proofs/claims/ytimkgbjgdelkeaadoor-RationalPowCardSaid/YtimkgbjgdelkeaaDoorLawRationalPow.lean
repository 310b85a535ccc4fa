/- RationalPow: for every pair of integers and every exponent the law returns true and turns nothing that lay in memory. Condition: the package-level tables hold what the program's text lays (tied by the card). -/
import Derived.Test.YtimkgbjgdelkeaaDoorCards
import Derived.SevenTiedAt
import Derived.OpenShut
import Derived.Test.YtimkgbjgdelkeaaDoorTie
import Derived.Test.YtimkgbjgdelkeaaDoorLaid
import Derived.Test.YtimkgbjgdelkeaaDoorRatOpen
import Derived.Test.YtimkgbjgdelkeaaDoorRatPow
import Derived.Test.YtimkgbjgdelkeaaDoorRatRefPow
namespace Go.Proofs.YtimkgbjgdelkeaaDoor.rationalPow
open Go Go.RowKit Go.WideShapes Go.ChangeShapes Len RatM

set_option maxRecDepth 100000 in
set_option maxHeartbeats 4000000 in
theorem walk (a b n : Int) (w : World) (hT : Tabs w) (ha : I64 a) (hb : I64 b) (hn : I64 n) :
    Calls Tryd.prog 7 #[.agg #[.int .i64 a, .int .i64 b], .int .i64 n] w fun e w' => e = .returned (.bool true) ∧ Below w.heap.size w w' := by
  obtain ⟨r1, h1⟩ : ∃ r, powZ a b n = r := ⟨_, rfl⟩
  have R1 := Lib.hid h1
  clear h1
  go_enter Tryd.func7, Tryd.ntmps7
  go_wp2_with fail
  have hK := (Kept.refl hT).alloc (.cells #[.int .i64 a, .int .i64 b] 28)
  have t2 := Two.fresh w (.int .i64 a) (.int .i64 b) 28
  refine (awake_any _ hK.tabs).mono ?_
  rintro e w1 ⟨rfl, hb1⟩
  replace hK := hK.go hb1
  replace t2 := t2.go hb1
  clear hb1
  have t2a := t2.c0
  have t2b := t2.c1
  have t2l := t2.lt
  go_wp2_with fail
  refine (ret_at (pow_any a b n _ ha hb hn) R1).mono ?_
  rintro e w2 ⟨rfl, hb⟩
  clear t2a t2b t2l
  replace hK := hK.go hb
  replace t2 := t2.go hb
  clear hb
  have t2a := t2.c0
  have t2b := t2.c1
  have t2l := t2.lt
  go_wp2_with fail
  refine (ret_at (refpow_any a b n _ ha hb hn) R1).mono ?_
  rintro e w3 ⟨rfl, hb⟩
  clear t2a t2b t2l
  replace hK := hK.goA hb
  replace t2 := t2.goA hb
  have t5 := Two.freshA hb
  clear hb
  have t2a := t2.c0
  have t2b := t2.c1
  have t2l := t2.lt
  have t5a := t5.c0
  have t5b := t5.c1
  have t5l := t5.lt
  go_wp2_with fail
  refine (is_same r1 _).mono ?_
  rintro e w4 ⟨rfl, hb⟩
  clear t2a t2b t2l t5a t5b t5l
  replace hK := hK.goA hb
  replace t2 := t2.goA hb
  replace t5 := t5.goA hb
  have t7 := Two.freshA hb
  clear hb
  have t2a := t2.c0
  have t2b := t2.c1
  have t2l := t2.lt
  have t5a := t5.c0
  have t5b := t5.c1
  have t5l := t5.lt
  have t7a := t7.c0
  have t7b := t7.c1
  have t7l := t7.lt
  go_wp2_with fail
  go_ret
  exact ⟨rfl, hK.below⟩

theorem readable : ∀ t ∈ Tryd.f7.params.toList, Tryd.prog.readableRec t = true ∧ t < Tryd.prog.types.size := Frame.readable_of (by kernel_rfl)

set_option maxRecDepth 100000 in
theorem contract (H : Type) (enc : TypeId × Value → H) (W : World) (base : Nat) (args : Array Value) (ds gs : List (DataW H)) (before : List MemPlace)
    (hval : ∀ (j : Nat) t v, Tryd.f7.params[j]? = some t → args[j]? = some v → Value.okWide Tryd.prog W .any base t v)
    (hW : DataW.Whole enc Tryd.prog Tryd.f7.params.toList Rows.rationalPowSpec.vars false W args.toList ds gs before) (hT : Len.Tabs W) :
    Calls Tryd.prog 7 args W fun e W' => ∃ v, e = .returned v ∧ Rows.rationalPowSpec.post enc Tryd.prog Tryd.f7 false true false false W args v W' := by
  have hW' := hW
  obtain ⟨p, q, hA0, hV, rfl, hfz, hnd⟩ := hW
  have hA : DataW.TrodAll enc Tryd.prog W 0 (fun _ => true) true Tryd.f7.params.toList args.toList ds p := hA0
  rw [Tryd.params7] at hA hval
  obtain ⟨v0, vs0, d0, ds0, p0, q0, hargs, rfl, rfl, h0, r0⟩ := trodAll_cons hA
  obtain ⟨v1, vs1, d1, ds1, p1, q1, rfl, rfl, rfl, h1, r1⟩ := trodAll_cons r0
  obtain ⟨rfl, rfl, rfl⟩ := trodAll_nil r1
  obtain rfl : args = #[v0, v1] := by cases args; simp_all
  obtain ⟨x0, y0, rfl, u0, z0⟩ := open_two Tryd.underlying28 (by kernel_rfl) (by kernel_rfl) Tryd.underlying3 Tryd.underlying3 (hval 0 28 v0 rfl rfl) h0
  obtain ⟨a1, rfl, rfl, rfl, w1⟩ := open_int Tryd.underlying3 (hval 1 3 v1 rfl rfl) h1
  refine (walk x0 y0 a1 W hT u0 z0 (i64_of w1)).mono fun e W' ⟨he, hb⟩ => ⟨_, he, Frame.post_law Frame.laidOut readable (by kernel_rfl) Tryd.underlying4 hW' rfl rfl hb⟩

theorem laid_met (os : Os) : laidMetH Tryd.prog Rows.rationalPowRow.laid ((World.laidAll Tryd.prog os Rows.rationalPowRow.laid).forCall (fun _ _ => 0) ⟨#[], #[.agg #[.int .i64 0, .int .i64 0], .int .i64 0], []⟩).memory := by
  rw [MakeChecks.laidMetH_plain _ _ _ (by kernel_rfl)]; exact laidMet_laidAll _ (by kernel_rfl) (by kernel_rfl)
theorem reads (os : Os) {H : Type} (enc : TypeId × Value → H) : ∃ places, DataW.whole enc Tryd.prog ((World.laidAll Tryd.prog os Rows.rationalPowRow.laid).forCall (fun _ _ => 0) ⟨#[], #[.agg #[.int .i64 0, .int .i64 0], .int .i64 0], []⟩).memory Tryd.f7.params.toList Rows.rationalPowSpec.vars false (#[.agg #[.int .i64 0, .int .i64 0], .int .i64 0] : Array Value).toList 8 = some ([.agg [.lit (.int .i64 0), .lit (.int .i64 0)], .lit (.int .i64 0)], [], places) :=
  ⟨[], by kernel_rfl⟩
set_option maxRecDepth 100000 in
theorem lifted (os : Os) (started : os.Started) (H : Type) (enc : TypeId × Value → H) (F : Stop.Interp) :
    ReturnsInHanded {} Tryd.checked os 7 .any ((OpenSpec.ofChange Rows.rationalPowSpec).preRow enc Tryd.prog Tryd.f7 Rows.rationalPowRow.domain false Rows.rationalPowRow.laid) (((OpenSpec.ofChange Rows.rationalPowSpec).at F).post enc Tryd.prog Tryd.f7 false true false false) := by
  obtain ⟨places, hx⟩ := reads os enc
  refine returnsInHanded_of_row (C := Tryd.checked) (s := OpenSpec.ofChange Rows.rationalPowSpec) Frame.own started (by kernel_rfl) Tryd.func7
    (Frame.witness_row_shaped (enc := enc) (C := Tryd.checked) false (World.laidAll Tryd.prog os Rows.rationalPowRow.laid) #[.agg #[.int .i64 0, .int .i64 0], .int .i64 0] (World.laidAll_os _ _ _) (World.shaped_of_ZipB (by kernel_rfl) (by kernel_rfl)) (by kernel_rfl)
      (OpenSpec.preRow_of_cond 8 hx (by kernel_rfl) (fun k hk => by cases hk) (by kernel_rfl) (laid_met os))) ?_
  intro W base args ds gs before hval hW _ _ hsz hL hsh _
  rw [MakeChecks.laidMetH_plain _ _ _ (by kernel_rfl)] at hL
  exact contract H enc W base args ds gs before hval hW (Laid.tabs_of hL)

theorem said : Rows.RationalPowSaid :=
  OpenClaim.holds_of_cond 7 Tryd.f7 rfl rfl rfl rfl rfl rfl rfl ⟨rfl, rfl, rfl, rfl, rfl⟩ rfl rfl rfl rfl rfl (by kernel_rfl) Tryd.func7 (by kernel_rfl)
    (of_decide_eq_true (by kernel_rfl)) (by unfold Func.isWrapper; first | (rw [if_pos (by decide +kernel)]; kernel_rfl) | (rw [if_neg (by decide +kernel)]; exact ⟨rfl, rfl⟩))
    (fun os started H enc _ F => by rw [OpenClaim.pre_eq_preRow]; exact lifted os started H enc F)

/-- No parameter wants a stand-in; the program's own looks are off. -/
theorem plain (f : FuncId) (fn : Func) (hf : Tryd.pinned.checked.prog.funcNamed "vinculum/vinculumlaw02.RationalPow" = some f) (hfn : Tryd.pinned.checked.prog.funcs[f]? = some fn) :
    true = Tryd.pinned.checked.prog.looks [] ∧ ∀ (j : Nat) t, fn.params[j]? = some t → Tryd.pinned.checked.prog.wantsStandIn t = false := by
  obtain rfl : f = 7 := Option.some.inj ((show Tryd.prog.funcNamed "vinculum/vinculumlaw02.RationalPow" = some 7 by kernel_rfl).symm.trans hf) |>.symm
  obtain rfl : fn = Tryd.f7 := (Option.some.inj (Tryd.func7.symm.trans hfn)).symm
  refine ⟨by kernel_rfl, fun j t ht => ?_⟩
  have hall : (Tryd.f7.params.toList.all fun u => !Tryd.prog.wantsStandIn u) = true := by kernel_rfl
  have hm : t ∈ Tryd.f7.params.toList := by simpa using Array.mem_of_getElem? ht
  exact (show Tryd.prog.wantsStandIn t = false by simpa using List.all_eq_true.1 hall t hm)

/-- ████ THE CARD ████ -/
theorem card : Rows.RationalPowCardSaid :=
  Claim7.holds_tied_plain_at .later [] _ _ _ _ said (fun _ h => by cases h) (by kernel_rfl) (fun _ h => by cases h) rationalPow_row_tie rfl ⟨rfl, rfl⟩ (by kernel_rfl) rfl plain (by kernel_rfl)
end Go.Proofs.YtimkgbjgdelkeaaDoor.rationalPow
