/- LengthError: for every two integers and every step the law returns true and turns nothing that lay in memory. Condition: the package-level tables hold what the program's text lays (tied by the card). -/
import Derived.Test.YtokdeeplblaieaaDoorCards
import Derived.SevenTiedAt
import Derived.OpenShut
import Derived.Test.YtokdeeplblaieaaDoorTie
import Derived.Test.YtokdeeplblaieaaDoorLaid
import Derived.Test.YtokdeeplblaieaaDoorAwake
import Derived.Test.YtokdeeplblaieaaDoorMathLaws
namespace Go.Proofs.YtokdeeplblaieaaDoor.lengthError
open Go Go.RowKit Go.WideShapes Go.ChangeShapes Len

theorem out_of_range (n p s : Int) (w : World) (hT : Tabs w) (h : validZ n = false ∨ p < 0 ∨ 10000 < p) :
    Calls Tryd.prog 6 #[.int .i64 n, .int .i64 p, .int .u16 s] w fun e w' => e = .returned (.bool true) ∧ Below w.heap.size w w' := by
  cases hv : validZ n <;> by_cases hp1 : p < 0 <;> by_cases hp2 : 10000 < p
  all_goals first
    | (exfalso; simp [hv, hp1, hp2] at h; done)
    | (clear h
       go_enter Tryd.func6, Tryd.ntmps6
       go_wp2_with fail
       refine (awake_any _ hT).mono ?_
       rintro e w1 ⟨rfl, hb⟩
       go_wp2_with (go_at_call 12; refine (refvalid_any _ _).mono ?_; rintro e w' ⟨rfl, rfl⟩)
       go_ret
       exact ⟨rfl, hb⟩)

theorem in_range (n p s : Int) (w : World) (hT : Tabs w) (hv : validZ n = true) (hp1 : 0 ≤ p) (hp2 : p ≤ 10000) (hs1 : 0 ≤ s) (hs2 : s ≤ 65535) :
    Calls Tryd.prog 6 #[.int .i64 n, .int .i64 p, .int .u16 s] w fun e w' => e = .returned (.bool true) ∧ Below w.heap.size w w' := by
  obtain ⟨n1, n2⟩ := valid_bd hv
  obtain ⟨m1, m2⟩ := mul_bd (A := 1073741824) (B := 10000) n1 n2 (by omega) hp2
  obtain ⟨b1, b2⟩ := scale_bd n p
  obtain ⟨c1, c2⟩ := half_bd n
  obtain ⟨e1, e2⟩ := scale_err hv hp1 hp2
  obtain ⟨f1, f2⟩ := half_err hv
  cases hm : validZ (n + s) with
  | false =>
    go_enter Tryd.func6, Tryd.ntmps6
    go_wp2_with fail
    refine (awake_any _ hT).mono ?_
    rintro e w1 ⟨rfl, hb⟩
    go_wp2_with (first
      | (go_at_call 12; refine (refvalid_any _ _).mono ?_; rintro e w' ⟨rfl, rfl⟩)
      | (go_at_call 13; refine (scale_any _ _ _).mono ?_; rintro e w' ⟨rfl, m, rfl⟩)
      | (go_at_call 15; refine (half_any _ _).mono ?_; rintro e w' ⟨rfl, m, rfl⟩))
    go_ret
    exact ⟨rfl, below_drewN hb _⟩
  | true =>
    have g1 := scale_mono hv hm (by omega) hp1 hp2
    have g2 := half_mono hv hm (by omega)
    go_enter Tryd.func6, Tryd.ntmps6
    go_wp2_with fail
    refine (awake_any _ hT).mono ?_
    rintro e w1 ⟨rfl, hb⟩
    go_wp2_with (first
      | (go_at_call 12; refine (refvalid_any _ _).mono ?_; rintro e w' ⟨rfl, rfl⟩)
      | (go_at_call 13; refine (scale_any _ _ _).mono ?_; rintro e w' ⟨rfl, m, rfl⟩)
      | (go_at_call 15; refine (half_any _ _).mono ?_; rintro e w' ⟨rfl, m, rfl⟩))
    go_ret
    exact ⟨rfl, below_drewN hb _⟩

theorem walk (n p s : Int) (hs : 0 ≤ s ∧ s ≤ 65535) (w : World) (hT : Tabs w) :
    Calls Tryd.prog 6 #[.int .i64 n, .int .i64 p, .int .u16 s] w fun e w' => e = .returned (.bool true) ∧ Below w.heap.size w w' := by
  by_cases h : validZ n = false ∨ p < 0 ∨ 10000 < p
  · exact out_of_range n p s w hT h
  · have hv : validZ n = true := by
      cases hv : validZ n
      · exact absurd (.inl hv) h
      · rfl
    exact in_range n p s w hT hv (by omega) (by omega) hs.1 hs.2

theorem readable : ∀ t ∈ Tryd.f6.params.toList, Tryd.prog.readableRec t = true ∧ t < Tryd.prog.types.size := Frame.readable_of (by kernel_rfl)

set_option maxRecDepth 100000 in
theorem contract (H : Type) (enc : TypeId × Value → H) (W : World) (base : Nat) (args : Array Value) (ds gs : List (DataW H)) (before : List MemPlace)
    (hval : ∀ (j : Nat) t v, Tryd.f6.params[j]? = some t → args[j]? = some v → Value.okWide Tryd.prog W .any base t v)
    (hW : DataW.Whole enc Tryd.prog Tryd.f6.params.toList Rows.lengthErrorSpec.vars false W args.toList ds gs before) (hT : Len.Tabs W) :
    Calls Tryd.prog 6 args W fun e W' => ∃ v, e = .returned v ∧ Rows.lengthErrorSpec.post enc Tryd.prog Tryd.f6 false true false false W args v W' := by
  have hW' := hW
  obtain ⟨p, q, hA0, hV, rfl, hfz, hnd⟩ := hW
  have hA : DataW.TrodAll enc Tryd.prog W 0 (fun _ => true) true Tryd.f6.params.toList args.toList ds p := hA0
  rw [Tryd.params6] at hA hval
  obtain ⟨v0, vs0, d0, ds0, p0, q0, hargs, rfl, rfl, h0, r0⟩ := trodAll_cons hA
  obtain ⟨v1, vs1, d1, ds1, p1, q1, rfl, rfl, rfl, h1, r1⟩ := trodAll_cons r0
  obtain ⟨v2, vs2, d2, ds2, p2, q2, rfl, rfl, rfl, h2, r2⟩ := trodAll_cons r1
  obtain ⟨rfl, rfl, rfl⟩ := trodAll_nil r2
  obtain rfl : args = #[v0, v1, v2] := by cases args; simp_all
  obtain ⟨a0, rfl, rfl, rfl, w0⟩ := open_int Tryd.underlying3 (hval 0 3 v0 rfl rfl) h0
  obtain ⟨a1, rfl, rfl, rfl, w1⟩ := open_int Tryd.underlying3 (hval 1 3 v1 rfl rfl) h1
  obtain ⟨a2, rfl, rfl, rfl, w2⟩ := open_int Tryd.underlying31 (hval 2 31 v2 rfl rfl) h2
  refine (walk a0 a1 a2 (bounds_u16 w2) W hT).mono fun e W' ⟨he, hb⟩ => ⟨_, he, Frame.post_law Frame.laidOut readable (by kernel_rfl) Tryd.underlying4 hW' rfl rfl hb⟩

theorem laid_met (os : Os) : laidMetH Tryd.prog Rows.lengthErrorRow.laid ((World.laidAll Tryd.prog os Rows.lengthErrorRow.laid).forCall (fun _ _ => 0) ⟨#[], #[.int .i64 0, .int .i64 0, .int .u16 0], []⟩).memory := by
  rw [MakeChecks.laidMetH_plain _ _ _ (by kernel_rfl)]; exact laidMet_laidAll _ (by kernel_rfl) (by kernel_rfl)
theorem reads (os : Os) {H : Type} (enc : TypeId × Value → H) : ∃ places, DataW.whole enc Tryd.prog ((World.laidAll Tryd.prog os Rows.lengthErrorRow.laid).forCall (fun _ _ => 0) ⟨#[], #[.int .i64 0, .int .i64 0, .int .u16 0], []⟩).memory Tryd.f6.params.toList Rows.lengthErrorSpec.vars false (#[.int .i64 0, .int .i64 0, .int .u16 0] : Array Value).toList 8 = some ([.lit (.int .i64 0), .lit (.int .i64 0), .lit (.int .u16 0)], [], places) :=
  ⟨[], by kernel_rfl⟩
set_option maxRecDepth 100000 in
theorem lifted (os : Os) (started : os.Started) (H : Type) (enc : TypeId × Value → H) (F : Stop.Interp) :
    ReturnsInHanded {} Tryd.checked os 6 .any ((OpenSpec.ofChange Rows.lengthErrorSpec).preRow enc Tryd.prog Tryd.f6 Rows.lengthErrorRow.domain false Rows.lengthErrorRow.laid) (((OpenSpec.ofChange Rows.lengthErrorSpec).at F).post enc Tryd.prog Tryd.f6 false true false false) := by
  obtain ⟨places, hx⟩ := reads os enc
  refine returnsInHanded_of_row (C := Tryd.checked) (s := OpenSpec.ofChange Rows.lengthErrorSpec) Frame.own started (by kernel_rfl) Tryd.func6
    (Frame.witness_row_shaped (enc := enc) (C := Tryd.checked) false (World.laidAll Tryd.prog os Rows.lengthErrorRow.laid) #[.int .i64 0, .int .i64 0, .int .u16 0] (World.laidAll_os _ _ _) (World.shaped_of_ZipB (by kernel_rfl) (by kernel_rfl)) (by kernel_rfl)
      (OpenSpec.preRow_of_cond 8 hx (by kernel_rfl) (fun k hk => by cases hk) (by kernel_rfl) (laid_met os))) ?_
  intro W base args ds gs before hval hW _ _ hsz hL hsh _
  rw [MakeChecks.laidMetH_plain _ _ _ (by kernel_rfl)] at hL
  exact contract H enc W base args ds gs before hval hW (Laid.tabs_of hL)

theorem said : Rows.LengthErrorSaid :=
  OpenClaim.holds_of_cond 6 Tryd.f6 rfl rfl rfl rfl rfl rfl rfl ⟨rfl, rfl, rfl, rfl, rfl⟩ rfl rfl rfl rfl rfl (by kernel_rfl) Tryd.func6 (by kernel_rfl)
    (of_decide_eq_true (by kernel_rfl)) (by unfold Func.isWrapper; first | (rw [if_pos (by decide +kernel)]; kernel_rfl) | (rw [if_neg (by decide +kernel)]; exact ⟨rfl, rfl⟩))
    (fun os started H enc _ F => by rw [OpenClaim.pre_eq_preRow]; exact lifted os started H enc F)

/-- No parameter wants a stand-in; the program's own looks are off. -/
theorem plain (f : FuncId) (fn : Func) (hf : Tryd.pinned.checked.prog.funcNamed "vinculum/vinculumlaw01.LengthError" = some f) (hfn : Tryd.pinned.checked.prog.funcs[f]? = some fn) :
    true = Tryd.pinned.checked.prog.looks [] ∧ ∀ (j : Nat) t, fn.params[j]? = some t → Tryd.pinned.checked.prog.wantsStandIn t = false := by
  obtain rfl : f = 6 := Option.some.inj ((show Tryd.prog.funcNamed "vinculum/vinculumlaw01.LengthError" = some 6 by kernel_rfl).symm.trans hf) |>.symm
  obtain rfl : fn = Tryd.f6 := (Option.some.inj (Tryd.func6.symm.trans hfn)).symm
  refine ⟨by kernel_rfl, fun j t ht => ?_⟩
  have hall : (Tryd.f6.params.toList.all fun u => !Tryd.prog.wantsStandIn u) = true := by kernel_rfl
  have hm : t ∈ Tryd.f6.params.toList := by simpa using Array.mem_of_getElem? ht
  exact (show Tryd.prog.wantsStandIn t = false by simpa using List.all_eq_true.1 hall t hm)

/-- ████ THE CARD ████ -/
theorem card : Rows.LengthErrorCardSaid :=
  Claim7.holds_tied_plain_at .later [] _ _ _ _ said (fun _ h => by cases h) (by kernel_rfl) (fun _ h => by cases h) lengthError_row_tie rfl ⟨rfl, rfl⟩ (by kernel_rfl) rfl plain (by kernel_rfl)
end Go.Proofs.YtokdeeplblaieaaDoor.lengthError
