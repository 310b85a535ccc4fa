/- LengthSymmetric: for every integer, every pair and every factor the law returns true and turns nothing that lay in memory. Condition: the package-level tables hold what the program's text lays (tied by the card). -/
import Derived.Test.YtokdeeplblaieaaDoorCards
import Derived.SevenTiedAt
import Derived.OpenShut
import Derived.Test.YtokdeeplblaieaaDoorTie
import Derived.Test.YtokdeeplblaieaaDoorLaid
import Derived.Test.YtokdeeplblaieaaDoorAwake
import Derived.Test.YtokdeeplblaieaaDoorMathLaws
namespace Go.Proofs.YtokdeeplblaieaaDoor.lengthSymmetric
open Go Go.RowKit Go.WideShapes Go.ChangeShapes Len

/-- A callee that only draws, met behind 'a' draws: it leaves the world behind some more of them. -/
theorem more_draws {g : FuncId} {xs : Array Value} {v : Value} (c : ∀ W : World, Calls Tryd.prog g xs W fun e W' => e = .returned v ∧ ∃ m, W' = W.drewN m) (w : World) (a n : Nat) :
    Calls Tryd.prog g xs (w.drewN (a + n)) fun e W' => e = .returned v ∧ ∃ m, W' = w.drewN (a + m) := by
  refine (c _).mono fun e W' h => ?_
  obtain ⟨h1, m, rfl⟩ := h
  exact ⟨h1, n + m, by rw [World.drewN_drewN, Nat.add_assoc]⟩

theorem invalid_ (n a b k : Int) (w : World) (hT : Tabs w) (h : validZ n = false ∨ validZ a = false ∨ validZ b = false) :
    Calls Tryd.prog 5 #[.int .i64 n, .agg #[.int .i64 a, .int .i64 b], .int .i64 k] w fun e w' => e = .returned (.bool true) ∧ Below w.heap.size w w' := by
  cases hv : validZ n <;> cases ha : validZ a <;> cases hb : validZ b
  all_goals first
    | (exfalso; simp [hv, ha, hb] at h; done)
    | (clear h
       go_enter Tryd.func5, Tryd.ntmps5
       go_wp2_with fail
       refine (awake_any _ (hT.below ((Below.refl _ _).alloc (Nat.le_refl _) _))).mono ?_
       rintro e w1 ⟨rfl, hB⟩
       have c0 := hB.cell (p := ⟨w.heap.size, 0, none⟩) (by simp)
       have c1 := hB.cell (p := ⟨w.heap.size, 1, none⟩) (by simp)
       simp at c0 c1
       have HB := Lib.hid hB
       clear hB
       go_wp2_with (go_at_call 12; refine (refvalid_any _ _).mono ?_; rintro e w' ⟨rfl, rfl⟩)
       go_ret
       exact ⟨rfl, ((Below.refl _ _).alloc (Nat.le_refl _) _).trans (HB.out.mono (by simp))⟩)

theorem valid_ (n a b k : Int) (w : World) (hT : Tabs w) (hv : validZ n = true) (ha : validZ a = true) (hb : validZ b = true) (hk : k = 0 ∨ k < -1000 ∨ 1000 < k) :
    Calls Tryd.prog 5 #[.int .i64 n, .agg #[.int .i64 a, .int .i64 b], .int .i64 k] w fun e w' => e = .returned (.bool true) ∧ Below w.heap.size w w' := by
  obtain ⟨n1, n2⟩ := valid_bd hv
  obtain ⟨b1, b2⟩ := scale_bd n 70
  obtain ⟨c1, c2⟩ := half_bd n
  obtain ⟨m1, m2⟩ := muldiv_bd n a b
  have e1 : (halfZ (-n) != -halfZ n) = false := by simp [half_neg]
  have e2 : (scaleZ (-n) 70 != -scaleZ n 70) = false := by simp [scale_neg]
  have e3 : (mulDivZ (-n) a b != -mulDivZ n a b) = false := by simp [muldiv_neg]
  go_enter Tryd.func5, Tryd.ntmps5
  go_wp2_with fail
  refine (awake_any _ (hT.below ((Below.refl _ _).alloc (Nat.le_refl _) _))).mono ?_
  rintro e w1 ⟨rfl, hB⟩
  have c0 := hB.cell (p := ⟨w.heap.size, 0, none⟩) (by simp)
  have c1 := hB.cell (p := ⟨w.heap.size, 1, none⟩) (by simp)
  simp at c0 c1
  have HB := Lib.hid hB
  clear hB
  go_wp2_with (go_at_call 12; refine (refvalid_any _ _).mono ?_; rintro e w' ⟨rfl, rfl⟩)
  go_quiet (first
    | (go_at_call 15; exact Calls.quiet_of (half_any _ _))
    | (go_at_call 13; exact Calls.quiet_of (scale_any _ _ _))
    | (go_at_call 17; exact Calls.quiet_of (muldiv_any _ _ _ _)))
  go_wp2_with (go_at_call 12; refine (refvalid_any _ _).mono ?_; rintro e w' ⟨rfl, rfl⟩)
  all_goals
    go_ret
    exact ⟨rfl, below_drewN (((Below.refl _ _).alloc (Nat.le_refl _) _).trans (HB.out.mono (by simp))) _⟩

set_option maxHeartbeats 1000000 in
theorem factor_no (n a b k : Int) (w : World) (hT : Tabs w) (hv : validZ n = true) (ha : validZ a = true) (hb : validZ b = true) (hk0 : k ≠ 0) (hk1 : -1000 ≤ k) (hk2 : k ≤ 1000) (hx : ¬ (validZ (k * a) = true ∧ validZ (k * b) = true)) :
    Calls Tryd.prog 5 #[.int .i64 n, .agg #[.int .i64 a, .int .i64 b], .int .i64 k] w fun e w' => e = .returned (.bool true) ∧ Below w.heap.size w w' := by
  obtain ⟨n1, n2⟩ := valid_bd hv
  obtain ⟨a1, a2⟩ := valid_bd ha
  obtain ⟨d1, d2⟩ := valid_bd hb
  obtain ⟨b1, b2⟩ := scale_bd n 70
  obtain ⟨c1, c2⟩ := half_bd n
  obtain ⟨m1, m2⟩ := muldiv_bd n a b
  obtain ⟨x1, x2⟩ := mul_bd (A := 1000) (B := 1073741824) hk1 hk2 a1 a2
  obtain ⟨y1, y2⟩ := mul_bd (A := 1000) (B := 1073741824) hk1 hk2 d1 d2
  have e0 : (k == 0) = false := by simp [hk0]
  have e1 : (halfZ (-n) != -halfZ n) = false := by simp [half_neg]
  have e2 : (scaleZ (-n) 70 != -scaleZ n 70) = false := by simp [scale_neg]
  have e3 : (mulDivZ (-n) a b != -mulDivZ n a b) = false := by simp [muldiv_neg]
  clear hk0
  cases hka : validZ (k * a) <;> cases hkb : validZ (k * b)
  all_goals first
    | (exfalso; exact hx ⟨hka, hkb⟩)
    | (clear hx
       go_enter Tryd.func5, Tryd.ntmps5
       go_wp2_with fail
       refine (awake_any _ (hT.below ((Below.refl _ _).alloc (Nat.le_refl _) _))).mono ?_
       rintro e w1 ⟨rfl, hB⟩
       have c0 := hB.cell (p := ⟨w.heap.size, 0, none⟩) (by simp)
       have c1 := hB.cell (p := ⟨w.heap.size, 1, none⟩) (by simp)
       simp at c0 c1
       have HB := Lib.hid hB
       clear hB
       go_wp2_with (go_at_call 12; refine (refvalid_any _ _).mono ?_; rintro e w' ⟨rfl, rfl⟩)
       go_quiet (first
         | (go_at_call 15; exact Calls.quiet_of (half_any _ _))
         | (go_at_call 13; exact Calls.quiet_of (scale_any _ _ _))
         | (go_at_call 17; exact Calls.quiet_of (muldiv_any _ _ _ _)))
       go_wp2_with (go_at_call 12; refine (refvalid_any _ _).mono ?_; rintro e w' ⟨rfl, rfl⟩)
       go_ret
       exact ⟨rfl, below_drewN (((Below.refl _ _).alloc (Nat.le_refl _) _).trans (HB.out.mono (by simp))) _⟩)

set_option maxHeartbeats 1000000 in
theorem factor_yes (n a b k : Int) (w : World) (hT : Tabs w) (hv : validZ n = true) (ha : validZ a = true) (hb : validZ b = true) (hk0 : k ≠ 0) (hk1 : -1000 ≤ k) (hk2 : k ≤ 1000) (hka : validZ (k * a) = true) (hkb : validZ (k * b) = true) :
    Calls Tryd.prog 5 #[.int .i64 n, .agg #[.int .i64 a, .int .i64 b], .int .i64 k] w fun e w' => e = .returned (.bool true) ∧ Below w.heap.size w w' := by
  obtain ⟨n1, n2⟩ := valid_bd hv
  obtain ⟨a1, a2⟩ := valid_bd ha
  obtain ⟨d1, d2⟩ := valid_bd hb
  obtain ⟨b1, b2⟩ := scale_bd n 70
  obtain ⟨c1, c2⟩ := half_bd n
  obtain ⟨m1, m2⟩ := muldiv_bd n a b
  obtain ⟨x1, x2⟩ := mul_bd (A := 1000) (B := 1073741824) hk1 hk2 a1 a2
  obtain ⟨y1, y2⟩ := mul_bd (A := 1000) (B := 1073741824) hk1 hk2 d1 d2
  have e0 : (k == 0) = false := by simp [hk0]
  have e1 : (halfZ (-n) != -halfZ n) = false := by simp [half_neg]
  have e2 : (scaleZ (-n) 70 != -scaleZ n 70) = false := by simp [scale_neg]
  have e3 : (mulDivZ (-n) a b != -mulDivZ n a b) = false := by simp [muldiv_neg]
  have e4 : (mulDivZ n (k * a) (k * b) == mulDivZ n a b) = true := by simp [muldiv_factor hk0 ha hb hka hkb]
  clear hk0
  go_enter Tryd.func5, Tryd.ntmps5
  go_wp2_with fail
  refine (awake_any _ (hT.below ((Below.refl _ _).alloc (Nat.le_refl _) _))).mono ?_
  rintro e w1 ⟨rfl, hB⟩
  have c0 := hB.cell (p := ⟨w.heap.size, 0, none⟩) (by simp)
  have c1 := hB.cell (p := ⟨w.heap.size, 1, none⟩) (by simp)
  simp at c0 c1
  have HB := Lib.hid hB
  clear hB
  go_wp2_with (go_at_call 12; refine (refvalid_any _ _).mono ?_; rintro e w' ⟨rfl, rfl⟩)
  go_quiet (first
    | (go_at_call 15; exact Calls.quiet_of (half_any _ _))
    | (go_at_call 13; exact Calls.quiet_of (scale_any _ _ _))
    | (go_at_call 17; exact Calls.quiet_of (muldiv_any _ _ _ _)))
  go_wp2_with (go_at_call 12; refine (refvalid_any _ _).mono ?_; rintro e w' ⟨rfl, rfl⟩)
  have p1 : IntKind.i64.wrap (k * a) = k * a := IntWalk.i64_in _ (by omega)
  have p2 : IntKind.i64.wrap (k * b) = k * b := IntWalk.i64_in _ (by omega)
  go_quiet ((go_at_call 17; exact more_draws (fun W => muldiv_any _ _ _ W) _ _ _))
  go_wp2_with fail
  go_ret
  exact ⟨rfl, below_drewN (below_drewN (((Below.refl _ _).alloc (Nat.le_refl _) _).trans (HB.out.mono (by simp))) _) _⟩

theorem walk (n a b k : Int) (w : World) (hT : Tabs w) :
    Calls Tryd.prog 5 #[.int .i64 n, .agg #[.int .i64 a, .int .i64 b], .int .i64 k] w fun e w' => e = .returned (.bool true) ∧ Below w.heap.size w w' := by
  by_cases h : validZ n = true ∧ validZ a = true ∧ validZ b = true
  · obtain ⟨hv, ha, hb⟩ := h
    by_cases hk : k = 0 ∨ k < -1000 ∨ 1000 < k
    · exact valid_ n a b k w hT hv ha hb hk
    · by_cases hx : validZ (k * a) = true ∧ validZ (k * b) = true
      · exact factor_yes n a b k w hT hv ha hb (by omega) (by omega) (by omega) hx.1 hx.2
      · exact factor_no n a b k w hT hv ha hb (by omega) (by omega) (by omega) hx
  · refine invalid_ n a b k w hT ?_
    cases hv : validZ n <;> cases ha : validZ a <;> cases hb : validZ b <;> simp_all

theorem readable : ∀ t ∈ Tryd.f5.params.toList, Tryd.prog.readableRec t = true ∧ t < Tryd.prog.types.size := Frame.readable_of (by kernel_rfl)

set_option maxRecDepth 100000 in
theorem contract (H : Type) (enc : TypeId × Value → H) (W : World) (base : Nat) (args : Array Value) (ds gs : List (DataW H)) (before : List MemPlace)
    (hval : ∀ (j : Nat) t v, Tryd.f5.params[j]? = some t → args[j]? = some v → Value.okWide Tryd.prog W .any base t v)
    (hW : DataW.Whole enc Tryd.prog Tryd.f5.params.toList Rows.lengthSymmetricSpec.vars false W args.toList ds gs before) (hT : Len.Tabs W) :
    Calls Tryd.prog 5 args W fun e W' => ∃ v, e = .returned v ∧ Rows.lengthSymmetricSpec.post enc Tryd.prog Tryd.f5 false true false false W args v W' := by
  have hW' := hW
  obtain ⟨p, q, hA0, hV, rfl, hfz, hnd⟩ := hW
  have hA : DataW.TrodAll enc Tryd.prog W 0 (fun _ => true) true Tryd.f5.params.toList args.toList ds p := hA0
  rw [Tryd.params5] at hA hval
  obtain ⟨v0, vs0, d0, ds0, p0, q0, hargs, rfl, rfl, h0, r0⟩ := trodAll_cons hA
  obtain ⟨v1, vs1, d1, ds1, p1, q1, rfl, rfl, rfl, h1, r1⟩ := trodAll_cons r0
  obtain ⟨v2, vs2, d2, ds2, p2, q2, rfl, rfl, rfl, h2, r2⟩ := trodAll_cons r1
  obtain ⟨rfl, rfl, rfl⟩ := trodAll_nil r2
  obtain rfl : args = #[v0, v1, v2] := by cases args; simp_all
  obtain ⟨a0, rfl, rfl, rfl, w0⟩ := open_int Tryd.underlying3 (hval 0 3 v0 rfl rfl) h0
  obtain ⟨x1, y1, rfl, u1, z1⟩ := Frame.open_pair Tryd.underlying29 Tryd.underlying3 (by kernel_rfl) (by kernel_rfl) (hval 1 29 v1 rfl rfl) h1
  obtain ⟨a2, rfl, rfl, rfl, w2⟩ := open_int Tryd.underlying3 (hval 2 3 v2 rfl rfl) h2
  refine (walk a0 x1 y1 a2 W hT).mono fun e W' ⟨he, hb⟩ => ⟨_, he, Frame.post_law Frame.laidOut readable (by kernel_rfl) Tryd.underlying4 hW' rfl rfl hb⟩

theorem laid_met (os : Os) : laidMetH Tryd.prog Rows.lengthSymmetricRow.laid ((World.laidAll Tryd.prog os Rows.lengthSymmetricRow.laid).forCall (fun _ _ => 0) ⟨#[], #[.int .i64 0, .agg #[.int .i64 0, .int .i64 0], .int .i64 0], []⟩).memory := by
  rw [MakeChecks.laidMetH_plain _ _ _ (by kernel_rfl)]; exact laidMet_laidAll _ (by kernel_rfl) (by kernel_rfl)
theorem reads (os : Os) {H : Type} (enc : TypeId × Value → H) : ∃ places, DataW.whole enc Tryd.prog ((World.laidAll Tryd.prog os Rows.lengthSymmetricRow.laid).forCall (fun _ _ => 0) ⟨#[], #[.int .i64 0, .agg #[.int .i64 0, .int .i64 0], .int .i64 0], []⟩).memory Tryd.f5.params.toList Rows.lengthSymmetricSpec.vars false (#[.int .i64 0, .agg #[.int .i64 0, .int .i64 0], .int .i64 0] : Array Value).toList 8 = some ([.lit (.int .i64 0), .agg [.lit (.int .i64 0), .lit (.int .i64 0)], .lit (.int .i64 0)], [], places) :=
  ⟨[], by kernel_rfl⟩
set_option maxRecDepth 100000 in
theorem lifted (os : Os) (started : os.Started) (H : Type) (enc : TypeId × Value → H) (F : Stop.Interp) :
    ReturnsInHanded {} Tryd.checked os 5 .any ((OpenSpec.ofChange Rows.lengthSymmetricSpec).preRow enc Tryd.prog Tryd.f5 Rows.lengthSymmetricRow.domain false Rows.lengthSymmetricRow.laid) (((OpenSpec.ofChange Rows.lengthSymmetricSpec).at F).post enc Tryd.prog Tryd.f5 false true false false) := by
  obtain ⟨places, hx⟩ := reads os enc
  refine returnsInHanded_of_row (C := Tryd.checked) (s := OpenSpec.ofChange Rows.lengthSymmetricSpec) Frame.own started (by kernel_rfl) Tryd.func5
    (Frame.witness_row_shaped (enc := enc) (C := Tryd.checked) false (World.laidAll Tryd.prog os Rows.lengthSymmetricRow.laid) #[.int .i64 0, .agg #[.int .i64 0, .int .i64 0], .int .i64 0] (World.laidAll_os _ _ _) (World.shaped_of_ZipB (by kernel_rfl) (by kernel_rfl)) (by kernel_rfl)
      (OpenSpec.preRow_of_cond 8 hx (by kernel_rfl) (fun k hk => by cases hk) (by kernel_rfl) (laid_met os))) ?_
  intro W base args ds gs before hval hW _ _ hsz hL hsh _
  rw [MakeChecks.laidMetH_plain _ _ _ (by kernel_rfl)] at hL
  exact contract H enc W base args ds gs before hval hW (Laid.tabs_of hL)

theorem said : Rows.LengthSymmetricSaid :=
  OpenClaim.holds_of_cond 5 Tryd.f5 rfl rfl rfl rfl rfl rfl rfl ⟨rfl, rfl, rfl, rfl, rfl⟩ rfl rfl rfl rfl rfl (by kernel_rfl) Tryd.func5 (by kernel_rfl)
    (of_decide_eq_true (by kernel_rfl)) (by unfold Func.isWrapper; first | (rw [if_pos (by decide +kernel)]; kernel_rfl) | (rw [if_neg (by decide +kernel)]; exact ⟨rfl, rfl⟩))
    (fun os started H enc _ F => by rw [OpenClaim.pre_eq_preRow]; exact lifted os started H enc F)

/-- No parameter wants a stand-in; the program's own looks are off. -/
theorem plain (f : FuncId) (fn : Func) (hf : Tryd.pinned.checked.prog.funcNamed "vinculum/vinculumlaw01.LengthSymmetric" = some f) (hfn : Tryd.pinned.checked.prog.funcs[f]? = some fn) :
    true = Tryd.pinned.checked.prog.looks [] ∧ ∀ (j : Nat) t, fn.params[j]? = some t → Tryd.pinned.checked.prog.wantsStandIn t = false := by
  obtain rfl : f = 5 := Option.some.inj ((show Tryd.prog.funcNamed "vinculum/vinculumlaw01.LengthSymmetric" = some 5 by kernel_rfl).symm.trans hf) |>.symm
  obtain rfl : fn = Tryd.f5 := (Option.some.inj (Tryd.func5.symm.trans hfn)).symm
  refine ⟨by kernel_rfl, fun j t ht => ?_⟩
  have hall : (Tryd.f5.params.toList.all fun u => !Tryd.prog.wantsStandIn u) = true := by kernel_rfl
  have hm : t ∈ Tryd.f5.params.toList := by simpa using Array.mem_of_getElem? ht
  exact (show Tryd.prog.wantsStandIn t = false by simpa using List.all_eq_true.1 hall t hm)

/-- ████ THE CARD ████ -/
theorem card : Rows.LengthSymmetricCardSaid :=
  Claim7.holds_tied_plain_at .later [] _ _ _ _ said (fun _ h => by cases h) (by kernel_rfl) (fun _ h => by cases h) lengthSymmetric_row_tie rfl ⟨rfl, rfl⟩ (by kernel_rfl) rfl plain (by kernel_rfl)
end Go.Proofs.YtokdeeplblaieaaDoor.lengthSymmetric
