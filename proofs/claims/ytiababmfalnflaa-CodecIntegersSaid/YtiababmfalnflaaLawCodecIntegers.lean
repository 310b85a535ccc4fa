/- CodecIntegers: for every two integers the law returns true and turns nothing that lay in memory. No condition. -/
import Derived.SevenTiedAt
import Derived.OpenShut
import Derived.Test.YtiababmfalnflaaFrame
import Derived.Test.YtiababmfalnflaaCodInts
namespace Go.Proofs.Ytiababmfalnflaa.codecIntegers
open Go Go.RowKit Go.WideShapes Go.ChangeShapes Cod

theorem i64_of {n : Int} (h : (Lit.int .i64 n).wf = true) : I64 n := by unfold Lit.wf at h; simp [IntKind.min, IntKind.max, IntKind.bits, IntKind.signed] at h; exact ⟨by omega, by omega⟩
set_option maxRecDepth 100000 in
set_option maxHeartbeats 4000000 in
theorem walk (n m : Int) (w : World) (hn : I64 n) (hm : I64 m) :
    Calls Try.prog 10 #[.int .i64 n, .int .i64 m] w fun e w' => e = .returned (.bool true) ∧ Below w.heap.size w w' := by
  have hn1 := num_bd (int_bd hn)
  have hm1 := num_bd (int_bd hm)
  obtain ⟨ea, hea⟩ : ∃ l, enc (intT n) = l := ⟨_, rfl⟩
  obtain ⟨eb, heb⟩ : ∃ l, enc (intT m) = l := ⟨_, rfl⟩
  have la : ea.length ≤ 9 := by rw [← hea, int_enc]; exact head_len hn1
  have lb : eb.length ≤ 9 := by rw [← heb, int_enc]; exact head_len hm1
  have HD : Hid (decV ea = some (intT n)) := Lib.hid (by rw [← hea]; exact dec_enc (int_val n) (int_bd hn) (by rw [hea]; omega))
  obtain ⟨p, hp⟩ : ∃ p, numT (intT n) = p := ⟨_, rfl⟩
  obtain ⟨q, hq⟩ : ∃ q, numT (intT m) = q := ⟨_, rfl⟩
  have HLE : Hid (p ≤ q → ea.length ≤ eb.length) := Lib.hid fun h => by rw [← hea, ← heb, int_enc, int_enc, hp, hq]; exact head_mono h
  have HNA : Hid (∀ W, Calls Try.prog 27 #[.agg #[.int .i64 1, .int .i64 n, .string ⟨#[]⟩, .slice none 0 0]] W fun e w' => e = .returned (.int .u64 (p : Int)) ∧ Below W.heap.size W w') := Lib.hid fun W => hp ▸ refnumber_any (k := 1) (A := none) (l := []) (c := 0) (s := []) rfl hn (by simp) (by simp) W
  have HNB : Hid (∀ W, Calls Try.prog 27 #[.agg #[.int .i64 1, .int .i64 m, .string ⟨#[]⟩, .slice none 0 0]] W fun e w' => e = .returned (.int .u64 (q : Int)) ∧ Below W.heap.size W w') := Lib.hid fun W => hq ▸ refnumber_any (k := 1) (A := none) (l := []) (c := 0) (s := []) rfl hm (by simp) (by simp) W
  have HEA : Hid (∀ W, Calls Try.prog 14 #[.agg #[.int .i64 1, .int .i64 n, .string ⟨#[]⟩, .slice none 0 0]] W fun e w' => ∃ A c, e = .returned (.tuple #[.slice A ea.length c, .int .i64 0]) ∧ Byt w' W.heap.size (.slice A ea.length c) ea ∧ Below W.heap.size W w') := Lib.hid fun W => by
    refine (encode_any (int_lies W hn) (int_sh n)).mono ?_
    rintro e w' ⟨hb, ⟨h1, _⟩ | ⟨_, h1, _⟩ | ⟨_, _, A, c, h1, h2⟩⟩
    · rw [int_val] at h1; cases h1
    · rw [hea] at h1; omega
    · rw [hea] at h1 h2; exact ⟨A, c, h1, h2, hb⟩
  have HEB : Hid (∀ W, Calls Try.prog 14 #[.agg #[.int .i64 1, .int .i64 m, .string ⟨#[]⟩, .slice none 0 0]] W fun e w' => ∃ A c, e = .returned (.tuple #[.slice A eb.length c, .int .i64 0]) ∧ Byt w' W.heap.size (.slice A eb.length c) eb ∧ Below W.heap.size W w') := Lib.hid fun W => by
    refine (encode_any (int_lies W hm) (int_sh m)).mono ?_
    rintro e w' ⟨hb, ⟨h1, _⟩ | ⟨_, h1, _⟩ | ⟨_, _, A, c, h1, h2⟩⟩
    · rw [int_val] at h1; cases h1
    · rw [heb] at h1; omega
    · rw [heb] at h1 h2; exact ⟨A, c, h1, h2, hb⟩
  have hla : ¬ (9 : Int) < (ea.length : Int) := by omega
  have hlb : ¬ (9 : Int) < (eb.length : Int) := by omega
  clear hea heb hp hq hn1 hm1 la lb
  go_enter Try.func10, Try.ntmps10
  go_wp2_with fail
  refine (awake_any _).mono ?_
  rintro e w1 ⟨rfl, hb1⟩
  go_wp2_with fail
  refine (HEA.out _).mono ?_
  rintro e w2 ⟨A, c, rfl, hA, hb2⟩
  have HB2 := Lib.hid (below_self hb1 hb2)
  have HA := Lib.hid hA
  clear hb1 hb2 hA
  go_wp2_with fail
  refine (HEB.out _).mono ?_
  rintro e w3 ⟨B, c', rfl, hB, hb3⟩
  have HB3 := Lib.hid (below_self HB2.out hb3)
  have HA3 := Lib.hid (HA.out.below hb3)
  clear hb3 hB
  go_wp2_with fail
  obtain ⟨h1, h2, h3, h4⟩ := HA3.out.at_
  have HC := Lib.hid (decode_any h1 h2 h3 h4)
  clear h1 h2 h3 h4
  refine HC.out.mono ?_
  rintro e w4 hR
  rw [HD.out] at hR
  obtain ⟨hb4, a, i, sb, A4, n4, c4, rfl, hL⟩ := hR
  obtain ⟨_, _, _, hv, _⟩ := hL.node
  simp only [Value.agg.injEq, Array.mk.injEq, List.cons.injEq, Value.int.injEq, and_true, true_and] at hv
  obtain ⟨rfl, rfl, _⟩ := hv
  have HB4 := Lib.hid (below_self HB3.out hb4)
  clear hb4 hL
  go_wp2_with fail
  refine (HNA.out _).mono ?_
  rintro e w5 ⟨rfl, hb5⟩
  have HB5 := Lib.hid (below_self HB4.out ((below_new w4 _).trans (hb5.mono (below_new w4 _).size)))
  clear hb5
  go_wp2_with fail
  refine (HNB.out _).mono ?_
  rintro e w6 ⟨rfl, hb6⟩
  have HB6 := Lib.hid (below_self HB5.out hb6)
  clear hb6
  by_cases hpq : p ≤ q
  · have h1 : (p : Int) ≤ (q : Int) := by omega
    have h2 : (ea.length : Int) ≤ (eb.length : Int) := by have := HLE.out hpq; omega
    clear hpq
    go_wp2_with fail
    go_ret
    exact ⟨rfl, HB6.out⟩
  · have h1 : ¬ (p : Int) ≤ (q : Int) := by omega
    clear hpq
    go_wp2_with fail
    go_ret
    exact ⟨rfl, HB6.out⟩

theorem readable : ∀ t ∈ Try.f10.params.toList, Try.prog.readableRec t = true ∧ t < Try.prog.types.size := Frame.readable_of (by kernel_rfl)

set_option maxRecDepth 100000 in
theorem contract (H : Type) (enc : TypeId × Value → H) (W : World) (base : Nat) (args : Array Value) (ds gs : List (DataW H)) (before : List MemPlace)
    (hval : ∀ (j : Nat) t v, Try.f10.params[j]? = some t → args[j]? = some v → Value.okWide Try.prog W .any base t v)
    (hW : DataW.Whole enc Try.prog Try.f10.params.toList Rows.codecIntegersSpec.vars false W args.toList ds gs before) (hT : True) :
    Calls Try.prog 10 args W fun e W' => ∃ v, e = .returned v ∧ Rows.codecIntegersSpec.post enc Try.prog Try.f10 false true false false W args v W' := by
  have hW' := hW
  obtain ⟨p, q, hA0, hV, rfl, hfz, hnd⟩ := hW
  have hA : DataW.TrodAll enc Try.prog W 0 (fun _ => true) true Try.f10.params.toList args.toList ds p := hA0
  rw [Try.params10] at hA hval
  obtain ⟨v0, vs0, d0, ds0, p0, q0, hargs, rfl, rfl, h0, r0⟩ := trodAll_cons hA
  obtain ⟨v1, vs1, d1, ds1, p1, q1, rfl, rfl, rfl, h1, r1⟩ := trodAll_cons r0
  obtain ⟨rfl, rfl, rfl⟩ := trodAll_nil r1
  obtain rfl : args = #[v0, v1] := by cases args; simp_all
  obtain ⟨a0, rfl, rfl, rfl, w0⟩ := open_int Try.underlying3 (hval 0 3 v0 rfl rfl) h0
  obtain ⟨a1, rfl, rfl, rfl, w1⟩ := open_int Try.underlying3 (hval 1 3 v1 rfl rfl) h1
  refine (walk a0 a1 W (i64_of w0) (i64_of w1)).mono fun e W' ⟨he, hb⟩ => ⟨_, he, Frame.post_law Frame.laidOut readable (by kernel_rfl) Try.underlying4 hW' rfl rfl hb⟩

theorem laid_met (os : Os) : laidMetH Try.prog Rows.codecIntegersRow.laid ((World.laidAll Try.prog os Rows.codecIntegersRow.laid).forCall (fun _ _ => 0) ⟨#[], #[.int .i64 0, .int .i64 0], []⟩).memory := by
  rw [MakeChecks.laidMetH_plain _ _ _ (by kernel_rfl)]; exact laidMet_laidAll _ (by kernel_rfl) (by kernel_rfl)
theorem reads (os : Os) {H : Type} (enc : TypeId × Value → H) : ∃ places, DataW.whole enc Try.prog ((World.laidAll Try.prog os Rows.codecIntegersRow.laid).forCall (fun _ _ => 0) ⟨#[], #[.int .i64 0, .int .i64 0], []⟩).memory Try.f10.params.toList Rows.codecIntegersSpec.vars false (#[.int .i64 0, .int .i64 0] : Array Value).toList 8 = some ([.lit (.int .i64 0), .lit (.int .i64 0)], [], places) :=
  ⟨[], by kernel_rfl⟩
set_option maxRecDepth 100000 in
theorem lifted (os : Os) (started : os.Started) (H : Type) (enc : TypeId × Value → H) (F : Stop.Interp) :
    ReturnsInHanded {} Try.checked os 10 .any ((OpenSpec.ofChange Rows.codecIntegersSpec).preRow enc Try.prog Try.f10 Rows.codecIntegersRow.domain false Rows.codecIntegersRow.laid) (((OpenSpec.ofChange Rows.codecIntegersSpec).at F).post enc Try.prog Try.f10 false true false false) := by
  obtain ⟨places, hx⟩ := reads os enc
  refine returnsInHanded_of_row (C := Try.checked) (s := OpenSpec.ofChange Rows.codecIntegersSpec) Frame.own started (by kernel_rfl) Try.func10
    (Frame.witness_row_shaped (enc := enc) (C := Try.checked) false (World.laidAll Try.prog os Rows.codecIntegersRow.laid) #[.int .i64 0, .int .i64 0] (World.laidAll_os _ _ _) (World.shaped_of_ZipB (by kernel_rfl) (by kernel_rfl)) (by kernel_rfl)
      (OpenSpec.preRow_of_cond 8 hx (by kernel_rfl) (fun k hk => by cases hk) (by kernel_rfl) (laid_met os))) ?_
  intro W base args ds gs before hval hW _ _ hsz hL hsh _
  rw [MakeChecks.laidMetH_plain _ _ _ (by kernel_rfl)] at hL
  exact contract H enc W base args ds gs before hval hW (trivial)

theorem said : Rows.CodecIntegersSaid :=
  OpenClaim.holds_of_cond 10 Try.f10 rfl rfl rfl rfl rfl rfl rfl ⟨rfl, rfl, rfl, rfl, rfl⟩ rfl rfl rfl rfl rfl (by kernel_rfl) Try.func10 (by kernel_rfl)
    (of_decide_eq_true (by kernel_rfl)) (by unfold Func.isWrapper; first | (rw [if_pos (by decide +kernel)]; kernel_rfl) | (rw [if_neg (by decide +kernel)]; exact ⟨rfl, rfl⟩))
    (fun os started H enc _ F => by rw [OpenClaim.pre_eq_preRow]; exact lifted os started H enc F)

end Go.Proofs.Ytiababmfalnflaa.codecIntegers
