/- CodecEqual: for every two values the law returns true and turns nothing that lay in memory. No condition. -/
import Derived.SevenTiedAt
import Derived.OpenShut
import Derived.Test.YtiababmfalnflaaFrame
import Derived.Test.YtiababmfalnflaaCodOpen
import Derived.Test.YtiababmfalnflaaCodFew
import Derived.Test.YtiababmfalnflaaCodPeq
import Derived.Test.YtiababmfalnflaaCodOwn
namespace Go.Proofs.Ytiababmfalnflaa.codecEqual
open Go Go.RowKit Go.WideShapes Go.ChangeShapes Cod

set_option maxRecDepth 100000 in
set_option maxHeartbeats 4000000 in
theorem walk (t u : T) (v v' : Value) (w : World) (hL : Lies w TT t v) (hM : Lies w TT u v') :
    Calls Try.prog 6 #[v, v'] w fun e w' => e = .returned (.bool true) ∧ Below w.heap.size w w' := by
  obtain ⟨k, i, s, l⟩ := t
  obtain ⟨k', i', s', l'⟩ := u
  obtain ⟨sb, A, c, rfl, _⟩ := hL.node
  obtain ⟨sb', A', c', rfl, _⟩ := hM.node
  obtain ⟨ta, hta⟩ : ∃ t, T.node k i s l = t := ⟨_, rfl⟩
  obtain ⟨tb, htb⟩ : ∃ t, T.node k' i' s' l' = t := ⟨_, rfl⟩
  rw [hta] at hL
  rw [htb] at hM
  obtain ⟨N, hN⟩ : ∃ N, w.heap.size = N := ⟨_, rfl⟩
  obtain ⟨Wa, hWa⟩ : ∃ W, W = w.alloc (.cells #[.int .i64 k, .int .i64 i, .string sb, .slice A l.length c] 24) := ⟨_, rfl⟩
  obtain ⟨W1, hW1⟩ : ∃ W, W = Wa.alloc (.cells #[.int .i64 k', .int .i64 i', .string sb', .slice A' l'.length c'] 24) := ⟨_, rfl⟩
  have sa : Wa.heap.size = N + 1 := by rw [hWa]; exact size_new hN _
  have ba : Below w.heap.size w Wa := by rw [hWa]; exact below_new _ _
  have bb : Below (N + 1) Wa W1 := by rw [hW1, ← sa]; exact below_new _ _
  have hB1 : Below w.heap.size w W1 := ba.trans (bb.mono (by omega))
  have a0 : W1.cell? ⟨N, 0, none⟩ = some (.int .i64 k) := old_cell bb (by rw [hWa]; exact new_cell hN _ _ 0 rfl) (by omega)
  have a1 : W1.cell? ⟨N, 1, none⟩ = some (.int .i64 i) := old_cell bb (by rw [hWa]; exact new_cell hN _ _ 1 rfl) (by omega)
  have a2 : W1.cell? ⟨N, 2, none⟩ = some (.string sb) := old_cell bb (by rw [hWa]; exact new_cell hN _ _ 2 rfl) (by omega)
  have a3 : W1.cell? ⟨N, 3, none⟩ = some (.slice A l.length c) := old_cell bb (by rw [hWa]; exact new_cell hN _ _ 3 rfl) (by omega)
  have b0 : W1.cell? ⟨N + 1, 0, none⟩ = some (.int .i64 k') := by rw [hW1]; exact new_cell sa _ _ 0 rfl
  have b1 : W1.cell? ⟨N + 1, 1, none⟩ = some (.int .i64 i') := by rw [hW1]; exact new_cell sa _ _ 1 rfl
  have b2 : W1.cell? ⟨N + 1, 2, none⟩ = some (.string sb') := by rw [hW1]; exact new_cell sa _ _ 2 rfl
  have b3 : W1.cell? ⟨N + 1, 3, none⟩ = some (.slice A' l'.length c') := by rw [hW1]; exact new_cell sa _ _ 3 rfl
  have hs1 : W1.heap.size = N + 1 + 1 := by rw [hW1]; exact size_new sa _
  have hLa := hL.below hB1
  have hLb := hM.below hB1
  have HW : Hid (W1 = (w.alloc (.cells #[.int .i64 k, .int .i64 i, .string sb, .slice A l.length c] 24)).alloc (.cells #[.int .i64 k', .int .i64 i', .string sb', .slice A' l'.length c'] 24)) := Lib.hid (by rw [hW1, hWa])
  have HN := Lib.hid hN
  clear hta htb hL hM hW1 hWa sa ba bb
  go_enter Try.func6, Try.ntmps6
  go_wp2_with fail
  rw [← HW.out]
  refine (awake_any _).mono ?_
  rintro e w2 ⟨rfl, hb⟩
  replace a0 := old_cell hb a0 (by omega)
  replace a1 := old_cell hb a1 (by omega)
  replace a2 := old_cell hb a2 (by omega)
  replace a3 := old_cell hb a3 (by omega)
  replace b0 := old_cell hb b0 (by omega)
  replace b1 := old_cell hb b1 (by omega)
  replace b2 := old_cell hb b2 (by omega)
  replace b3 := old_cell hb b3 (by omega)
  replace hLa := hLa.below hb
  replace hLb := hLb.below hb
  have hs2 : N + 1 < w2.heap.size := by have := hb.size; omega
  have hB2 := below_self hB1 hb
  clear hb hB1 hs1
  go_wp2_with fail
  cases hfa : fewB ta with
  | false =>
    have HC : Hid (Calls Try.prog 12 #[.agg #[.int .i64 k, .int .i64 i, .string sb, .slice A l.length c]] w2 fun e w' => e = .returned (.bool false) ∧ Below w2.heap.size w2 w') := Lib.hid (hfa ▸ few_any hLa)
    clear hfa
    refine HC.out.mono ?_
    rintro e w3 ⟨rfl, hb⟩
    go_wp2_with fail
    go_ret
    exact ⟨rfl, below_self hB2 hb⟩
  | true =>
    have HC : Hid (Calls Try.prog 12 #[.agg #[.int .i64 k, .int .i64 i, .string sb, .slice A l.length c]] w2 fun e w' => e = .returned (.bool true) ∧ Below w2.heap.size w2 w') := Lib.hid (hfa ▸ few_any hLa)
    have hsa : szT ta ≤ 1000000 := by unfold fewB at hfa; simp at hfa; omega
    clear hfa
    refine HC.out.mono ?_
    rintro e w3 ⟨rfl, hb⟩
    replace a0 := old_cell hb a0 (by omega)
    replace a1 := old_cell hb a1 (by omega)
    replace a2 := old_cell hb a2 (by omega)
    replace a3 := old_cell hb a3 (by omega)
    replace b0 := old_cell hb b0 (by omega)
    replace b1 := old_cell hb b1 (by omega)
    replace b2 := old_cell hb b2 (by omega)
    replace b3 := old_cell hb b3 (by omega)
    replace hLa := hLa.below hb
    replace hLb := hLb.below hb
    have hs3 : N + 1 < w3.heap.size := by have := hb.size; omega
    have hB3 := below_self hB2 hb
    clear hb hB2 hs2 HC
    go_wp2_with fail
    cases hfb : fewB tb with
    | false =>
      have HC : Hid (Calls Try.prog 12 #[.agg #[.int .i64 k', .int .i64 i', .string sb', .slice A' l'.length c']] w3 fun e w' => e = .returned (.bool false) ∧ Below w3.heap.size w3 w') := Lib.hid (hfb ▸ few_any hLb)
      clear hfb
      refine HC.out.mono ?_
      rintro e w4 ⟨rfl, hb⟩
      go_wp2_with fail
      go_ret
      exact ⟨rfl, below_self hB3 hb⟩
    | true =>
      have HC : Hid (Calls Try.prog 12 #[.agg #[.int .i64 k', .int .i64 i', .string sb', .slice A' l'.length c']] w3 fun e w' => e = .returned (.bool true) ∧ Below w3.heap.size w3 w') := Lib.hid (hfb ▸ few_any hLb)
      have hsb : szT tb ≤ 1000000 := by unfold fewB at hfb; simp at hfb; omega
      clear hfb
      refine HC.out.mono ?_
      rintro e w4 ⟨rfl, hb⟩
      replace a0 := old_cell hb a0 (by omega)
      replace a1 := old_cell hb a1 (by omega)
      replace a2 := old_cell hb a2 (by omega)
      replace a3 := old_cell hb a3 (by omega)
      replace b0 := old_cell hb b0 (by omega)
      replace b1 := old_cell hb b1 (by omega)
      replace b2 := old_cell hb b2 (by omega)
      replace b3 := old_cell hb b3 (by omega)
      replace hLa := hLa.below hb
      replace hLb := hLb.below hb
      have hs4 : N + 1 < w4.heap.size := by have := hb.size; omega
      have hB4 := below_self hB3 hb
      have hdr : Below w4.heap.size w4 w4.drew := ⟨rfl, rfl, rfl, Nat.le_refl _, fun _ _ => rfl⟩
      have eqa : eqT ta ta = true := eq_refl ta
      have HEQ := Lib.hid eqa
      have hbW := hdr
      have HV : Hid (Lies w4.drew TT ta _ ∧ Lies w4.drew TT ta _) := Lib.hid ⟨hLa.below hdr, hLa.below hdr⟩
      clear hb hB3 hs3 HC eqa
      go_wp2_with fail
      go_region_held3 (fun w' => w'.cell? ⟨N, 0, none⟩ = some (.int .i64 k) ∧ w'.cell? ⟨N, 1, none⟩ = some (.int .i64 i) ∧ w'.cell? ⟨N, 2, none⟩ = some (.string sb) ∧ w'.cell? ⟨N, 3, none⟩ = some (.slice A l.length c) ∧
          w'.cell? ⟨N + 1, 0, none⟩ = some (.int .i64 k') ∧ w'.cell? ⟨N + 1, 1, none⟩ = some (.int .i64 i') ∧ w'.cell? ⟨N + 1, 2, none⟩ = some (.string sb') ∧ w'.cell? ⟨N + 1, 3, none⟩ = some (.slice A' l'.length c'))
        (first
          | (refine ⟨?_, ?_, ?_, ?_, ?_, ?_, ?_, ?_⟩
             all_goals go_keep)
          | (go_split_ands
             refine ⟨?_, ?_, ?_, ?_, ?_, ?_, ?_, ?_⟩
             all_goals ((rw [hbx.cell (World.block_lt_of_cell? _ _ (by assumption))]; assumption)))
          | (go_keep; done))
        (first
          | (go_at_call 13
             first
               | (with_reducible refine (own_any (t := ta) (F := TT) (hLa.below hbW) hsa).mono ?_)
               | (with_reducible refine (own_any (t := tb) (F := TT) (hLb.below hbW) hsb).mono ?_)
             rintro e w' hMd
             obtain ⟨xa, xi, xs, xA, xn, xc, rfl, hLq, hbx⟩ := hMd.shape
             replace HV := two_new HV hbx hLq
             replace hbW := below_self hbW hbx
             clear hMd hLq)
          | (go_at_call 26
             first
               | (with_reducible refine (equal_any HV.out.2 HV.out.1).mono ?_)
               | (with_reducible refine (equal_any HV.out.1 HV.out.2).mono ?_)
             rintro e w' ⟨rfl, hbx⟩
             replace HV := two_go HV hbx
             replace hbW := below_self hbW hbx)
          | (go_at_call 23
             with_reducible refine (refequal_any (t := ta) (u := tb) (F := TT) (G := TT) (hLa.below hbW) (hLb.below hbW)).mono ?_
             rintro e w' ⟨rfl, hbx⟩
             replace HV := two_go HV hbx
             replace hbW := below_self hbW hbx))
      all_goals go_wp2
      all_goals go_ret
      all_goals exact ⟨ret_bool HEQ.out, below_self hB4 hbW⟩

theorem readable : ∀ t ∈ Try.f6.params.toList, Try.prog.readableRec t = true ∧ t < Try.prog.types.size := Frame.readable_of (by kernel_rfl)

set_option maxRecDepth 100000 in
theorem contract (H : Type) (enc : TypeId × Value → H) (W : World) (base : Nat) (args : Array Value) (ds gs : List (DataW H)) (before : List MemPlace)
    (hval : ∀ (j : Nat) t v, Try.f6.params[j]? = some t → args[j]? = some v → Value.okWide Try.prog W .any base t v)
    (hW : DataW.Whole enc Try.prog Try.f6.params.toList Rows.codecEqualSpec.vars false W args.toList ds gs before) (hT : True) :
    Calls Try.prog 6 args W fun e W' => ∃ v, e = .returned v ∧ Rows.codecEqualSpec.post enc Try.prog Try.f6 false true false false W args v W' := by
  have hW' := hW
  obtain ⟨p, q, hA0, hV, rfl, hfz, hnd⟩ := hW
  have hA : DataW.TrodAll enc Try.prog W 0 (fun _ => true) true Try.f6.params.toList args.toList ds p := hA0
  rw [Try.params6] at hA hval
  obtain ⟨v0, vs0, d0, ds0, p0, q0, hargs, rfl, rfl, h0, r0⟩ := trodAll_cons hA
  obtain ⟨v1, vs1, d1, ds1, p1, q1, rfl, rfl, rfl, h1, r1⟩ := trodAll_cons r0
  obtain ⟨rfl, rfl, rfl⟩ := trodAll_nil r1
  obtain rfl : args = #[v0, v1] := by cases args; simp_all
  obtain ⟨tv0, hv0⟩ := Cod.open_value (hval 0 24 v0 rfl rfl) h0
  obtain ⟨tv1, hv1⟩ := Cod.open_value (hval 1 24 v1 rfl rfl) h1
  refine (walk tv0 tv1 _ _ W hv0 hv1).mono fun e W' ⟨he, hb⟩ => ⟨_, he, Frame.post_law Frame.laidOut readable (by kernel_rfl) Try.underlying4 hW' rfl rfl hb⟩

theorem laid_met (os : Os) : laidMetH Try.prog Rows.codecEqualRow.laid ((World.laidAll Try.prog os Rows.codecEqualRow.laid).forCall (fun _ _ => 0) ⟨#[], #[.agg #[.int .i64 0, .int .i64 0, .string ⟨#[]⟩, .slice none 0 0], .agg #[.int .i64 0, .int .i64 0, .string ⟨#[]⟩, .slice none 0 0]], []⟩).memory := by
  rw [MakeChecks.laidMetH_plain _ _ _ (by kernel_rfl)]; exact laidMet_laidAll _ (by kernel_rfl) (by kernel_rfl)
theorem reads (os : Os) {H : Type} (enc : TypeId × Value → H) : ∃ places, DataW.whole enc Try.prog ((World.laidAll Try.prog os Rows.codecEqualRow.laid).forCall (fun _ _ => 0) ⟨#[], #[.agg #[.int .i64 0, .int .i64 0, .string ⟨#[]⟩, .slice none 0 0], .agg #[.int .i64 0, .int .i64 0, .string ⟨#[]⟩, .slice none 0 0]], []⟩).memory Try.f6.params.toList Rows.codecEqualSpec.vars false (#[.agg #[.int .i64 0, .int .i64 0, .string ⟨#[]⟩, .slice none 0 0], .agg #[.int .i64 0, .int .i64 0, .string ⟨#[]⟩, .slice none 0 0]] : Array Value).toList 8 = some ([.agg [.lit (.int .i64 0), .lit (.int .i64 0), .lit (.string []), .nil], .agg [.lit (.int .i64 0), .lit (.int .i64 0), .lit (.string []), .nil]], [], places) :=
  ⟨[], by kernel_rfl⟩
set_option maxRecDepth 100000 in
theorem lifted (os : Os) (started : os.Started) (H : Type) (enc : TypeId × Value → H) (F : Stop.Interp) :
    ReturnsInHanded {} Try.checked os 6 .any ((OpenSpec.ofChange Rows.codecEqualSpec).preRow enc Try.prog Try.f6 Rows.codecEqualRow.domain false Rows.codecEqualRow.laid) (((OpenSpec.ofChange Rows.codecEqualSpec).at F).post enc Try.prog Try.f6 false true false false) := by
  obtain ⟨places, hx⟩ := reads os enc
  refine returnsInHanded_of_row (C := Try.checked) (s := OpenSpec.ofChange Rows.codecEqualSpec) Frame.own started (by kernel_rfl) Try.func6
    (Frame.witness_row_shaped (enc := enc) (C := Try.checked) false (World.laidAll Try.prog os Rows.codecEqualRow.laid) #[.agg #[.int .i64 0, .int .i64 0, .string ⟨#[]⟩, .slice none 0 0], .agg #[.int .i64 0, .int .i64 0, .string ⟨#[]⟩, .slice none 0 0]] (World.laidAll_os _ _ _) (World.shaped_of_ZipB (by kernel_rfl) (by kernel_rfl)) (by kernel_rfl)
      (OpenSpec.preRow_of_cond 8 hx (by kernel_rfl) (fun k hk => by cases hk) (by kernel_rfl) (laid_met os))) ?_
  intro W base args ds gs before hval hW _ _ hsz hL hsh _
  rw [MakeChecks.laidMetH_plain _ _ _ (by kernel_rfl)] at hL
  exact contract H enc W base args ds gs before hval hW (trivial)

theorem said : Rows.CodecEqualSaid :=
  OpenClaim.holds_of_cond 6 Try.f6 rfl rfl rfl rfl rfl rfl rfl ⟨rfl, rfl, rfl, rfl, rfl⟩ rfl rfl rfl rfl rfl (by kernel_rfl) Try.func6 (by kernel_rfl)
    (of_decide_eq_true (by kernel_rfl)) (by unfold Func.isWrapper; first | (rw [if_pos (by decide +kernel)]; kernel_rfl) | (rw [if_neg (by decide +kernel)]; exact ⟨rfl, rfl⟩))
    (fun os started H enc _ F => by rw [OpenClaim.pre_eq_preRow]; exact lifted os started H enc F)

end Go.Proofs.Ytiababmfalnflaa.codecEqual
