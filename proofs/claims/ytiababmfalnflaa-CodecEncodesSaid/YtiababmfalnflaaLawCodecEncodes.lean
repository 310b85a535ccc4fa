/- CodecEncodes: for every value the law returns true and turns nothing that lay in memory. No condition. (Written by wip/tools/genenc.py.) -/
import Derived.SevenTiedAt
import Derived.OpenShut
import Derived.Test.YtiababmfalnflaaFrame
import Derived.Test.YtiababmfalnflaaCodLaw
import Derived.Test.YtiababmfalnflaaCodHd3
namespace Go.Proofs.Ytiababmfalnflaa.codecEncodes
open Go Go.RowKit Go.WideShapes Go.ChangeShapes Cod

mutual
theorem enc_len : (t : T) → bdT t → shT t = true → (enc t).length ≤ 5009 * szT t
  | .node k i s l, hb, hs => by
    have hn := num_bd hb
    simp only [bdT] at hb
    simp only [shT, Bool.and_eq_true, decide_eq_true_eq] at hs
    have h1 := encs_len2 l hb.2.2.2 hs.1
    have h9 := head_len (k := k.toNat) hn
    have h5 := hs.2
    simp only [enc, List.length_append, szT]
    omega
theorem encs_len2 : (l : List T) → bdL l → shL l = true → (encs l).length ≤ 5009 * szL l
  | [], _, _ => by simp [encs]
  | t :: r, hb, hs => by
    simp only [bdL] at hb
    simp only [shL, Bool.and_eq_true] at hs
    have h1 := enc_len t hb.1 hs.1
    have h2 := encs_len2 r hb.2 hs.2
    simp only [encs, List.length_append, szL]
    omega
end
/-- what Encode answers, in one form -/
def EncF (w' : World) (t : T) (A : Option Addr) (n c : Nat) (ec : Int) : Prop :=
  (valT 64 t = false ∧ A = none ∧ n = 0 ∧ c = 0 ∧ ec = 1) ∨ (valT 64 t = true ∧ 1048576 < (enc t).length ∧ A = none ∧ n = 0 ∧ c = 0 ∧ ec = 6) ∨
    (valT 64 t = true ∧ (enc t).length ≤ 1048576 ∧ n = (enc t).length ∧ ec = 0 ∧ ∃ base, Byt w' base (.slice A (enc t).length c) (enc t))
theorem encode_uni {t : T} {v : Value} {F : Nat → Prop} {w : World} (h : Lies w F t v) (hsh : shT t = true) : Calls Try.prog 14 #[v] w fun e w' =>
    ∃ A n c ec, e = .returned (.tuple #[.slice A n c, .int .i64 ec]) ∧ Hid (EncF w' t A n c ec) ∧ Below w.heap.size w w' :=
  (encode_any h hsh).mono fun e w' hR => by
    obtain ⟨hb, (⟨h1, he⟩ | ⟨h1, h2, he⟩ | ⟨h1, h2, A, c, he, hB⟩)⟩ := hR
    · exact ⟨none, 0, 0, 1, he, Lib.hid (.inl ⟨h1, rfl, rfl, rfl, rfl⟩), hb⟩
    · exact ⟨none, 0, 0, 6, he, Lib.hid (.inr (.inl ⟨h1, h2, rfl, rfl, rfl, rfl⟩)), hb⟩
    · exact ⟨A, _, c, 0, he, Lib.hid (.inr (.inr ⟨h1, h2, rfl, rfl, _, hB⟩)), hb⟩

set_option maxRecDepth 100000 in
set_option maxHeartbeats 16000000 in
theorem walk (t : T) (v : Value) (w : World) (hL : Lies w TT t v) :
    Calls Try.prog 3 #[v] w fun e w' => e = .returned (.bool true) ∧ Below w.heap.size w w' := by
  obtain ⟨k, i, s, l⟩ := t
  obtain ⟨sb, A, c, rfl, _⟩ := hL.node
  obtain ⟨tv, htv⟩ : ∃ t, T.node k i s l = t := ⟨_, rfl⟩
  rw [htv] at hL
  clear htv
  obtain ⟨N, hN⟩ : ∃ N, w.heap.size = N := ⟨_, rfl⟩
  obtain ⟨W1, hW1⟩ : ∃ W, W = w.alloc (.cells #[.int .i64 k, .int .i64 i, .string sb, .slice A l.length c] 24) := ⟨_, rfl⟩
  have hb1 : Below w.heap.size w W1 := by rw [hW1]; exact below_new _ _
  have bx1 : Bx W1 N k i sb A l.length c := by rw [hW1]; exact Bx.new hN _ _ _ _ _ _ _
  have hL1 := hL.below hb1
  have HW := Lib.hid hW1
  have HB1 := Lib.hid hb1
  have HBD := Lib.hid (Lies.bd _ _ hL)
  clear hL hW1 hb1
  go_enter Try.func3, Try.ntmps3
  go_wp2_with fail
  rw [← HW.out]
  refine (awake_any _).mono ?_
  rintro e w2 ⟨rfl, hb⟩
  have bx2 := bx1.go hb
  have hL2 := hL1.below hb
  have HB2 := Lib.hid (below_self HB1.out hb)
  clear hb bx1 hL1
  have a0 := bx2.c0
  have a1 := bx2.c1
  have a2 := bx2.c2
  have a3 := bx2.c3
  go_wp2_with fail
  clear a0 a1 a2 a3
  cases hfa : fewB tv with
  | false =>
    have HC : Hid (Calls Try.prog 12 #[.agg #[.int .i64 k, .int .i64 i, .string sb, .slice A l.length c]] w2 fun e w' => e = .returned (.bool false) ∧ Below w2.heap.size w2 w') := Lib.hid (hfa ▸ few_any hL2)
    clear hfa
    refine HC.out.mono ?_
    rintro e w3 ⟨rfl, hb⟩
    go_wp2_with fail
    go_ret
    exact ⟨rfl, below_self HB2.out hb⟩
  | true =>
    have HC : Hid (Calls Try.prog 12 #[.agg #[.int .i64 k, .int .i64 i, .string sb, .slice A l.length c]] w2 fun e w' => e = .returned (.bool true) ∧ Below w2.heap.size w2 w') := Lib.hid (hfa ▸ few_any hL2)
    have hfew : szT tv ≤ 300 ∧ shT tv = true := by unfold fewB at hfa; simpa using hfa
    have HSZ : Hid (szT tv ≤ 1000000) := Lib.hid (by omega)
    have HSH := Lib.hid hfew.2
    have HLEN : Hid ((enc tv).length ≤ 10000000000) := Lib.hid (by have := enc_len tv HBD.out hfew.2; omega)
    clear hfa hfew
    refine HC.out.mono ?_
    rintro e w3 ⟨rfl, hb⟩
    have bx3 := bx2.go hb
    have hL3 := hL2.below hb
    have HB3 := Lib.hid (below_self HB2.out hb)
    clear hb bx2 hL2 HC
    have a0 := bx3.c0
    have a1 := bx3.c1
    have a2 := bx3.c2
    have a3 := bx3.c3
    go_wp2_with fail
    clear a0 a1 a2 a3
    have HO := Lib.hid (own_any hL3 HSZ.out)
    refine HO.out.mono ?_
    rintro e w4 hM
    obtain ⟨xa, xi, xs, xA, xn, xc, rfl, hLo, hb⟩ := hM.shape
    have hbn := below_new w4 (.cells #[.int .i64 xa, .int .i64 xi, .string xs, .slice xA xn xc] 29)
    have bx5 := (bx3.go hb).go hbn
    have by5 := Bx.new (w := w4) rfl xa xi xs xA xn xc 29
    have hL5 := (hL3.below hb).below hbn
    have hY5 := hLo.below hbn
    have HB5 := Lib.hid (below_self (below_self HB3.out hb) hbn)
    obtain ⟨M, hM4⟩ : ∃ M, w4.heap.size = M := ⟨_, rfl⟩
    rw [hM4] at by5
    clear hb hbn bx3 hL3 HO hM hLo
    go_wp2_with fail
    clear hM4
    generalize w4.alloc (.cells #[.int .i64 xa, .int .i64 xi, .string xs, .slice xA xn xc] 29) = w5 at *
    have HE := Lib.hid (encode_uni hY5 HSH.out)
    refine HE.out.mono ?_
    rintro e w6 ⟨A6, n6, c6, ec, rfl, HR6, hb⟩
    have hL6 := hL5.below hb
    have hY6 := hY5.below hb
    have HB6 := Lib.hid (below_self HB5.out hb)
    have bx6 := bx5.go hb
    have by6 := by5.go hb
    clear hb hL5 hY5 HE bx5 by5
    have a0 := bx6.c0
    have a1 := bx6.c1
    have a2 := bx6.c2
    have a3 := bx6.c3
    have b0 := by6.c0
    have b1 := by6.c1
    have b2 := by6.c2
    have b3 := by6.c3
    clear bx6 by6
    have hdr : Below w6.heap.size w6 w6.drew := ⟨rfl, rfl, rfl, Nat.le_refl _, fun _ _ => rfl⟩
    have hbW := hdr
    go_wp2_with fail
    go_region_held3 (fun w' => w'.cell? ⟨N, 0, none⟩ = some (.int .i64 k) ∧ w'.cell? ⟨N, 1, none⟩ = some (.int .i64 i) ∧ w'.cell? ⟨N, 2, none⟩ = some (.string sb) ∧ w'.cell? ⟨N, 3, none⟩ = some (.slice A l.length c) ∧
        w'.cell? ⟨M, 0, none⟩ = some (.int .i64 xa) ∧ w'.cell? ⟨M, 1, none⟩ = some (.int .i64 xi) ∧ w'.cell? ⟨M, 2, none⟩ = some (.string xs) ∧ w'.cell? ⟨M, 3, none⟩ = some (.slice xA xn xc))
      (first
        | (refine ⟨?_, ?_, ?_, ?_, ?_, ?_, ?_, ?_⟩
           all_goals go_keep)
        | (go_split_ands
           refine ⟨?_, ?_, ?_, ?_, ?_, ?_, ?_, ?_⟩
           all_goals ((rw [hbx.cell (World.block_lt_of_cell? _ _ (by assumption))]; assumption)))
        | (go_keep; done))
      (first
        | (go_at_call 15
           (with_reducible refine (valid_any (t := tv) (hY6.below hbW)).mono ?_)
           rintro e w' ⟨rfl, hbx⟩
           replace hbW := below_self hbW hbx)
        | (go_at_call 16
           (with_reducible refine (rvalid_any (t := tv) (F := TT) (hL6.below hbW) HSZ.out).mono ?_)
           rintro e w' ⟨rfl, hbx⟩
           replace hbW := below_self hbW hbx)
        | (go_at_call 17
           (with_reducible refine (depth_any (t := tv) (hY6.below hbW) HSZ.out).mono ?_)
           rintro e w' ⟨rfl, hbx⟩
           replace hbW := below_self hbW hbx)
        | (go_at_call 18
           (with_reducible refine (rdepth_any (t := tv) (F := TT) (hL6.below hbW) HSZ.out).mono ?_)
           rintro e w' ⟨rfl, hbx⟩
           replace hbW := below_self hbW hbx))
    go_wp2_with fail
    have e0 := old_cell hbW a0 (World.block_lt_of_cell? _ _ a0)
    have e1 := old_cell hbW a1 (World.block_lt_of_cell? _ _ a1)
    have e2 := old_cell hbW a2 (World.block_lt_of_cell? _ _ a2)
    have e3 := old_cell hbW a3 (World.block_lt_of_cell? _ _ a3)
    have HB7 := Lib.hid (below_self HB6.out hbW)
    have hL7 := hL6.below hbW
    have HW6 := Lib.hid hbW
    clear a0 a1 a2 a3 b0 b1 b2 b3 hbW hL6 hY6 hdr
    obtain ⟨L, hLe⟩ : ∃ L, enc tv = L := ⟨_, rfl⟩
    have HV0 := rvalid_any hL7 HSZ.out
    have HEN : Hid (propT tv = true → ∀ W : World, Lies W TT tv (.agg #[.int .i64 k, .int .i64 i, .string sb, .slice A l.length c]) → Calls Try.prog 19 #[.agg #[.int .i64 k, .int .i64 i, .string sb, .slice A l.length c]] W (Fresh W L)) := Lib.hid fun hp W h => hLe ▸ renc_n _ tv _ _ W (Nat.le_refl _) hp h HLEN.out
    rcases HR6.out with ⟨hv, rfl, rfl, rfl, rfl⟩ | ⟨hv, hlen, rfl, rfl, rfl, rfl⟩ | ⟨hv, hlen, hn, rfl, base, hBy⟩
    · rw [hv] at HV0
      have HV := Lib.hid HV0
      clear hv HV0 hLe HR6
      go_wp2_with (first
        | (go_at_call 16; refine HV.out.mono ?_; rintro e u ⟨rfl, hb⟩)
        | fail)
      go_ret
      exact ⟨rfl, below_self HB7.out hb⟩
    · have HP := Lib.hid ((val_iff 64 tv).1 hv).1
      rw [hv] at HV0
      rw [hLe] at hlen
      have HV := Lib.hid HV0
      have hgt : (1048576 : Int) < (L.length : Int) := by omega
      clear hv HV0 hLe HR6 hlen
      go_wp2_with (first
        | (go_at_call 16; refine HV.out.mono ?_; rintro e u ⟨rfl, hb⟩
           have f0 := old_cell hb e0 (World.block_lt_of_cell? _ _ e0)
           have f1 := old_cell hb e1 (World.block_lt_of_cell? _ _ e1)
           have f2 := old_cell hb e2 (World.block_lt_of_cell? _ _ e2)
           have f3 := old_cell hb e3 (World.block_lt_of_cell? _ _ e3))
        | (go_at_call 19; refine (HEN.out HP.out _ (hL7.below hb)).mono ?_; rintro e u2 ⟨A9, c9, rfl, hBy9, hb9⟩; have HB9 := Lib.hid hb9; clear hBy9 hb9)
        | fail)
      go_ret
      exact ⟨rfl, below_self (below_self HB7.out hb) HB9.out⟩
    · have HP := Lib.hid ((val_iff 64 tv).1 hv).1
      rw [hv] at HV0
      rw [hLe] at hlen hn hBy
      subst hn
      have HV := Lib.hid HV0
      have HBy := Lib.hid hBy
      have hgt : ¬ (1048576 : Int) < (L.length : Int) := by omega
      obtain ⟨sB, hsB⟩ : ∃ sB : ByteArray, sB = ⟨L.toArray⟩ := ⟨_, rfl⟩
      have HSB := Lib.hid hsB
      clear hv HV0 hLe HR6 hlen hBy hsB
      go_wp2_with (first
        | (go_at_call 16; refine HV.out.mono ?_; rintro e u ⟨rfl, hb⟩
           have f0 := old_cell hb e0 (World.block_lt_of_cell? _ _ e0)
           have f1 := old_cell hb e1 (World.block_lt_of_cell? _ _ e1)
           have f2 := old_cell hb e2 (World.block_lt_of_cell? _ _ e2)
           have f3 := old_cell hb e3 (World.block_lt_of_cell? _ _ e3))
        | (go_at_call 19; refine (HEN.out HP.out _ (hL7.below hb)).mono ?_; rintro e u2 ⟨A9, c9, rfl, hBy9, hb9⟩
           have cv1 : (convert 31 9 (.slice A6 L.length c6)).run Try.prog u2 = .ok (.string sB) u2 := by rw [HSB.out]; exact (((HBy.out.below HW6.out).below hb).below hb9).conv
           have cv2 : (convert 31 9 (.slice A9 L.length c9)).run Try.prog u2 = .ok (.string sB) u2 := by rw [HSB.out]; exact hBy9.conv
           have HB9 := Lib.hid hb9
           clear hBy9 hb9)
        | fail)
      go_ret
      exact ⟨rfl, below_self (below_self HB7.out hb) HB9.out⟩

theorem readable : ∀ t ∈ Try.f3.params.toList, Try.prog.readableRec t = true ∧ t < Try.prog.types.size := Frame.readable_of (by kernel_rfl)

set_option maxRecDepth 100000 in
theorem contract (H : Type) (enc : TypeId × Value → H) (W : World) (base : Nat) (args : Array Value) (ds gs : List (DataW H)) (before : List MemPlace)
    (hval : ∀ (j : Nat) t v, Try.f3.params[j]? = some t → args[j]? = some v → Value.okWide Try.prog W .any base t v)
    (hW : DataW.Whole enc Try.prog Try.f3.params.toList Rows.codecEncodesSpec.vars false W args.toList ds gs before) (hT : True) :
    Calls Try.prog 3 args W fun e W' => ∃ v, e = .returned v ∧ Rows.codecEncodesSpec.post enc Try.prog Try.f3 false true false false W args v W' := by
  have hW' := hW
  obtain ⟨p, q, hA0, hV, rfl, hfz, hnd⟩ := hW
  have hA : DataW.TrodAll enc Try.prog W 0 (fun _ => true) true Try.f3.params.toList args.toList ds p := hA0
  rw [Try.params3] at hA hval
  obtain ⟨v0, vs0, d0, ds0, p0, q0, hargs, rfl, rfl, h0, r0⟩ := trodAll_cons hA
  obtain ⟨rfl, rfl, rfl⟩ := trodAll_nil r0
  obtain rfl : args = #[v0] := by cases args; simp_all
  obtain ⟨tv0, hv0⟩ := Cod.open_value (hval 0 24 v0 rfl rfl) h0
  refine (walk tv0 _ W hv0).mono fun e W' ⟨he, hb⟩ => ⟨_, he, Frame.post_law Frame.laidOut readable (by kernel_rfl) Try.underlying4 hW' rfl rfl hb⟩

theorem laid_met (os : Os) : laidMetH Try.prog Rows.codecEncodesRow.laid ((World.laidAll Try.prog os Rows.codecEncodesRow.laid).forCall (fun _ _ => 0) ⟨#[], #[.agg #[.int .i64 0, .int .i64 0, .string ⟨#[]⟩, .slice none 0 0]], []⟩).memory := by
  rw [MakeChecks.laidMetH_plain _ _ _ (by kernel_rfl)]; exact laidMet_laidAll _ (by kernel_rfl) (by kernel_rfl)
theorem reads (os : Os) {H : Type} (enc : TypeId × Value → H) : ∃ places, DataW.whole enc Try.prog ((World.laidAll Try.prog os Rows.codecEncodesRow.laid).forCall (fun _ _ => 0) ⟨#[], #[.agg #[.int .i64 0, .int .i64 0, .string ⟨#[]⟩, .slice none 0 0]], []⟩).memory Try.f3.params.toList Rows.codecEncodesSpec.vars false (#[.agg #[.int .i64 0, .int .i64 0, .string ⟨#[]⟩, .slice none 0 0]] : Array Value).toList 8 = some ([.agg [.lit (.int .i64 0), .lit (.int .i64 0), .lit (.string []), .nil]], [], places) :=
  ⟨[], by kernel_rfl⟩
set_option maxRecDepth 100000 in
theorem lifted (os : Os) (started : os.Started) (H : Type) (enc : TypeId × Value → H) (F : Stop.Interp) :
    ReturnsInHanded {} Try.checked os 3 .any ((OpenSpec.ofChange Rows.codecEncodesSpec).preRow enc Try.prog Try.f3 Rows.codecEncodesRow.domain false Rows.codecEncodesRow.laid) (((OpenSpec.ofChange Rows.codecEncodesSpec).at F).post enc Try.prog Try.f3 false true false false) := by
  obtain ⟨places, hx⟩ := reads os enc
  refine returnsInHanded_of_row (C := Try.checked) (s := OpenSpec.ofChange Rows.codecEncodesSpec) Frame.own started (by kernel_rfl) Try.func3
    (Frame.witness_row_shaped (enc := enc) (C := Try.checked) false (World.laidAll Try.prog os Rows.codecEncodesRow.laid) #[.agg #[.int .i64 0, .int .i64 0, .string ⟨#[]⟩, .slice none 0 0]] (World.laidAll_os _ _ _) (World.shaped_of_ZipB (by kernel_rfl) (by kernel_rfl)) (by kernel_rfl)
      (OpenSpec.preRow_of_cond 8 hx (by kernel_rfl) (fun k hk => by cases hk) (by kernel_rfl) (laid_met os))) ?_
  intro W base args ds gs before hval hW _ _ hsz hL hsh _
  rw [MakeChecks.laidMetH_plain _ _ _ (by kernel_rfl)] at hL
  exact contract H enc W base args ds gs before hval hW (trivial)

theorem said : Rows.CodecEncodesSaid :=
  OpenClaim.holds_of_cond 3 Try.f3 rfl rfl rfl rfl rfl rfl rfl ⟨rfl, rfl, rfl, rfl, rfl⟩ rfl rfl rfl rfl rfl (by kernel_rfl) Try.func3 (by kernel_rfl)
    (of_decide_eq_true (by kernel_rfl)) (by unfold Func.isWrapper; first | (rw [if_pos (by decide +kernel)]; kernel_rfl) | (rw [if_neg (by decide +kernel)]; exact ⟨rfl, rfl⟩))
    (fun os started H enc _ F => by rw [OpenClaim.pre_eq_preRow]; exact lifted os started H enc F)

end Go.Proofs.Ytiababmfalnflaa.codecEncodes
