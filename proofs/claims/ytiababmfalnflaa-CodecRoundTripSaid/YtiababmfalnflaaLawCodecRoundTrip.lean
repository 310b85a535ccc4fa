/- CodecRoundTrip: for every value and every bytes the law returns true and turns nothing that lay in memory. No condition. (Written by wip/tools/genrt.py.) -/
import Derived.SevenTiedAt
import Derived.OpenShut
import Derived.Test.YtiababmfalnflaaFrame
import Derived.Test.YtiababmfalnflaaCodLaw
namespace Go.Proofs.Ytiababmfalnflaa.codecRoundTrip
open Go Go.RowKit Go.WideShapes Go.ChangeShapes Cod

/-- what is left to do behind the first half -/
theorem tail_none {bs : List UInt8} (h : decV bs = none) {w : World} {B : Option Addr} {cb : Nat} (hB : BytAt w w.heap.size B bs) (h1 : bs.length ≤ cb) (h2 : cb ≤ 9223372036854775807) (h3 : B = none → cb = 0) :
    Calls Try.prog 20 #[.slice B bs.length cb] w fun e w' => e = .returned (.tuple #[.agg #[.int .i64 0, .int .i64 0, .string ⟨#[]⟩, .slice none 0 0], .int .i64 4]) ∧ Below w.heap.size w w' :=
  (decode_any hB h1 h2 h3).mono fun e w' hR => by rw [h] at hR; exact ⟨hR.2, hR.1⟩
theorem tail_some {bs : List UInt8} {t : T} (h : decV bs = some t) {w : World} {B : Option Addr} {cb : Nat} (hB : BytAt w w.heap.size B bs) (h1 : bs.length ≤ cb) (h2 : cb ≤ 9223372036854775807) (h3 : B = none → cb = 0) :
    Calls Try.prog 20 #[.slice B bs.length cb] w fun e w' => ∃ (a i : Int) (sb : ByteArray) (A : Option Addr) (n c : Nat), e = .returned (.tuple #[.agg #[.int .i64 a, .int .i64 i, .string sb, .slice A n c], .int .i64 0]) ∧
        Lies w' TT t (.agg #[.int .i64 a, .int .i64 i, .string sb, .slice A n c]) ∧ Below w.heap.size w w' :=
  (decode_any hB h1 h2 h3).mono fun e w' hR => by
    rw [h] at hR
    obtain ⟨hb, a, i, sb, A, n, c, he, hL⟩ := hR
    exact ⟨a, i, sb, A, n, c, he, hL.mono fun _ _ => trivial, hb⟩

set_option maxRecDepth 100000 in
set_option maxHeartbeats 16000000 in
theorem walk (t : T) (bs : List UInt8) (v bv : Value) (w : World) (hL : Lies w TT t v) (hbv : BytesIn w bv bs) :
    Calls Try.prog 7 #[v, bv] w fun e w' => e = .returned (.bool true) ∧ Below w.heap.size w w' := by
  obtain ⟨k, i, s, l⟩ := t
  obtain ⟨sb, A, c, rfl, _⟩ := hL.node
  obtain ⟨B, cb, rfl, hB1, hB2, hB3, hBB⟩ := hbv
  obtain ⟨tv, htv⟩ : ∃ t, T.node k i s l = t := ⟨_, rfl⟩
  rw [htv] at hL
  clear htv
  obtain ⟨N, hN⟩ : ∃ N, w.heap.size = N := ⟨_, rfl⟩
  obtain ⟨W1, hW1⟩ : ∃ W, W = w.alloc (.cells #[.int .i64 k, .int .i64 i, .string sb, .slice A l.length c] 24) := ⟨_, rfl⟩
  have hb1 : Below w.heap.size w W1 := by rw [hW1]; exact below_new _ _
  have bx1 : Bx W1 N k i sb A l.length c := by rw [hW1]; exact Bx.new hN _ _ _ _ _ _ _
  have hL1 := hL.below hb1
  have hBB1 := bytAt_below hBB hb1
  have HW := Lib.hid hW1
  have HB1 := Lib.hid hb1
  have HBD := Lib.hid (Lies.bd _ _ hL)
  clear hL hBB hW1 hb1
  go_enter Try.func7, Try.ntmps7
  go_wp2_with fail
  rw [← HW.out]
  refine (awake_any _).mono ?_
  rintro e w2 ⟨rfl, hb⟩
  have bx2 := bx1.go hb
  have hL2 := hL1.below hb
  have HBB2 := Lib.hid (bytAt_below hBB1 hb)
  have HB2 := Lib.hid (below_self HB1.out hb)
  clear hb bx1 hL1 hBB1
  have a0 := bx2.c0
  have a1 := bx2.c1
  have a2 := bx2.c2
  have a3 := bx2.c3
  go_wp2_with fail
  clear a0 a1 a2 a3
  cases hfa : fewB tv with
  | false =>
    have HC : Hid (Calls Try.prog 12 #[.agg #[.int .i64 k, .int .i64 i, .string sb, .slice A l.length c]] w2 fun e w' => e = .returned (.bool false) ∧ Below w2.heap.size w2 w') := Lib.hid (hfa ▸ few_any hL2)
    clear hfa
    refine HC.out.mono ?_
    rintro e w3 ⟨rfl, hb⟩
    go_wp2_with fail
    go_ret
    exact ⟨rfl, below_self HB2.out hb⟩
  | true =>
    have HC : Hid (Calls Try.prog 12 #[.agg #[.int .i64 k, .int .i64 i, .string sb, .slice A l.length c]] w2 fun e w' => e = .returned (.bool true) ∧ Below w2.heap.size w2 w') := Lib.hid (hfa ▸ few_any hL2)
    have hfew : szT tv ≤ 300 ∧ shT tv = true := by unfold fewB at hfa; simpa using hfa
    have HSZ : Hid (szT tv ≤ 1000000) := Lib.hid (by omega)
    have HSH := Lib.hid hfew.2
    clear hfa hfew
    refine HC.out.mono ?_
    rintro e w3 ⟨rfl, hb⟩
    have bx3 := bx2.go hb
    have hL3 := hL2.below hb
    have HBB3 := Lib.hid (bytAt_below HBB2.out hb)
    have HB3 := Lib.hid (below_self HB2.out hb)
    clear hb bx2 hL2 HC HBB2
    by_cases hbig : 3000 < bs.length
    · have hbi : (3000 : Int) < (bs.length : Int) := by omega
      clear hbig
      go_wp2_with fail
      go_ret
      exact ⟨rfl, HB3.out⟩
    · have hbi : ¬ (3000 : Int) < (bs.length : Int) := by omega
      have a0 := bx3.c0
      have a1 := bx3.c1
      have a2 := bx3.c2
      have a3 := bx3.c3
      go_wp2_with fail
      clear a0 a1 a2 a3
      have HO := Lib.hid (own_any hL3 HSZ.out)
      refine HO.out.mono ?_
      rintro e w4 hM
      obtain ⟨xa, xi, xs, xA, xn, xc, rfl, hLo, hb⟩ := hM.shape
      have bx4 := bx3.go hb
      have hL4 := hL3.below hb
      have HBB4 := Lib.hid (bytAt_below HBB3.out hb)
      have HB4 := Lib.hid (below_self HB3.out hb)
      clear hb bx3 hL3 HO hM HBB3
      go_wp2_with fail
      by_cases hok : valT 64 tv = true ∧ (enc tv).length ≤ 1048576
      · obtain ⟨L, hLe⟩ : ∃ L, enc tv = L := ⟨_, rfl⟩
        have HE := Lib.hid (encode_ok hLo HSH.out hok.1 hLe (hLe ▸ hok.2))
        have HD : Hid (decV L = some tv) := Lib.hid (hLe ▸ dec_enc hok.1 HBD.out hok.2)
        clear hok hLe
        refine HE.out.mono ?_
        rintro e w5 ⟨A5, c5, rfl, hBy, hb⟩
        have bx5 := bx4.go hb
        have hL5 := hL4.below hb
        have HBB5 := Lib.hid (bytAt_below HBB4.out hb)
        have HB5 := Lib.hid (below_self HB4.out hb)
        obtain ⟨h1, h2, h3, h4⟩ := hBy.at_
        have HT := Lib.hid (tail_some HD.out h1 h2 h3 h4)
        clear hb bx4 hL4 HE hLo HBB4 h1 h2 h3 h4 hBy
        go_wp2_with fail
        refine HT.out.mono ?_
        rintro e w6 ⟨ya, yi, ys, yA, yn, yc, rfl, hLy, hb⟩
        have hbn := below_new w6 (.cells #[.int .i64 ya, .int .i64 yi, .string ys, .slice yA yn yc] 29)
        have bx7 := (bx5.go hb).go hbn
        have by7 := Bx.new (w := w6) rfl ya yi ys yA yn yc 29
        have hL7 := (hL5.below hb).below hbn
        have hY7 := hLy.below hbn
        have HBB7 := Lib.hid (bytAt_below (bytAt_below HBB5.out hb) hbn)
        have HB7 := Lib.hid (below_self (below_self HB5.out hb) hbn)
        obtain ⟨M, hM⟩ : ∃ M, w6.heap.size = M := ⟨_, rfl⟩
        rw [hM] at by7
        clear hb hbn bx5 hL5 HT hLy HBB5
        go_wp2_with fail
        clear hM
        generalize w6.alloc (.cells #[.int .i64 ya, .int .i64 yi, .string ys, .slice yA yn yc] 29) = w7 at *
        have HEQ : Hid (eqT tv tv = true) := Lib.hid (eq_refl tv)
        have hdr : Below w7.heap.size w7 w7.drew := ⟨rfl, rfl, rfl, Nat.le_refl _, fun _ _ => rfl⟩
        have hbW := hdr
        have HV : Hid (Lies w7.drew TT tv _ ∧ Lies w7.drew TT tv _) := Lib.hid ⟨hY7.below hdr, hY7.below hdr⟩
        have a0 := bx7.c0
        have a1 := bx7.c1
        have a2 := bx7.c2
        have a3 := bx7.c3
        have b0 := by7.c0
        have b1 := by7.c1
        have b2 := by7.c2
        have b3 := by7.c3
        clear bx7 by7
        go_region_held3 (fun w' => w'.cell? ⟨N, 0, none⟩ = some (.int .i64 k) ∧ w'.cell? ⟨N, 1, none⟩ = some (.int .i64 i) ∧ w'.cell? ⟨N, 2, none⟩ = some (.string sb) ∧ w'.cell? ⟨N, 3, none⟩ = some (.slice A l.length c) ∧
            w'.cell? ⟨M, 0, none⟩ = some (.int .i64 ya) ∧ w'.cell? ⟨M, 1, none⟩ = some (.int .i64 yi) ∧ w'.cell? ⟨M, 2, none⟩ = some (.string ys) ∧ w'.cell? ⟨M, 3, none⟩ = some (.slice yA yn yc))
          (first
            | (refine ⟨?_, ?_, ?_, ?_, ?_, ?_, ?_, ?_⟩
               all_goals go_keep)
            | (go_split_ands
               refine ⟨?_, ?_, ?_, ?_, ?_, ?_, ?_, ?_⟩
               all_goals ((rw [hbx.cell (World.block_lt_of_cell? _ _ (by assumption))]; assumption)))
            | (go_keep; done))
          (first
            | (go_at_call 13
               (with_reducible refine (own_any (t := tv) (F := TT) (hL7.below hbW) HSZ.out).mono ?_)
               rintro e w' hMd
               obtain ⟨za, zi, zs, zA, zn, zc, rfl, hLq, hbx⟩ := hMd.shape
               replace HV := two_new HV hbx hLq
               replace hbW := below_self hbW hbx
               clear hMd hLq)
            | (go_at_call 26
               (with_reducible refine (equal_any HV.out.2 HV.out.1).mono ?_)
               rintro e w' ⟨he, hbx⟩
               rw [HEQ.out] at he
               subst he
               replace HV := two_go HV hbx
               replace hbW := below_self hbW hbx))
        go_wp2_with fail
        have HBX := Lib.hid (bytAt_below HBB7.out hbW)
        have HX := Lib.hid (below_self HB7.out hbW)
        cases hdec : decV bs with
        | none =>
          have HT := Lib.hid (tail_none hdec HBX.out hB1 hB2 hB3)
          clear hdec
          refine HT.out.mono ?_
          rintro e u1 ⟨rfl, hb⟩
          go_wp2_with fail
          go_ret
          exact ⟨rfl, below_self (below_self HX.out hb) (below_new _ _)⟩
        | some td =>
          have HT := Lib.hid (tail_some hdec HBX.out hB1 hB2 hB3)
          obtain ⟨he, hvd, hle⟩ := enc_dec hdec
          have HSD := Lib.hid (sh_of td (by rw [he]; omega))
          have HED := Lib.hid he
          have HVD := Lib.hid hvd
          clear hdec he hvd
          refine HT.out.mono ?_
          rintro e u1 ⟨pa, pi, ps, pA, pn, pc, rfl, hLp, hb⟩
          have hbn := below_new u1 (.cells #[.int .i64 pa, .int .i64 pi, .string ps, .slice pA pn pc] 29)
          have bq := Bx.new (w := u1) rfl pa pi ps pA pn pc 29
          have hLq := hLp.below hbn
          have HBQ := Lib.hid (bytAt_below (bytAt_below HBX.out hb) hbn)
          have HQ := Lib.hid (below_self (below_self HX.out hb) hbn)
          have HEN := Lib.hid (encode_ok hLq HSD.out HVD.out HED.out hle)
          clear hb hbn HT hLp
          obtain ⟨sB, hsB⟩ : ∃ sB : ByteArray, sB = ⟨bs.toArray⟩ := ⟨_, rfl⟩
          have HSB := Lib.hid hsB
          clear hsB
          go_wp2_with (first
            | (go_at_call 14; refine HEN.out.mono ?_; rintro e u2 ⟨A8, c8, rfl, hBy, hb⟩
               have cv1 : (convert 31 9 (.slice A8 bs.length c8)).run Try.prog u2 = .ok (.string sB) u2 := by rw [HSB.out]; exact hBy.conv
               have cv2 : (convert 31 9 (.slice B bs.length cb)).run Try.prog u2 = .ok (.string sB) u2 := by
                 rw [HSB.out]
                 exact (bytAt_below HBQ.out hb).conv (fun h => List.eq_nil_of_length_eq_zero (by have := hB3 h; omega)) cb
               have bq2 := bq.go hb
               have r0 := bq2.c0
               have r1 := bq2.c1
               have r2 := bq2.c2
               have r3 := bq2.c3
               have hLq2 := hLq.below hb
               have HQ2 := Lib.hid (below_self HQ.out hb)
               clear hBy hb bq2)
            | (go_at_call 15; refine (valid_any hLq2).mono ?_; rintro e u3 ⟨rfl, hb3⟩; rw [HVD.out])
            | fail)
          go_ret
          exact ⟨rfl, below_self HQ2.out hb3⟩
      · have HE := Lib.hid (encode_not hLo HSH.out hok)
        clear hok
        refine HE.out.mono ?_
        rintro e w5 ⟨n5, rfl, hn0, hn1, hb⟩
        have HBB5 := Lib.hid (bytAt_below HBB4.out hb)
        have HB5 := Lib.hid (below_self HB4.out hb)
        clear hb bx4 hL4 HE hLo HBB4
        go_wp2_with fail
        cases hdec : decV bs with
        | none =>
          have HT := Lib.hid (tail_none hdec HBB5.out hB1 hB2 hB3)
          clear hdec
          refine HT.out.mono ?_
          rintro e u1 ⟨rfl, hb⟩
          go_wp2_with fail
          go_ret
          exact ⟨rfl, below_self (below_self HB5.out hb) (below_new _ _)⟩
        | some td =>
          have HT := Lib.hid (tail_some hdec HBB5.out hB1 hB2 hB3)
          obtain ⟨he, hvd, hle⟩ := enc_dec hdec
          have HSD := Lib.hid (sh_of td (by rw [he]; omega))
          have HED := Lib.hid he
          have HVD := Lib.hid hvd
          clear hdec he hvd
          refine HT.out.mono ?_
          rintro e u1 ⟨pa, pi, ps, pA, pn, pc, rfl, hLp, hb⟩
          have hbn := below_new u1 (.cells #[.int .i64 pa, .int .i64 pi, .string ps, .slice pA pn pc] 29)
          have bq := Bx.new (w := u1) rfl pa pi ps pA pn pc 29
          have hLq := hLp.below hbn
          have HBQ := Lib.hid (bytAt_below (bytAt_below HBB5.out hb) hbn)
          have HQ := Lib.hid (below_self (below_self HB5.out hb) hbn)
          have HEN := Lib.hid (encode_ok hLq HSD.out HVD.out HED.out hle)
          clear hb hbn HT hLp
          obtain ⟨sB, hsB⟩ : ∃ sB : ByteArray, sB = ⟨bs.toArray⟩ := ⟨_, rfl⟩
          have HSB := Lib.hid hsB
          clear hsB
          go_wp2_with (first
            | (go_at_call 14; refine HEN.out.mono ?_; rintro e u2 ⟨A8, c8, rfl, hBy, hb⟩
               have cv1 : (convert 31 9 (.slice A8 bs.length c8)).run Try.prog u2 = .ok (.string sB) u2 := by rw [HSB.out]; exact hBy.conv
               have cv2 : (convert 31 9 (.slice B bs.length cb)).run Try.prog u2 = .ok (.string sB) u2 := by
                 rw [HSB.out]
                 exact (bytAt_below HBQ.out hb).conv (fun h => List.eq_nil_of_length_eq_zero (by have := hB3 h; omega)) cb
               have bq2 := bq.go hb
               have r0 := bq2.c0
               have r1 := bq2.c1
               have r2 := bq2.c2
               have r3 := bq2.c3
               have hLq2 := hLq.below hb
               have HQ2 := Lib.hid (below_self HQ.out hb)
               clear hBy hb bq2)
            | (go_at_call 15; refine (valid_any hLq2).mono ?_; rintro e u3 ⟨rfl, hb3⟩; rw [HVD.out])
            | fail)
          go_ret
          exact ⟨rfl, below_self HQ2.out hb3⟩

theorem readable : ∀ t ∈ Try.f7.params.toList, Try.prog.readableRec t = true ∧ t < Try.prog.types.size := Frame.readable_of (by kernel_rfl)

set_option maxRecDepth 100000 in
theorem contract (H : Type) (enc : TypeId × Value → H) (W : World) (base : Nat) (args : Array Value) (ds gs : List (DataW H)) (before : List MemPlace)
    (hval : ∀ (j : Nat) t v, Try.f7.params[j]? = some t → args[j]? = some v → Value.okWide Try.prog W .any base t v)
    (hW : DataW.Whole enc Try.prog Try.f7.params.toList Rows.codecRoundTripSpec.vars false W args.toList ds gs before) (hT : True) :
    Calls Try.prog 7 args W fun e W' => ∃ v, e = .returned v ∧ Rows.codecRoundTripSpec.post enc Try.prog Try.f7 false true false false W args v W' := by
  have hW' := hW
  obtain ⟨p, q, hA0, hV, rfl, hfz, hnd⟩ := hW
  have hA : DataW.TrodAll enc Try.prog W 0 (fun _ => true) true Try.f7.params.toList args.toList ds p := hA0
  rw [Try.params7] at hA hval
  obtain ⟨v0, vs0, d0, ds0, p0, q0, hargs, rfl, rfl, h0, r0⟩ := trodAll_cons hA
  obtain ⟨v1, vs1, d1, ds1, p1, q1, rfl, rfl, rfl, h1, r1⟩ := trodAll_cons r0
  obtain ⟨rfl, rfl, rfl⟩ := trodAll_nil r1
  obtain rfl : args = #[v0, v1] := by cases args; simp_all
  obtain ⟨tv0, hv0⟩ := Cod.open_value (hval 0 24 v0 rfl rfl) h0
  obtain ⟨bs1, hb1⟩ := Cod.open_bytes (hval 1 31 v1 rfl rfl) h1
  refine (walk tv0 bs1 _ _ W hv0 hb1).mono fun e W' ⟨he, hb⟩ => ⟨_, he, Frame.post_law Frame.laidOut readable (by kernel_rfl) Try.underlying4 hW' rfl rfl hb⟩

theorem laid_met (os : Os) : laidMetH Try.prog Rows.codecRoundTripRow.laid ((World.laidAll Try.prog os Rows.codecRoundTripRow.laid).forCall (fun _ _ => 0) ⟨#[], #[.agg #[.int .i64 0, .int .i64 0, .string ⟨#[]⟩, .slice none 0 0], .slice none 0 0], []⟩).memory := by
  rw [MakeChecks.laidMetH_plain _ _ _ (by kernel_rfl)]; exact laidMet_laidAll _ (by kernel_rfl) (by kernel_rfl)
theorem reads (os : Os) {H : Type} (enc : TypeId × Value → H) : ∃ places, DataW.whole enc Try.prog ((World.laidAll Try.prog os Rows.codecRoundTripRow.laid).forCall (fun _ _ => 0) ⟨#[], #[.agg #[.int .i64 0, .int .i64 0, .string ⟨#[]⟩, .slice none 0 0], .slice none 0 0], []⟩).memory Try.f7.params.toList Rows.codecRoundTripSpec.vars false (#[.agg #[.int .i64 0, .int .i64 0, .string ⟨#[]⟩, .slice none 0 0], .slice none 0 0] : Array Value).toList 8 = some ([.agg [.lit (.int .i64 0), .lit (.int .i64 0), .lit (.string []), .nil], .nil], [], places) :=
  ⟨[], by kernel_rfl⟩
set_option maxRecDepth 100000 in
theorem lifted (os : Os) (started : os.Started) (H : Type) (enc : TypeId × Value → H) (F : Stop.Interp) :
    ReturnsInHanded {} Try.checked os 7 .any ((OpenSpec.ofChange Rows.codecRoundTripSpec).preRow enc Try.prog Try.f7 Rows.codecRoundTripRow.domain false Rows.codecRoundTripRow.laid) (((OpenSpec.ofChange Rows.codecRoundTripSpec).at F).post enc Try.prog Try.f7 false true false false) := by
  obtain ⟨places, hx⟩ := reads os enc
  refine returnsInHanded_of_row (C := Try.checked) (s := OpenSpec.ofChange Rows.codecRoundTripSpec) Frame.own started (by kernel_rfl) Try.func7
    (Frame.witness_row_shaped (enc := enc) (C := Try.checked) false (World.laidAll Try.prog os Rows.codecRoundTripRow.laid) #[.agg #[.int .i64 0, .int .i64 0, .string ⟨#[]⟩, .slice none 0 0], .slice none 0 0] (World.laidAll_os _ _ _) (World.shaped_of_ZipB (by kernel_rfl) (by kernel_rfl)) (by kernel_rfl)
      (OpenSpec.preRow_of_cond 8 hx (by kernel_rfl) (fun k hk => by cases hk) (by kernel_rfl) (laid_met os))) ?_
  intro W base args ds gs before hval hW _ _ hsz hL hsh _
  rw [MakeChecks.laidMetH_plain _ _ _ (by kernel_rfl)] at hL
  exact contract H enc W base args ds gs before hval hW (trivial)

theorem said : Rows.CodecRoundTripSaid :=
  OpenClaim.holds_of_cond 7 Try.f7 rfl rfl rfl rfl rfl rfl rfl ⟨rfl, rfl, rfl, rfl, rfl⟩ rfl rfl rfl rfl rfl (by kernel_rfl) Try.func7 (by kernel_rfl)
    (of_decide_eq_true (by kernel_rfl)) (by unfold Func.isWrapper; first | (rw [if_pos (by decide +kernel)]; kernel_rfl) | (rw [if_neg (by decide +kernel)]; exact ⟨rfl, rfl⟩))
    (fun os started H enc _ F => by rw [OpenClaim.pre_eq_preRow]; exact lifted os started H enc F)

end Go.Proofs.Ytiababmfalnflaa.codecRoundTrip
