/- CodecStreams: for every slice of values the law returns true and turns nothing that lay in memory. No condition. -/
import Derived.SevenTiedAt
import Derived.OpenShut
import Derived.Test.YtohoobgbmhondaaFrame
import Derived.Test.YtohoobgbmhondaaCodStr
namespace Go.Proofs.Ytohoobgbmhondaa.codecStreams
open Go Go.RowKit Go.WideShapes Go.ChangeShapes Cod

set_option maxRecDepth 100000 in
set_option maxHeartbeats 8000000 in
theorem walk (l : List T) (A : Option Addr) (c : Nat) (w : World) (hl : l.length ≤ 9223372036854775807) (hA : ListAt w TT A l) :
    Calls Try.prog 3 #[.slice A l.length c] w fun e w' => e = .returned (.bool true) ∧ Below w.heap.size w w' := by
  have HA0 := Lib.hid hA
  obtain ⟨q, hq⟩ : ∃ q, l.length = q := ⟨_, rfl⟩
  rw [hq]
  have HQ := Lib.hid hq
  have hq0 : (q : Int) ≤ 9223372036854775807 := by omega
  clear hA hq hl
  go_enter Try.func3, Try.ntmps3
  go_wp2_with fail
  refine (awake_any _).mono ?_
  rintro e w2 ⟨rfl, hb⟩
  have HA := Lib.hid (HA0.out.below hb)
  have HB2 := Lib.hid hb
  clear hb
  by_cases hbig : 6 < q
  · have hbi : (6 : Int) < (q : Int) := by omega
    go_wp2_with fail
    go_ret
    exact ⟨rfl, HB2.out⟩
  · have hq1 : (q : Int) ≤ 6 := by omega
    have hbi : ¬ (6 : Int) < (q : Int) := by omega
    clear hbig
    obtain ⟨i0, hi0, hz0, hz1, hz2⟩ := info_parts info_u8
    have HX0 : Hid (Byt w2 w2.heap.size (.slice none 0 0) (encs (l.take 0))) := Lib.hid (by simp only [List.take_zero, encs]; exact Byt.nil _ _)
    have HS0 := Lib.hid (Sofar.zero l)
    have HG0 : Hid (Below w2.heap.size w2 w2) := Lib.hid (Below.refl _ _)
    go_wp2_with fail
    go_loopw [3, 4] (fun a b wr => ∃ (j : Nat) (va : Value), j ≤ q ∧ b = .int .i64 (j : Int) ∧ va = a ∧ Hid (Byt wr w2.heap.size va (encs (l.take j))) ∧ Hid (Sofar l j) ∧ Hid (Below w2.heap.size w2 wr))
      (fun _ b _ => q - (RowKit.intOf b).toNat)
    case atStart => exact ⟨0, .slice none 0 0, Nat.zero_le _, rfl, rfl, HX0, HS0, HG0⟩
    case round =>
      obtain ⟨j, va, hj, rfl, rfl, HXB, HSF, HGm⟩ := hrel
      by_cases hlt : j < q
      · have hjl : j < l.length := by rw [HQ.out]; exact hlt
        obtain ⟨b, off, xa, xi, xs, xB, xn, xc, rfl, hF, d0, d1, d2, d3, hLj⟩ := (HA.out.below HGm.out).at hjl
        cases hfa : fewB l[j] with
        | false =>
          have HC : Hid (Calls Try.prog 11 #[.agg #[.int .i64 xa, .int .i64 xi, .string xs, .slice xB xn xc]] wr fun e w' => e = .returned (.bool false) ∧ Below wr.heap.size wr w') := Lib.hid (hfa ▸ few_any hLj)
          clear hfa hLj hF
          go_wp2_with (first
            | (go_at_call 11
               refine HC.out.mono ?_
               rintro e w5 ⟨rfl, hb5⟩
               have HB5 := Lib.hid (below_self HGm.out hb5)
               clear hb5)
            | fail)
          go_ret
          exact ⟨rfl, below_self HB2.out HB5.out⟩
        | true =>
          have HC : Hid (Calls Try.prog 11 #[.agg #[.int .i64 xa, .int .i64 xi, .string xs, .slice xB xn xc]] wr fun e w' => e = .returned (.bool true) ∧ Below wr.heap.size wr w') := Lib.hid (hfa ▸ few_any hLj)
          have hsz : szT l[j] ≤ 1000000 := by unfold fewB at hfa; simp at hfa; omega
          have hsh : shT l[j] = true := by unfold fewB at hfa; simp at hfa; exact hfa.2
          have HLJ := Lib.hid hLj
          have HSZ := Lib.hid hsz
          have HSH := Lib.hid hsh
          by_cases hv : valT 64 l[j] = true ∧ (enc l[j]).length ≤ 1048576
          · have HV1 := Lib.hid hv.1
            have HV2 := Lib.hid hv.2
            obtain ⟨E, hE⟩ : ∃ E, enc l[j] = E := ⟨_, rfl⟩
            have hEp : 0 < E.length := by rw [← hE]; have := enc_pos l[j]; omega
            have HEL : Hid (E.length ≤ 1048576) := Lib.hid (hE ▸ hv.2)
            have HE := Lib.hid hE
            have HSF2 := Lib.hid (HSF.out.succ hjl hv.1 hsz hv.2)
            obtain ⟨Q, hQ⟩ : ∃ Q, encs (l.take j) = Q := ⟨_, rfl⟩
            have HNX : Hid (Q ++ E = encs (l.take (j + 1))) := Lib.hid (by rw [encs_take hjl, hQ, hE])
            have hQE : Q.length + E.length ≤ 10000000 := by have := HSF.out.len; rw [hQ] at this; have := HEL.out; omega
            rw [hQ] at HXB
            clear hv hfa hLj hF hE hQ hsz hsh
            go_wp2_with (first
              | (go_at_call 11
                 refine HC.out.mono ?_
                 rintro e w5 ⟨rfl, hb5⟩
                 have HLW := Lib.hid (HLJ.out.below hb5)
                 have HXW := Lib.hid (HXB.out.below hb5)
                 have HGW := Lib.hid (below_self HGm.out hb5)
                 have c0 := old_cell hb5 d0 (World.block_lt_of_cell? _ _ d0)
                 have c1 := old_cell hb5 d1 (World.block_lt_of_cell? _ _ d1)
                 have c2 := old_cell hb5 d2 (World.block_lt_of_cell? _ _ d2)
                 have c3 := old_cell hb5 d3 (World.block_lt_of_cell? _ _ d3)
                 clear hb5)
              | (go_at_call 13
                 refine (own_any HLW.out HSZ.out).mono ?_
                 rintro e w6 hMd
                 obtain ⟨ya, yi, ys, yA, yn, yc, rfl, hLq, hb6⟩ := hMd.shape
                 have HLO := Lib.hid hLq
                 have HXO := Lib.hid (HXW.out.below hb6)
                 have HGO := Lib.hid (below_self HGW.out hb6)
                 clear hMd hLq hb6)
              | (go_at_call 12
                 refine (encode_ok HLO.out HSH.out HV1.out HE.out HEL.out).mono ?_
                 rintro e w7 ⟨A7, c7, rfl, hB7, hb7⟩
                 have HB7 := Lib.hid hB7
                 have HX7 := Lib.hid (HXO.out.below hb7)
                 have HG7 := Lib.hid (below_self HGO.out hb7)
                 obtain ⟨a7, rfl⟩ := HB7.out.some_of hEp
                 clear hB7 hb7)
              | (at_builtin
                 refine wpList_append_own_at _ rfl (.tmp 39) (.tmp 40) 24 rfl w2.heap.size 5 i0 (.int .u8 0) 1 1 Try.underlying24 hi0 hz0 hz1 hz2 rfl (by decide) va Q.length (cellsL Q) rfl HX7.out a7 E.length c7 (cellsL E) rfl (lenL E) (Byt.src HB7.out) (oneL E) (by unfold maxLen; omega) (by omega) HG7.out.size ?_
                 intro v8 w8 hown hgrow _ hat
                 have hB8 := byt_app2 hown
                 rw [HNX.out] at hB8
                 have HB8 := Lib.hid hB8
                 have HG8 := Lib.hid (HG7.out.grown hgrow HG7.out.size HX7.out.low)
                 clear hown hgrow hat hB8)
              | fail)
            go_wp2
            go_roundw
            case rel => exact ⟨j + 1, v8, by omega, by go_num, rfl, HB8, HSF2, HG8⟩
            case measure => simp [RowKit.intOf]; omega
          · have HV := Lib.hid hv
            clear hv hfa hLj hF hsz hsh
            go_wp2_with (first
              | (go_at_call 11
                 refine HC.out.mono ?_
                 rintro e w5 ⟨rfl, hb5⟩
                 have HLW := Lib.hid (HLJ.out.below hb5)
                 have HGW := Lib.hid (below_self HGm.out hb5)
                 have c0 := old_cell hb5 d0 (World.block_lt_of_cell? _ _ d0)
                 have c1 := old_cell hb5 d1 (World.block_lt_of_cell? _ _ d1)
                 have c2 := old_cell hb5 d2 (World.block_lt_of_cell? _ _ d2)
                 have c3 := old_cell hb5 d3 (World.block_lt_of_cell? _ _ d3)
                 clear hb5)
              | (go_at_call 13
                 refine (own_any HLW.out HSZ.out).mono ?_
                 rintro e w6 hMd
                 obtain ⟨ya, yi, ys, yA, yn, yc, rfl, hLq, hb6⟩ := hMd.shape
                 have HLO := Lib.hid hLq
                 have HGO := Lib.hid (below_self HGW.out hb6)
                 clear hMd hLq hb6)
              | (go_at_call 12
                 refine (encode_not HLO.out HSH.out HV.out).mono ?_
                 rintro e w7 ⟨n7, rfl, hn7, hn8, hb7⟩
                 have HG7 := Lib.hid (below_self HGO.out hb7)
                 clear hb7)
              | fail)
            go_ret
            exact ⟨rfl, below_self HB2.out HG7.out⟩
      · obtain rfl : q = j := by omega
        have HXE : Hid (Byt wr w2.heap.size va (encs (l.drop 0))) := Lib.hid (by
          have h1 := HXB.out
          rw [List.take_of_length_le (by rw [HQ.out]; omega)] at h1
          exact h1)
        have HSL : Hid ((encs l).length ≤ 8000000) := Lib.hid (by
          have h1 := HSF.out.len
          rw [List.take_of_length_le (by rw [HQ.out]; omega)] at h1
          omega)
        have HVL : Hid (∀ i (h : i < l.length), valT 64 l[i] = true ∧ szT l[i] ≤ 1000000) := Lib.hid fun i h => ⟨HSF.out.val i h (by have := HQ.out; omega), HSF.out.sz i h (by have := HQ.out; omega)⟩
        obtain ⟨A3, c3, rfl⟩ := HXE.out.form
        obtain ⟨n3, hn3⟩ : ∃ n, (encs (l.drop 0)).length = n := ⟨_, rfl⟩
        have HN3 := Lib.hid hn3
        rw [hn3] at HXE ⊢
        have HG0 : Hid (Below wr.heap.size wr wr) := Lib.hid (Below.refl _ _)
        clear hn3 hlt HXB HSF
        go_wp2_with fail
        go_loopw [3, 7] (fun a b wk => ∃ (i : Nat) (A3 : Option Addr) (c3 n3 : Nat), i ≤ q ∧ b = .int .i64 (i : Int) ∧ a = .slice A3 n3 c3 ∧ Hid ((encs (l.drop i)).length = n3) ∧ Hid (Byt wk w2.heap.size (.slice A3 n3 c3) (encs (l.drop i))) ∧ Hid (Below wr.heap.size wr wk))
          (fun _ b _ => q - (RowKit.intOf b).toNat)
        case atStart => exact ⟨0, A3, c3, n3, Nat.zero_le _, rfl, rfl, HN3, HXE, HG0⟩
        case round =>
          obtain ⟨i, A4, c4, n4, hiq, rfl, rfl, HN4, HX4, HG4⟩ := hrel
          by_cases hlt : i < q
          · have hil : i < l.length := by rw [HQ.out]; exact hlt
            have HGA := Lib.hid (below_self HGm.out HG4.out)
            obtain ⟨b, off, xa, xi, xs, xB, xn, xc, rfl, hF, d0, d1, d2, d3, hLi⟩ := (HA.out.below HGA.out).at hil
            have hbd := HA.out.bd hil
            obtain ⟨hv, hsz⟩ := HVL.out i hil
            obtain ⟨h1, h2, h3, h4⟩ := byt_next HX4.out
            obtain ⟨R, hR⟩ : ∃ R, encs (l.drop (i + 1)) = R := ⟨_, rfl⟩
            have hD : encs (l.drop i) = enc l[i] ++ R := by rw [encs_drop hil, hR]
            have hx := rd_enc 64 l[i] hv hbd R
            rw [← hD] at hx
            have hn1 := next_any h1 h2 h3 h4 (Nat.le_trans (encs_drop_le l i) HSL.out)
            rw [hx, HN4.out] at hn1
            have HN1 := Lib.hid hn1
            have hrn : (R.length : Int) < (n4 : Int) := by
              have e1 := congrArg List.length hD
              rw [List.length_append, HN4.out] at e1
              have := enc_pos l[i]
              omega
            have hrn2 : ¬ (n4 : Int) ≤ (R.length : Int) := by omega
            have HR := Lib.hid hR
            have HSZ := Lib.hid hsz
            have HLI := Lib.hid hLi
            clear hF hbd hv hsz h1 h2 h3 h4 hR hD hx hn1 hLi
            go_wp2_with (first
              | (go_at_call 14
                 refine HN1.out.mono ?_
                 rintro e w6 ⟨hb6, ya, yi, ys, yA, yn, yc, A2, c2, rfl, hLx, hBy⟩
                 have hbn := below_new w6 (.cells #[.int .i64 ya, .int .i64 yi, .string ys, .slice yA yn yc] 33)
                 have HLX := Lib.hid (hLx.below hbn)
                 have HBY := Lib.hid (hBy.below hbn)
                 have HB6 := Lib.hid (below_self hb6 hbn)
                 have bx6 := Bx.new (w := w6) rfl ya yi ys yA yn yc 33
                 clear hb6 hLx hBy hbn)
              | fail)
            have HG7 := Lib.hid (below_self HGA.out HB6.out)
            obtain ⟨M, hM⟩ : ∃ M, w6.heap.size = M := ⟨_, rfl⟩
            rw [hM] at bx6 ⊢
            have e0 := bx6.c0
            have e1 := bx6.c1
            have e2 := bx6.c2
            have e3 := bx6.c3
            have k0 := old_cell HB6.out d0 (World.block_lt_of_cell? _ _ d0)
            have k1 := old_cell HB6.out d1 (World.block_lt_of_cell? _ _ d1)
            have k2 := old_cell HB6.out d2 (World.block_lt_of_cell? _ _ d2)
            have k3 := old_cell HB6.out d3 (World.block_lt_of_cell? _ _ d3)
            have HLV := Lib.hid (HLI.out.below HB6.out)
            clear hM bx6
            generalize (w6.alloc (.cells #[.int .i64 ya, .int .i64 yi, .string ys, .slice yA yn yc] 33)) = w7 at *
            have hbW : Below w7.heap.size w7 w7.drew := ⟨rfl, rfl, rfl, Nat.le_refl _, fun _ _ => rfl⟩
            have hEQ := eq_refl l[i]
            have HEQ := Lib.hid hEQ
            clear d0 d1 d2 d3 hEQ
            go_region_held3 (fun w' => w'.cell? ⟨M, 0, none⟩ = some (.int .i64 ya) ∧ w'.cell? ⟨M, 1, none⟩ = some (.int .i64 yi) ∧ w'.cell? ⟨M, 2, none⟩ = some (.string ys) ∧ w'.cell? ⟨M, 3, none⟩ = some (.slice yA yn yc) ∧
                w'.cell? ⟨b, off + i * 4, none⟩ = some (.int .i64 xa) ∧ w'.cell? ⟨b, off + i * 4 + 1, none⟩ = some (.int .i64 xi) ∧ w'.cell? ⟨b, off + i * 4 + 2, none⟩ = some (.string xs) ∧ w'.cell? ⟨b, off + i * 4 + 3, none⟩ = some (.slice xB xn xc))
              (first
                | (refine ⟨?_, ?_, ?_, ?_, ?_, ?_, ?_, ?_⟩
                   all_goals go_keep)
                | (go_split_ands
                   refine ⟨?_, ?_, ?_, ?_, ?_, ?_, ?_, ?_⟩
                   all_goals ((rw [hbx.cell (World.block_lt_of_cell? _ _ (by assumption))]; assumption)))
                | (go_keep; done))
              (first
                | (go_at_call 13
                   with_reducible refine (own_any (t := l[i]) (F := TT) (HLV.out.below hbW) HSZ.out).mono ?_
                   rintro e w' hMd
                   obtain ⟨za, zi, zs, zA, zn, zc, rfl, hLq, hbx⟩ := hMd.shape
                   replace hbW := below_self hbW hbx
                   have HLQ := Lib.hid hLq
                   clear hMd hLq)
                | (go_at_call 15
                   with_reducible refine (equal_any (HLX.out.below hbW) HLQ.out).mono ?_
                   rintro e w' ⟨he, hbx⟩
                   rw [HEQ.out] at he
                   subst he
                   replace hbW := below_self hbW hbx)
                | fail)
            have HN5 : Hid ((encs (l.drop (i + 1))).length = R.length) := Lib.hid (by rw [HR.out])
            have HXN : Hid (Byt w' w2.heap.size (.slice A2 R.length c2) (encs (l.drop (i + 1)))) := Lib.hid (by rw [HR.out]; exact (HBY.out.below hbW).mono HGA.out.size)
            have HGN := Lib.hid (below_self (below_self HG4.out HB6.out) hbW)
            clear hbW
            go_wp2
            go_roundw
            case rel => exact ⟨i + 1, A2, c2, R.length, by omega, by go_num, rfl, HN5, HXN, HGN⟩
            case measure => simp [RowKit.intOf]; omega
          · have hn0 : n4 = 0 := by
              have := HN4.out
              rw [List.drop_eq_nil_of_le (by rw [HQ.out]; omega)] at this
              simpa [encs] using this.symm
            subst hn0
            go_wp2_with fail
            go_ret
            exact ⟨rfl, below_self HB2.out (below_self HGm.out HG4.out)⟩

theorem readable : ∀ t ∈ Try.f3.params.toList, Try.prog.readableRec t = true ∧ t < Try.prog.types.size := Frame.readable_of (by kernel_rfl)

set_option maxRecDepth 100000 in
theorem contract (H : Type) (enc : TypeId × Value → H) (W : World) (base : Nat) (args : Array Value) (ds gs : List (DataW H)) (before : List MemPlace)
    (hval : ∀ (j : Nat) t v, Try.f3.params[j]? = some t → args[j]? = some v → Value.okWide Try.prog W .any base t v)
    (hW : DataW.Whole enc Try.prog Try.f3.params.toList Rows.codecStreamsSpec.vars false W args.toList ds gs before) (hT : True) :
    Calls Try.prog 3 args W fun e W' => ∃ v, e = .returned v ∧ Rows.codecStreamsSpec.post enc Try.prog Try.f3 false true false false W args v W' := by
  have hW' := hW
  obtain ⟨p, q, hA0, hV, rfl, hfz, hnd⟩ := hW
  have hA : DataW.TrodAll enc Try.prog W 0 (fun _ => true) true Try.f3.params.toList args.toList ds p := hA0
  rw [Try.params3] at hA hval
  obtain ⟨v0, vs0, d0, ds0, p0, q0, hargs, rfl, rfl, h0, r0⟩ := trodAll_cons hA
  obtain ⟨rfl, rfl, rfl⟩ := trodAll_nil r0
  obtain rfl : args = #[v0] := by cases args; simp_all
  obtain ⟨ls0, As0, cs0, rfl, hl0, hL0⟩ := Cod.open_values (hval 0 22 v0 rfl rfl) h0
  refine (walk ls0 As0 cs0 W hl0 hL0).mono fun e W' ⟨he, hb⟩ => ⟨_, he, Frame.post_law Frame.laidOut readable (by kernel_rfl) Try.underlying4 hW' rfl rfl hb⟩

theorem laid_met (os : Os) : laidMetH Try.prog Rows.codecStreamsRow.laid ((World.laidAll Try.prog os Rows.codecStreamsRow.laid).forCall (fun _ _ => 0) ⟨#[], #[.slice none 0 0], []⟩).memory := by
  rw [MakeChecks.laidMetH_plain _ _ _ (by kernel_rfl)]; exact laidMet_laidAll _ (by kernel_rfl) (by kernel_rfl)
theorem reads (os : Os) {H : Type} (enc : TypeId × Value → H) : ∃ places, DataW.whole enc Try.prog ((World.laidAll Try.prog os Rows.codecStreamsRow.laid).forCall (fun _ _ => 0) ⟨#[], #[.slice none 0 0], []⟩).memory Try.f3.params.toList Rows.codecStreamsSpec.vars false (#[.slice none 0 0] : Array Value).toList 8 = some ([.nil], [], places) :=
  ⟨[], by kernel_rfl⟩
set_option maxRecDepth 100000 in
theorem lifted (os : Os) (started : os.Started) (H : Type) (enc : TypeId × Value → H) (F : Stop.Interp) :
    ReturnsInHanded {} Try.checked os 3 .any ((OpenSpec.ofChange Rows.codecStreamsSpec).preRow enc Try.prog Try.f3 Rows.codecStreamsRow.domain false Rows.codecStreamsRow.laid) (((OpenSpec.ofChange Rows.codecStreamsSpec).at F).post enc Try.prog Try.f3 false true false false) := by
  obtain ⟨places, hx⟩ := reads os enc
  refine returnsInHanded_of_row (C := Try.checked) (s := OpenSpec.ofChange Rows.codecStreamsSpec) Frame.own started (by kernel_rfl) Try.func3
    (Frame.witness_row_shaped (enc := enc) (C := Try.checked) false (World.laidAll Try.prog os Rows.codecStreamsRow.laid) #[.slice none 0 0] (World.laidAll_os _ _ _) (World.shaped_of_ZipB (by kernel_rfl) (by kernel_rfl)) (by kernel_rfl)
      (OpenSpec.preRow_of_cond 8 hx (by kernel_rfl) (fun k hk => by cases hk) (by kernel_rfl) (laid_met os))) ?_
  intro W base args ds gs before hval hW _ _ hsz hL hsh _
  rw [MakeChecks.laidMetH_plain _ _ _ (by kernel_rfl)] at hL
  exact contract H enc W base args ds gs before hval hW (trivial)

theorem said : Rows.CodecStreamsSaid :=
  OpenClaim.holds_of_cond 3 Try.f3 rfl rfl rfl rfl rfl rfl rfl ⟨rfl, rfl, rfl, rfl, rfl⟩ rfl rfl rfl rfl rfl (by kernel_rfl) Try.func3 (by kernel_rfl)
    (of_decide_eq_true (by kernel_rfl)) (by unfold Func.isWrapper; first | (rw [if_pos (by decide +kernel)]; kernel_rfl) | (rw [if_neg (by decide +kernel)]; exact ⟨rfl, rfl⟩))
    (fun os started H enc _ F => by rw [OpenClaim.pre_eq_preRow]; exact lifted os started H enc F)

end Go.Proofs.Ytohoobgbmhondaa.codecStreams
