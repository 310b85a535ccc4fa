/- CodecNext: for every bytes the law returns true and turns nothing that lay in memory. No condition. (Written by wip/tools/gennext.py.) -/
import Derived.SevenTiedAt
import Derived.OpenShut
import Derived.Test.YtiababmfalnflaaFrame
import Derived.Test.YtiababmfalnflaaCodLaw
import Derived.Test.YtiababmfalnflaaCodNext
namespace Go.Proofs.Ytiababmfalnflaa.codecNext
open Go Go.RowKit Go.WideShapes Go.ChangeShapes Cod

theorem zero_lies (w : World) : Lies w TT (.node 0 0 [] []) (.agg #[.int .i64 0, .int .i64 0, .string ⟨#[]⟩, .slice none 0 0]) :=
  Lies.mk rfl ⟨by omega, by omega⟩ ⟨by omega, by omega⟩ (by simp) (by simp) (.inl rfl) (fun _ => rfl)
set_option maxRecDepth 100000 in
set_option maxHeartbeats 16000000 in
theorem walk (bs : List UInt8) (bv : Value) (w : World) (hbv : BytesIn w bv bs) :
    Calls Try.prog 5 #[bv] w fun e w' => e = .returned (.bool true) ∧ Below w.heap.size w w' := by
  obtain ⟨B, cb, rfl, hB1, hB2, hB3, hBB⟩ := hbv
  have HBB0 := Lib.hid hBB
  clear hBB
  go_enter Try.func5, Try.ntmps5
  go_wp2_with fail
  refine (awake_any _).mono ?_
  rintro e w2 ⟨rfl, hb⟩
  have HBB2 := Lib.hid (bytAt_below HBB0.out hb)
  have HB2 := Lib.hid hb
  clear hb
  by_cases hbig : 3000 < bs.length
  · have hbi : (3000 : Int) < (bs.length : Int) := by omega
    clear hbig
    go_wp2_with fail
    go_ret
    exact ⟨rfl, HB2.out⟩
  · have hbi : ¬ (3000 : Int) < (bs.length : Int) := by omega
    have hlen : bs.length ≤ 3000 := by omega
    clear hbig
    have hn1 := next_any HBB2.out hB1 hB2 hB3 (by omega)
    have HRR := Lib.hid (rread_n 64 (Nat.le_refl _))
    cases hx : rd 64 bs with
    | none =>
      rw [hx] at hn1
      have HN1 := Lib.hid hn1
      have HX := Lib.hid hx
      clear hn1 hx
      go_wp2_with (first
        | (go_at_call 24; refine HN1.out.mono ?_; rintro e w4 ⟨hb, rfl⟩
           have hbn := below_new w4 (.cells #[.int .i64 0, .int .i64 0, .string ⟨#[]⟩, .slice none 0 0] 29)
           have bx5 := Bx.new (w := w4) rfl 0 0 ⟨#[]⟩ none 0 0 29
           have HBB5 := Lib.hid (bytAt_below (bytAt_below HBB2.out hb) hbn)
           have HB5 := Lib.hid (below_self (below_self HB2.out hb) hbn)
           have hd2 := HRR.out bs B cb _ HBB5.out hB1 hB2 hB3 hlen
           rw [HX.out] at hd2
           have HD2 := Lib.hid hd2
           clear hb hbn hd2)
        | (go_at_call 25; refine HD2.out.mono ?_; rintro e w6 ⟨hb, rfl⟩
           have hbn := below_new w6 (.cells #[.int .i64 0, .int .i64 0, .string ⟨#[]⟩, .slice none 0 0] 24)
           have bx7 := (bx5.go hb).go hbn
           have HB7 := Lib.hid (below_self (below_self HB5.out hb) hbn)
           have a0 := bx7.c0
           have a1 := bx7.c1
           have a2 := bx7.c2
           have a3 := bx7.c3
           clear hb hbn)
        | (go_at_call 26; refine (equal_any (zero_lies _) (zero_lies _)).mono ?_; rintro e w8 ⟨he, hb⟩
           rw [eq_refl] at he
           subst he
           have HB8 := Lib.hid (below_self HB7.out hb)
           clear hb)
        | fail)
      go_ret
      exact ⟨rfl, HB8.out⟩
    | some p =>
      obtain ⟨t, r⟩ := p
      obtain ⟨hget, _, _⟩ := enc_rd 64 bs t r (by omega) hx
      have hsh := rd_shorter (by omega) hx
      obtain ⟨u, hu⟩ : ∃ u, bs.length - r.length = u := ⟨_, rfl⟩
      have hgl := congrArg List.length hget
      rw [List.length_append] at hgl
      have HLT : Hid ((enc t).length ≤ 3000) := Lib.hid (by omega)
      have HDR : Hid (bs.drop u = r) := Lib.hid (by rw [← hu]; conv => lhs; rw [hget]
                                                    simp)
      rw [hx] at hn1
      have HN1 := Lib.hid hn1
      have HX := Lib.hid hx
      have HU := Lib.hid hu
      have hu1 : ¬ (u : Int) = 0 := by omega
      have hub : ((u : Int) == 0) = false := by simpa using hu1
      have hul : (u : Int) ≤ (bs.length : Int) := by omega
      have hrl : Hid (r.length = bs.length - u) := Lib.hid (by omega)
      obtain ⟨g, off, rfl, hg, _⟩ := HBB2.out.pos (by omega)
      clear hn1 hx hget hgl hu hsh hg
      go_upto_region 10 with (first
        | (go_at_call 24; refine HN1.out.mono ?_; rintro e w4 ⟨hb, xa, xi, xs, xA, xn, xc, A2, c2, rfl, hLx, hBy⟩
           have hbn := below_new w4 (.cells #[.int .i64 xa, .int .i64 xi, .string xs, .slice xA xn xc] 29)
           have HX5 := Lib.hid (hLx.below hbn)
           have bx5 := Bx.new (w := w4) rfl xa xi xs xA xn xc 29
           have HY5 := Lib.hid (hBy.below hbn)
           have HBB5 := Lib.hid (bytAt_below (bytAt_below HBB2.out hb) hbn)
           have HB5 := Lib.hid (below_self (below_self HB2.out hb) hbn)
           have hd2 := HRR.out bs _ cb _ HBB5.out hB1 hB2 hB3 hlen
           rw [HX.out] at hd2
           have HD2 := Lib.hid hd2
           clear hb hbn hLx hBy hd2)
        | (go_at_call 25; refine HD2.out.mono ?_; rintro e w6 ⟨hb, ya, yi, ys, yA, yn, yc, he, hLy⟩
           rw [HU.out] at he
           subst he
           have hbn := below_new w6 (.cells #[.int .i64 ya, .int .i64 yi, .string ys, .slice yA yn yc] 24)
           have bx7 := (bx5.go hb).go hbn
           have by7 := Bx.new (w := w6) rfl ya yi ys yA yn yc 24
           have HX7 := Lib.hid ((HX5.out.below hb).below hbn)
           have HR7 := Lib.hid (hLy.below hbn)
           have HY7 := Lib.hid ((HY5.out.below hb).below hbn)
           have HBB7 := Lib.hid (bytAt_below (bytAt_below HBB5.out hb) hbn)
           have HB7 := Lib.hid (below_self (below_self HB5.out hb) hbn)
           have a0 := bx7.c0
           have a1 := bx7.c1
           have a2 := bx7.c2
           have a3 := bx7.c3
           clear hb hbn hLy)
        | (go_at_call 22; refine (back_any HX7.out HLT.out).mono ?_; rintro e w8 ⟨za, zi, zs, zA, zn, zc, rfl, hLz, hb⟩
           have hbn := below_new w8 (.cells #[.int .i64 za, .int .i64 zi, .string zs, .slice zA zn zc] 24)
           have by9 := (by7.go hb).go hbn
           have bz9 := Bx.new (w := w8) rfl za zi zs zA zn zc 24
           have HR9 := Lib.hid ((HR7.out.below hb).below hbn)
           have HZ9 := Lib.hid (hLz.below hbn)
           have HY9 := Lib.hid ((HY7.out.below hb).below hbn)
           have HBB9 := Lib.hid (bytAt_below (bytAt_below HBB7.out hb) hbn)
           have HB9 := Lib.hid (below_self (below_self HB7.out hb) hbn)
           clear hb hbn hLz)
        | fail)
      obtain ⟨M6, hM6⟩ : ∃ M, w6.heap.size = M := ⟨_, rfl⟩
      obtain ⟨M8, hM8⟩ : ∃ M, w8.heap.size = M := ⟨_, rfl⟩
      rw [hM6] at by9 ⊢
      rw [hM8] at bz9 ⊢
      clear hM6 hM8 bx5 bx7 by7 a0 a1 a2 a3
      generalize (w8.alloc (.cells #[.int .i64 za, .int .i64 zi, .string zs, .slice zA zn zc] 24)) = w9 at *
      have b0 := by9.c0
      have b1 := by9.c1
      have b2 := by9.c2
      have b3 := by9.c3
      have e0 := bz9.c0
      have e1 := bz9.c1
      have e2 := bz9.c2
      have e3 := bz9.c3
      obtain ⟨sR, hsR⟩ : ∃ sR : ByteArray, sR = ⟨r.toArray⟩ := ⟨_, rfl⟩
      have HSR := Lib.hid hsR
      have HCA : Hid (∀ W, Below w9.heap.size w9 W → (convert 31 9 (.slice A2 r.length c2)).run Try.prog W = .ok (.string sR) W) := Lib.hid fun W hb => by rw [HSR.out]; exact (HY9.out.below hb).conv
      have hdr : Below w9.heap.size w9 w9.drew := ⟨rfl, rfl, rfl, Nat.le_refl _, fun _ _ => rfl⟩
      have hbW := hdr
      clear by9 bz9 hsR
      by_cases hcu : cb = u
      · have hbl : bs.length = u := by omega
        have hr0 : r = [] := List.eq_nil_of_length_eq_zero (by have := hrl.out; omega)
        have HC0 : Hid (∀ W, Below w9.heap.size w9 W → (convert 31 9 (.slice (some ⟨g, off, none⟩) 0 0)).run Try.prog W = .ok (.string sR) W) := Lib.hid fun W _ => by
          have := (show BytAt W W.heap.size (some ⟨g, off, none⟩) [] from .inl rfl).conv (fun h => by cases h) 0
          rw [HSR.out, hr0]; exact this
        rw [hbl]
        subst hcu
        clear hr0
        go_wp2_with fail
        go_region_held3 (fun w' => w'.cell? ⟨M6, 0, none⟩ = some (.int .i64 ya) ∧ w'.cell? ⟨M6, 1, none⟩ = some (.int .i64 yi) ∧ w'.cell? ⟨M6, 2, none⟩ = some (.string ys) ∧ w'.cell? ⟨M6, 3, none⟩ = some (.slice yA yn yc) ∧ w'.cell? ⟨M8, 0, none⟩ = some (.int .i64 za) ∧ w'.cell? ⟨M8, 1, none⟩ = some (.int .i64 zi) ∧ w'.cell? ⟨M8, 2, none⟩ = some (.string zs) ∧ w'.cell? ⟨M8, 3, none⟩ = some (.slice zA zn zc) ∧ (convert 31 9 (.slice A2 r.length c2)).run Try.prog w' = .ok (.string sR) w' ∧ (convert 31 9 (.slice (some ⟨g, off, none⟩) 0 0)).run Try.prog w' = .ok (.string sR) w')
          (first
            | (refine ⟨?_, ?_, ?_, ?_, ?_, ?_, ?_, ?_, HCA.out _ hbW, HC0.out _ hbW⟩
               all_goals go_keep)
            | (go_split_ands
               refine ⟨?_, ?_, ?_, ?_, ?_, ?_, ?_, ?_, HCA.out _ hbW, HC0.out _ hbW⟩
               all_goals ((rw [hbx.cell (World.block_lt_of_cell? _ _ (by assumption))]; assumption)))
            | (go_keep; done))
          (first
            | (go_at_call 23
               (with_reducible refine (refequal_any (t := t) (u := t) (HZ9.out.below hbW) (HR9.out.below hbW)).mono ?_)
               rintro e w' ⟨he, hbx⟩
               rw [eq_refl] at he
               subst he
               replace hbW := below_self hbW hbx))
        all_goals go_wp2
        all_goals go_ret
        all_goals exact ⟨rfl, below_self HB9.out hbW⟩
      · have HCB : Hid (∀ W, Below w9.heap.size w9 W → (convert 31 9 (.slice (some ⟨g, off + u, none⟩) (bs.length - u) (cb - u))).run Try.prog W = .ok (.string sR) W) := Lib.hid fun W hb => by
          have := ((bytAt_below HBB9.out hb).drop u).conv (fun h => by cases h) (cb - u)
          rw [HDR.out, hrl.out] at this
          rw [HSR.out]; exact this
        go_wp2_with fail
        go_region_held3 (fun w' => w'.cell? ⟨M6, 0, none⟩ = some (.int .i64 ya) ∧ w'.cell? ⟨M6, 1, none⟩ = some (.int .i64 yi) ∧ w'.cell? ⟨M6, 2, none⟩ = some (.string ys) ∧ w'.cell? ⟨M6, 3, none⟩ = some (.slice yA yn yc) ∧ w'.cell? ⟨M8, 0, none⟩ = some (.int .i64 za) ∧ w'.cell? ⟨M8, 1, none⟩ = some (.int .i64 zi) ∧ w'.cell? ⟨M8, 2, none⟩ = some (.string zs) ∧ w'.cell? ⟨M8, 3, none⟩ = some (.slice zA zn zc) ∧ (convert 31 9 (.slice A2 r.length c2)).run Try.prog w' = .ok (.string sR) w' ∧ (convert 31 9 (.slice (some ⟨g, off + u, none⟩) (bs.length - u) (cb - u))).run Try.prog w' = .ok (.string sR) w')
          (first
            | (refine ⟨?_, ?_, ?_, ?_, ?_, ?_, ?_, ?_, HCA.out _ hbW, HCB.out _ hbW⟩
               all_goals go_keep)
            | (go_split_ands
               refine ⟨?_, ?_, ?_, ?_, ?_, ?_, ?_, ?_, HCA.out _ hbW, HCB.out _ hbW⟩
               all_goals ((rw [hbx.cell (World.block_lt_of_cell? _ _ (by assumption))]; assumption)))
            | (go_keep; done))
          (first
            | (go_at_call 23
               (with_reducible refine (refequal_any (t := t) (u := t) (HZ9.out.below hbW) (HR9.out.below hbW)).mono ?_)
               rintro e w' ⟨he, hbx⟩
               rw [eq_refl] at he
               subst he
               replace hbW := below_self hbW hbx))
        all_goals go_wp2
        all_goals go_ret
        all_goals exact ⟨rfl, below_self HB9.out hbW⟩

theorem readable : ∀ t ∈ Try.f5.params.toList, Try.prog.readableRec t = true ∧ t < Try.prog.types.size := Frame.readable_of (by kernel_rfl)

set_option maxRecDepth 100000 in
theorem contract (H : Type) (enc : TypeId × Value → H) (W : World) (base : Nat) (args : Array Value) (ds gs : List (DataW H)) (before : List MemPlace)
    (hval : ∀ (j : Nat) t v, Try.f5.params[j]? = some t → args[j]? = some v → Value.okWide Try.prog W .any base t v)
    (hW : DataW.Whole enc Try.prog Try.f5.params.toList Rows.codecNextSpec.vars false W args.toList ds gs before) (hT : True) :
    Calls Try.prog 5 args W fun e W' => ∃ v, e = .returned v ∧ Rows.codecNextSpec.post enc Try.prog Try.f5 false true false false W args v W' := by
  have hW' := hW
  obtain ⟨p, q, hA0, hV, rfl, hfz, hnd⟩ := hW
  have hA : DataW.TrodAll enc Try.prog W 0 (fun _ => true) true Try.f5.params.toList args.toList ds p := hA0
  rw [Try.params5] at hA hval
  obtain ⟨v0, vs0, d0, ds0, p0, q0, hargs, rfl, rfl, h0, r0⟩ := trodAll_cons hA
  obtain ⟨rfl, rfl, rfl⟩ := trodAll_nil r0
  obtain rfl : args = #[v0] := by cases args; simp_all
  obtain ⟨bs0, hb0⟩ := Cod.open_bytes (hval 0 31 v0 rfl rfl) h0
  refine (walk bs0 _ W hb0).mono fun e W' ⟨he, hb⟩ => ⟨_, he, Frame.post_law Frame.laidOut readable (by kernel_rfl) Try.underlying4 hW' rfl rfl hb⟩

theorem laid_met (os : Os) : laidMetH Try.prog Rows.codecNextRow.laid ((World.laidAll Try.prog os Rows.codecNextRow.laid).forCall (fun _ _ => 0) ⟨#[], #[.slice none 0 0], []⟩).memory := by
  rw [MakeChecks.laidMetH_plain _ _ _ (by kernel_rfl)]; exact laidMet_laidAll _ (by kernel_rfl) (by kernel_rfl)
theorem reads (os : Os) {H : Type} (enc : TypeId × Value → H) : ∃ places, DataW.whole enc Try.prog ((World.laidAll Try.prog os Rows.codecNextRow.laid).forCall (fun _ _ => 0) ⟨#[], #[.slice none 0 0], []⟩).memory Try.f5.params.toList Rows.codecNextSpec.vars false (#[.slice none 0 0] : Array Value).toList 8 = some ([.nil], [], places) :=
  ⟨[], by kernel_rfl⟩
set_option maxRecDepth 100000 in
theorem lifted (os : Os) (started : os.Started) (H : Type) (enc : TypeId × Value → H) (F : Stop.Interp) :
    ReturnsInHanded {} Try.checked os 5 .any ((OpenSpec.ofChange Rows.codecNextSpec).preRow enc Try.prog Try.f5 Rows.codecNextRow.domain false Rows.codecNextRow.laid) (((OpenSpec.ofChange Rows.codecNextSpec).at F).post enc Try.prog Try.f5 false true false false) := by
  obtain ⟨places, hx⟩ := reads os enc
  refine returnsInHanded_of_row (C := Try.checked) (s := OpenSpec.ofChange Rows.codecNextSpec) Frame.own started (by kernel_rfl) Try.func5
    (Frame.witness_row_shaped (enc := enc) (C := Try.checked) false (World.laidAll Try.prog os Rows.codecNextRow.laid) #[.slice none 0 0] (World.laidAll_os _ _ _) (World.shaped_of_ZipB (by kernel_rfl) (by kernel_rfl)) (by kernel_rfl)
      (OpenSpec.preRow_of_cond 8 hx (by kernel_rfl) (fun k hk => by cases hk) (by kernel_rfl) (laid_met os))) ?_
  intro W base args ds gs before hval hW _ _ hsz hL hsh _
  rw [MakeChecks.laidMetH_plain _ _ _ (by kernel_rfl)] at hL
  exact contract H enc W base args ds gs before hval hW (trivial)

theorem said : Rows.CodecNextSaid :=
  OpenClaim.holds_of_cond 5 Try.f5 rfl rfl rfl rfl rfl rfl rfl ⟨rfl, rfl, rfl, rfl, rfl⟩ rfl rfl rfl rfl rfl (by kernel_rfl) Try.func5 (by kernel_rfl)
    (of_decide_eq_true (by kernel_rfl)) (by unfold Func.isWrapper; first | (rw [if_pos (by decide +kernel)]; kernel_rfl) | (rw [if_neg (by decide +kernel)]; exact ⟨rfl, rfl⟩))
    (fun os started H enc _ F => by rw [OpenClaim.pre_eq_preRow]; exact lifted os started H enc F)

end Go.Proofs.Ytiababmfalnflaa.codecNext
