/- CodecDecodes: for every bytes the law returns true and turns nothing that lay in memory. No condition. (Written by wip/tools/gendecodes.py.) -/
import Derived.SevenTiedAt
import Derived.OpenShut
import Derived.Test.YtiababmfalnflaaFrame
import Derived.Test.YtiababmfalnflaaCodLaw
import Derived.Test.YtiababmfalnflaaCodRDec
import Derived.Test.YtiababmfalnflaaCodHd3
namespace Go.Proofs.Ytiababmfalnflaa.codecDecodes
open Go Go.RowKit Go.WideShapes Go.ChangeShapes Cod

theorem byt_empty {w : World} {g : Nat} (hg : w.heap.size = g) : Byt (w.alloc (.cells #[] 5)) g (.slice (some ⟨g, 0, none⟩) 0 0) [] :=
  ⟨rfl, .inr ⟨g, 0, #[], rfl, Nat.le_refl _, by subst hg; exact heap_alloc_new w _, Nat.le_refl _, Nat.zero_le _, rfl, rfl⟩⟩
theorem src_cells {w : World} {n0 : Nat} {a : Addr} {l : List UInt8} (h : BytAt w n0 (some a) l) : ∀ j u, (cellsL l)[j]? = some u → w.cell? (a.add j) = some u := by
  intro j u hu
  unfold cellsL at hu
  rw [List.getElem?_map] at hu
  rcases Nat.lt_or_ge j l.length with hj | hj
  · rw [List.getElem?_eq_getElem hj] at hu
    obtain ⟨g, off, h1, _, h3⟩ := h.pos (by omega)
    injection h1 with h1
    subst h1
    rw [Go.WideShapes.add_plain, h3 j hj]
    exact hu
  · rw [List.getElem?_eq_none hj] at hu; cases hu
def dT (x : Option T) : T := x.getD (.node 0 0 [] [])
def dE (x : Option T) : Int := if x.isSome then 0 else 4
theorem zero_lies (w : World) : Lies w TT (.node 0 0 [] []) (.agg #[.int .i64 0, .int .i64 0, .string ⟨#[]⟩, .slice none 0 0]) :=
  Lies.mk rfl ⟨by omega, by omega⟩ ⟨by omega, by omega⟩ (by simp) (by simp) (.inl rfl) (fun _ => rfl)
theorem dT_len {bs : List UInt8} (h : bs.length ≤ 3000) : (enc (dT (decV bs))).length ≤ 3000 := by
  cases hd : decV bs with
  | none => simp [dT, enc, encs, numT, headL]
  | some t => rw [show dT (some t) = t from rfl, (enc_dec hd).1]; exact h
theorem decode_uni {bs : List UInt8} {w : World} {B : Option Addr} {cb : Nat} (hB : BytAt w w.heap.size B bs) (h1 : bs.length ≤ cb) (h2 : cb ≤ 9223372036854775807) (h3 : B = none → cb = 0) :
    Calls Try.prog 20 #[.slice B bs.length cb] w fun e w' => ∃ (a i : Int) (sb : ByteArray) (A : Option Addr) (n c : Nat), e = .returned (.tuple #[.agg #[.int .i64 a, .int .i64 i, .string sb, .slice A n c], .int .i64 (dE (decV bs))]) ∧
        Lies w' TT (dT (decV bs)) (.agg #[.int .i64 a, .int .i64 i, .string sb, .slice A n c]) ∧ Below w.heap.size w w' :=
  (decode_any hB h1 h2 h3).mono fun e w' hR => by
    cases hd : decV bs with
    | none => rw [hd] at hR; exact ⟨0, 0, ⟨#[]⟩, none, 0, 0, hR.2, zero_lies w', hR.1⟩
    | some t =>
      rw [hd] at hR
      obtain ⟨hb, a, i, sb, A, n, c, he, hL⟩ := hR
      exact ⟨a, i, sb, A, n, c, he, hL.mono fun _ _ => trivial, hb⟩
theorem rdecode_uni {bs : List UInt8} {w : World} {B : Option Addr} {cb : Nat} (hB : BytAt w w.heap.size B bs) (h1 : bs.length ≤ cb) (h2 : cb ≤ 9223372036854775807) (h3 : B = none → cb = 0) (h4 : bs.length ≤ 3000) :
    Calls Try.prog 21 #[.slice B bs.length cb] w fun e w' => ∃ (a i : Int) (sb : ByteArray) (A : Option Addr) (n c : Nat), e = .returned (.tuple #[.agg #[.int .i64 a, .int .i64 i, .string sb, .slice A n c], .int .i64 (dE (decV bs))]) ∧
        Lies w' TT (dT (decV bs)) (.agg #[.int .i64 a, .int .i64 i, .string sb, .slice A n c]) ∧ Below w.heap.size w w' :=
  (rdecode_any hB h1 h2 h3 h4).mono fun e w' hR => by
    cases hd : decV bs with
    | none => rw [hd] at hR; exact ⟨0, 0, ⟨#[]⟩, none, 0, 0, hR.2, zero_lies w', hR.1⟩
    | some t =>
      rw [hd] at hR
      obtain ⟨hb, a, i, sb, A, n, c, he, hL⟩ := hR
      exact ⟨a, i, sb, A, n, c, he, hL, hb⟩
set_option maxRecDepth 100000 in
set_option maxHeartbeats 16000000 in
theorem walk (bs : List UInt8) (bv : Value) (w : World) (hbv : BytesIn w bv bs) :
    Calls Try.prog 4 #[bv] w fun e w' => e = .returned (.bool true) ∧ Below w.heap.size w w' := by
  obtain ⟨B, cb, rfl, hB1, hB2, hB3, hBB⟩ := hbv
  have HBB0 := Lib.hid hBB
  obtain ⟨sB, hsB⟩ : ∃ sB : ByteArray, sB = ⟨bs.toArray⟩ := ⟨_, rfl⟩
  have HSB := Lib.hid hsB
  obtain ⟨i0, hi0, hz0, hz1, hz2⟩ := info_parts info_u8
  clear hBB hsB
  go_enter Try.func4, Try.ntmps4
  go_wp2_with fail
  refine (awake_any _).mono ?_
  rintro e w2 ⟨rfl, hb⟩
  have HBB2 := Lib.hid (bytAt_below HBB0.out hb)
  have HB2 := Lib.hid hb
  have hsz2 := hb.size
  clear hb
  by_cases hbig : 3000 < bs.length
  · have hbi : (3000 : Int) < (bs.length : Int) := by omega
    clear hbig
    go_wp2_with fail
    go_ret
    exact ⟨rfl, HB2.out⟩
  · have hbi : ¬ (3000 : Int) < (bs.length : Int) := by omega
    have hlen : bs.length ≤ 3000 := by omega
    have HLT := Lib.hid (dT_len hlen)
    clear hbig
    have hbn := below_new w2 (.cells #[] 5)
    have hY0 := byt_empty (w := w2) rfl
    have HBBn := Lib.hid (bytAt_below HBB2.out hbn)
    have HBBk : Hid (BytAt (w2.alloc (.cells #[] 5)) w2.heap.size B bs) := Lib.hid (HBB2.out.keep fun b o x hlt hx => old_cell hbn hx hlt)
    have HBn := Lib.hid (below_self HB2.out hbn)
    have hgs := hbn.size
    clear hbn
    cases B with
    | none =>
      have hcb := hB3 rfl
      subst hcb
      have hbs : bs = [] := List.eq_nil_of_length_eq_zero (by omega)
      subst hbs
      go_wp2_with (first
        | (at_builtin; refine wpList_append_own_none rfl (.tmp 15) (.tmp 16) 31 rfl w2.heap.size 5 i0 1 Try.underlying31 hi0 _ 0 (cellsL []) rfl hY0 rfl ?_)
        | fail)
      have HY3 := Lib.hid hY0
      have HBB3 := HBBn
      have HB3b := HBn
      generalize w2.alloc (.cells #[] 5) = w3 at *
      obtain ⟨g1, g2, g3, g4⟩ := HY3.out.at_
      have hd1 := decode_uni g1 g2 g3 g4
      try simp only [List.length_nil] at hd1
      have HD1 := Lib.hid hd1
      clear hd1
      clear g1 g2 g3 g4
      go_wp2_with (first
        | (go_at_call 20; refine HD1.out.mono ?_; rintro e w4 ⟨xa, xi, xs, xA, xn, xc, rfl, hLx, hb⟩
           have hbn := below_new w4 (.cells #[.int .i64 xa, .int .i64 xi, .string xs, .slice xA xn xc] 29)
           have HX5 := Lib.hid (hLx.below hbn)
           have bx5 := Bx.new (w := w4) rfl xa xi xs xA xn xc 29
           have HY5 := Lib.hid ((HY3.out.below hb).below hbn)
           have HBB5 := Lib.hid (bytAt_below (bytAt_below HBB3.out hb) hbn)
           have HB5 := Lib.hid (below_self (below_self HB3b.out hb) hbn)
           have hd2 := rdecode_uni HBB5.out (Nat.le_refl _) (by omega) (fun _ => rfl) (by simp)
           try simp only [List.length_nil] at hd2
           have HD2 := Lib.hid hd2
           clear hd2
           clear hb hbn hLx)
        | (go_at_call 21; refine HD2.out.mono ?_; rintro e w6 ⟨ya, yi, ys, yA, yn, yc, rfl, hLy, hb⟩
           have hbn := below_new w6 (.cells #[.int .i64 ya, .int .i64 yi, .string ys, .slice yA yn yc] 24)
           have bx7 := (bx5.go hb).go hbn
           have by7 := Bx.new (w := w6) rfl ya yi ys yA yn yc 24
           have HX7 := Lib.hid ((HX5.out.below hb).below hbn)
           have HR7 := Lib.hid (hLy.below hbn)
           have HY7 := Lib.hid ((HY5.out.below hb).below hbn)
           have HBB7 := Lib.hid (bytAt_below (bytAt_below HBB5.out hb) hbn)
           have HB7 := Lib.hid (below_self (below_self HB5.out hb) hbn)
           have a0 := bx7.c0
           have a1 := bx7.c1
           have a2 := bx7.c2
           have a3 := bx7.c3
           clear hb hbn hLy)
        | (go_at_call 22; refine (back_any HX7.out HLT.out).mono ?_; rintro e w8 ⟨za, zi, zs, zA, zn, zc, rfl, hLz, hb⟩
           have hbn := below_new w8 (.cells #[.int .i64 za, .int .i64 zi, .string zs, .slice zA zn zc] 24)
           have by9 := (by7.go hb).go hbn
           have HR9 := Lib.hid ((HR7.out.below hb).below hbn)
           have HZ9 := Lib.hid (hLz.below hbn)
           have HY9 := Lib.hid ((HY7.out.below hb).below hbn)
           have HBB9 := Lib.hid (bytAt_below (bytAt_below HBB7.out hb) hbn)
           have HB9 := Lib.hid (below_self (below_self HB7.out hb) hbn)
           have b0 := by9.c0
           have b1 := by9.c1
           have b2 := by9.c2
           have b3 := by9.c3
           clear hb hbn hLz)
        | (go_at_call 23; refine (refequal_any HZ9.out HR9.out).mono ?_; rintro e w10 ⟨he, hb⟩
           rw [eq_refl] at he
           subst he
           have cv1 : (convert 31 9 (.slice (some ⟨w2.heap.size, 0, none⟩) 0 0)).run Try.prog w10 = .ok (.string sB) w10 := by rw [HSB.out]; exact (HY9.out.below hb).conv
           have cv2 : (convert 31 9 (.slice none 0 0)).run Try.prog w10 = .ok (.string sB) w10 := by
             rw [HSB.out]
             exact (bytAt_below HBB9.out hb).conv (fun _ => rfl) 0
           have HB10 := Lib.hid (below_self HB9.out hb)
           clear hb)
        | fail)
      go_ret
      exact ⟨rfl, HB10.out⟩
    | some aB =>
      go_wp2_with (first
        | (at_builtin; refine wpList_append_own_at _ rfl (.tmp 15) (.tmp 16) 31 rfl w2.heap.size 5 i0 (.int .u8 0) 1 1 Try.underlying31 hi0 hz0 hz1 hz2 rfl (by decide) _ 0 (cellsL []) rfl hY0 aB bs.length cb (cellsL bs) rfl (lenL bs) (src_cells HBBk.out) (oneL bs) ?c3 ?c4 hgs ?_)
        | fail)
      case c3 => unfold maxLen; omega
      case c4 => omega
      intro v3 w3 hown hgrow _ hat
      have hY3 : Byt w3 w2.heap.size v3 bs := by have := byt_app2 (l := []) (m := bs) (by simpa using hown); simpa using this
      obtain ⟨A3, c3, rfl⟩ := hY3.form
      have HY3 := Lib.hid hY3
      have hb3 : Below w2.heap.size (w2.alloc (.cells #[] 5)) w3 := (Below.refl w2.heap.size (w2.alloc (.cells #[] 5))).grown hgrow hgs (fun q hq => by simp [Value.ownBlock] at hq; omega)
      have HBB3 : Hid (BytAt w3 w3.heap.size (some aB) bs) := Lib.hid ((HBBk.out.keep fun b o x hlt hx => old_cell hb3 hx hlt).mono (by have := hb3.size; omega))
      have HB3b : Hid (Below w.heap.size w w3) := Lib.hid (HBn.out.trans (hb3.mono hsz2))
      clear hown hgrow hat hY3 hb3 hY0
      obtain ⟨g1, g2, g3, g4⟩ := HY3.out.at_
      have hd1 := decode_uni g1 g2 g3 g4
      try simp only [List.length_nil] at hd1
      have HD1 := Lib.hid hd1
      clear hd1
      clear g1 g2 g3 g4
      go_wp2_with (first
        | (go_at_call 20; refine HD1.out.mono ?_; rintro e w4 ⟨xa, xi, xs, xA, xn, xc, rfl, hLx, hb⟩
           have hbn := below_new w4 (.cells #[.int .i64 xa, .int .i64 xi, .string xs, .slice xA xn xc] 29)
           have HX5 := Lib.hid (hLx.below hbn)
           have bx5 := Bx.new (w := w4) rfl xa xi xs xA xn xc 29
           have HY5 := Lib.hid ((HY3.out.below hb).below hbn)
           have HBB5 := Lib.hid (bytAt_below (bytAt_below HBB3.out hb) hbn)
           have HB5 := Lib.hid (below_self (below_self HB3b.out hb) hbn)
           have hd2 := rdecode_uni HBB5.out hB1 hB2 hB3 hlen
           try simp only [List.length_nil] at hd2
           have HD2 := Lib.hid hd2
           clear hd2
           clear hb hbn hLx)
        | (go_at_call 21; refine HD2.out.mono ?_; rintro e w6 ⟨ya, yi, ys, yA, yn, yc, rfl, hLy, hb⟩
           have hbn := below_new w6 (.cells #[.int .i64 ya, .int .i64 yi, .string ys, .slice yA yn yc] 24)
           have bx7 := (bx5.go hb).go hbn
           have by7 := Bx.new (w := w6) rfl ya yi ys yA yn yc 24
           have HX7 := Lib.hid ((HX5.out.below hb).below hbn)
           have HR7 := Lib.hid (hLy.below hbn)
           have HY7 := Lib.hid ((HY5.out.below hb).below hbn)
           have HBB7 := Lib.hid (bytAt_below (bytAt_below HBB5.out hb) hbn)
           have HB7 := Lib.hid (below_self (below_self HB5.out hb) hbn)
           have a0 := bx7.c0
           have a1 := bx7.c1
           have a2 := bx7.c2
           have a3 := bx7.c3
           clear hb hbn hLy)
        | (go_at_call 22; refine (back_any HX7.out HLT.out).mono ?_; rintro e w8 ⟨za, zi, zs, zA, zn, zc, rfl, hLz, hb⟩
           have hbn := below_new w8 (.cells #[.int .i64 za, .int .i64 zi, .string zs, .slice zA zn zc] 24)
           have by9 := (by7.go hb).go hbn
           have HR9 := Lib.hid ((HR7.out.below hb).below hbn)
           have HZ9 := Lib.hid (hLz.below hbn)
           have HY9 := Lib.hid ((HY7.out.below hb).below hbn)
           have HBB9 := Lib.hid (bytAt_below (bytAt_below HBB7.out hb) hbn)
           have HB9 := Lib.hid (below_self (below_self HB7.out hb) hbn)
           have b0 := by9.c0
           have b1 := by9.c1
           have b2 := by9.c2
           have b3 := by9.c3
           clear hb hbn hLz)
        | (go_at_call 23; refine (refequal_any HZ9.out HR9.out).mono ?_; rintro e w10 ⟨he, hb⟩
           rw [eq_refl] at he
           subst he
           have cv1 : (convert 31 9 (.slice A3 bs.length c3)).run Try.prog w10 = .ok (.string sB) w10 := by rw [HSB.out]; exact (HY9.out.below hb).conv
           have cv2 : (convert 31 9 (.slice (some aB) bs.length cb)).run Try.prog w10 = .ok (.string sB) w10 := by
             rw [HSB.out]
             exact (bytAt_below HBB9.out hb).conv (fun h => List.eq_nil_of_length_eq_zero (by have := hB3 h; omega)) cb
           have HB10 := Lib.hid (below_self HB9.out hb)
           clear hb)
        | fail)
      go_ret
      exact ⟨rfl, HB10.out⟩

theorem readable : ∀ t ∈ Try.f4.params.toList, Try.prog.readableRec t = true ∧ t < Try.prog.types.size := Frame.readable_of (by kernel_rfl)

set_option maxRecDepth 100000 in
theorem contract (H : Type) (enc : TypeId × Value → H) (W : World) (base : Nat) (args : Array Value) (ds gs : List (DataW H)) (before : List MemPlace)
    (hval : ∀ (j : Nat) t v, Try.f4.params[j]? = some t → args[j]? = some v → Value.okWide Try.prog W .any base t v)
    (hW : DataW.Whole enc Try.prog Try.f4.params.toList Rows.codecDecodesSpec.vars false W args.toList ds gs before) (hT : True) :
    Calls Try.prog 4 args W fun e W' => ∃ v, e = .returned v ∧ Rows.codecDecodesSpec.post enc Try.prog Try.f4 false true false false W args v W' := by
  have hW' := hW
  obtain ⟨p, q, hA0, hV, rfl, hfz, hnd⟩ := hW
  have hA : DataW.TrodAll enc Try.prog W 0 (fun _ => true) true Try.f4.params.toList args.toList ds p := hA0
  rw [Try.params4] at hA hval
  obtain ⟨v0, vs0, d0, ds0, p0, q0, hargs, rfl, rfl, h0, r0⟩ := trodAll_cons hA
  obtain ⟨rfl, rfl, rfl⟩ := trodAll_nil r0
  obtain rfl : args = #[v0] := by cases args; simp_all
  obtain ⟨bs0, hb0⟩ := Cod.open_bytes (hval 0 31 v0 rfl rfl) h0
  refine (walk bs0 _ W hb0).mono fun e W' ⟨he, hb⟩ => ⟨_, he, Frame.post_law Frame.laidOut readable (by kernel_rfl) Try.underlying4 hW' rfl rfl hb⟩

theorem laid_met (os : Os) : laidMetH Try.prog Rows.codecDecodesRow.laid ((World.laidAll Try.prog os Rows.codecDecodesRow.laid).forCall (fun _ _ => 0) ⟨#[], #[.slice none 0 0], []⟩).memory := by
  rw [MakeChecks.laidMetH_plain _ _ _ (by kernel_rfl)]; exact laidMet_laidAll _ (by kernel_rfl) (by kernel_rfl)
theorem reads (os : Os) {H : Type} (enc : TypeId × Value → H) : ∃ places, DataW.whole enc Try.prog ((World.laidAll Try.prog os Rows.codecDecodesRow.laid).forCall (fun _ _ => 0) ⟨#[], #[.slice none 0 0], []⟩).memory Try.f4.params.toList Rows.codecDecodesSpec.vars false (#[.slice none 0 0] : Array Value).toList 8 = some ([.nil], [], places) :=
  ⟨[], by kernel_rfl⟩
set_option maxRecDepth 100000 in
theorem lifted (os : Os) (started : os.Started) (H : Type) (enc : TypeId × Value → H) (F : Stop.Interp) :
    ReturnsInHanded {} Try.checked os 4 .any ((OpenSpec.ofChange Rows.codecDecodesSpec).preRow enc Try.prog Try.f4 Rows.codecDecodesRow.domain false Rows.codecDecodesRow.laid) (((OpenSpec.ofChange Rows.codecDecodesSpec).at F).post enc Try.prog Try.f4 false true false false) := by
  obtain ⟨places, hx⟩ := reads os enc
  refine returnsInHanded_of_row (C := Try.checked) (s := OpenSpec.ofChange Rows.codecDecodesSpec) Frame.own started (by kernel_rfl) Try.func4
    (Frame.witness_row_shaped (enc := enc) (C := Try.checked) false (World.laidAll Try.prog os Rows.codecDecodesRow.laid) #[.slice none 0 0] (World.laidAll_os _ _ _) (World.shaped_of_ZipB (by kernel_rfl) (by kernel_rfl)) (by kernel_rfl)
      (OpenSpec.preRow_of_cond 8 hx (by kernel_rfl) (fun k hk => by cases hk) (by kernel_rfl) (laid_met os))) ?_
  intro W base args ds gs before hval hW _ _ hsz hL hsh _
  rw [MakeChecks.laidMetH_plain _ _ _ (by kernel_rfl)] at hL
  exact contract H enc W base args ds gs before hval hW (trivial)

theorem said : Rows.CodecDecodesSaid :=
  OpenClaim.holds_of_cond 4 Try.f4 rfl rfl rfl rfl rfl rfl rfl ⟨rfl, rfl, rfl, rfl, rfl⟩ rfl rfl rfl rfl rfl (by kernel_rfl) Try.func4 (by kernel_rfl)
    (of_decide_eq_true (by kernel_rfl)) (by unfold Func.isWrapper; first | (rw [if_pos (by decide +kernel)]; kernel_rfl) | (rw [if_neg (by decide +kernel)]; exact ⟨rfl, rfl⟩))
    (fun os started H enc _ F => by rw [OpenClaim.pre_eq_preRow]; exact lifted os started H enc F)

end Go.Proofs.Ytiababmfalnflaa.codecDecodes
