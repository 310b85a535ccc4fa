/- FontBox: for every font, name and percentage the law returns true and turns nothing that lay in memory. No condition. -/
import Derived.SevenTiedAt
import Derived.OpenShut
import Derived.Test.YtjhpajdkklklhaaFrame
import Derived.Test.YtjhpajdkklklhaaFonOpen2
import Derived.Test.YtjhpajdkklklhaaFonFew
import Derived.Test.YtjhpajdkklklhaaFonSameBox
import Derived.Test.YtjhpajdkklklhaaFntBox
import Derived.Deep.DeepCutAuto
namespace Go.Proofs.Ytjhpajdkklklhaa.fontBox
open Go Go.RowKit Go.WideShapes Go.ChangeShapes By Fon

set_option maxRecDepth 100000 in
set_option maxHeartbeats 8000000 in
theorem walk {v : Value} (nm : ByteArray) (p : Int) (w : World) (hv : FontV w v) :
    Calls Try.prog 6 #[v, .string nm, .int .i64 p] w fun e w' => e = .returned (.bool true) ∧ Below w.heap.size w w' := by
  obtain ⟨A, n, c, B, m, d, p0, p1, p2, p3, p4, p5, p6, p7, p8, p9, p10, p11, p12, p13, p14, p15, p16, p17, p18, p19, gs, ss, rfl, hn, hm, hl, hl2, hg, hs, hgn, hsn⟩ := hv
  obtain ⟨N, hN⟩ : ∃ N, w.heap.size = N := ⟨_, rfl⟩
  obtain ⟨W1, hW1⟩ : ∃ W', w.alloc (.cells #[.slice A n c, .slice B m d, .int .i64 p0, .int .i64 p1, .int .i64 p2, .int .i64 p3, .int .i64 p4, .int .i64 p5, .int .i64 p6, .int .i64 p7, .int .i64 p8, .int .i64 p9, .int .i64 p10, .int .i64 p11, .int .i64 p12, .int .i64 p13, .int .i64 p14, .int .i64 p15, .int .i64 p16, .int .i64 p17, .int .i64 p18, .int .i64 p19] 27) = W' := ⟨_, rfl⟩
  have hb1 : Below w.heap.size w W1 := by rw [← hW1]; exact below_new _ _
  have hr : W1.rangeAt N 0 [.slice A n c, .slice B m d, .int .i64 p0, .int .i64 p1, .int .i64 p2, .int .i64 p3, .int .i64 p4, .int .i64 p5, .int .i64 p6, .int .i64 p7, .int .i64 p8, .int .i64 p9, .int .i64 p10, .int .i64 p11, .int .i64 p12, .int .i64 p13, .int .i64 p14, .int .i64 p15, .int .i64 p16, .int .i64 p17, .int .i64 p18, .int .i64 p19] := by rw [← hW1]; exact range_new hN _ _
  obtain ⟨FW, hFW⟩ : ∃ b, fewB gs ss = b := ⟨_, rfl⟩
  obtain ⟨Y, hY⟩ : ∃ Y, boxF gs ss [p0, p1, p2, p3, p4, p5, p6, p7, p8, p9, p10, p11, p12, p13, p14, p15, p16, p17, p18, p19] nm p = Y := ⟨_, rfl⟩
  obtain ⟨y, E⟩ := Y
  have HFW : Hid (∀ W, Below W1.heap.size W1 W → Calls Try.prog 11 #[.agg #[.slice A n c, .slice B m d, .int .i64 p0, .int .i64 p1, .int .i64 p2, .int .i64 p3, .int .i64 p4, .int .i64 p5, .int .i64 p6, .int .i64 p7, .int .i64 p8, .int .i64 p9, .int .i64 p10, .int .i64 p11, .int .i64 p12, .int .i64 p13, .int .i64 p14, .int .i64 p15, .int .i64 p16, .int .i64 p17, .int .i64 p18, .int .i64 p19]] W fun e w' => e = .returned (.bool FW) ∧ Below W.heap.size W w') := Lib.hid fun W hb => hFW ▸ rfew_any hn hm hl hl2 ((hs.below hb1).below hb)
  have HBA : Hid (∀ W, Below W1.heap.size W1 W → Calls Try.prog 24 #[.agg #[.slice A n c, .slice B m d, .int .i64 p0, .int .i64 p1, .int .i64 p2, .int .i64 p3, .int .i64 p4, .int .i64 p5, .int .i64 p6, .int .i64 p7, .int .i64 p8, .int .i64 p9, .int .i64 p10, .int .i64 p11, .int .i64 p12, .int .i64 p13, .int .i64 p14, .int .i64 p15, .int .i64 p16, .int .i64 p17, .int .i64 p18, .int .i64 p19], .string nm, .int .i64 p] W fun e w' => e = .returned (.tuple #[.agg #[.int .i64 y.kind, .string y.name, .int .i64 y.size, .int .i64 y.W, .int .i64 y.H, .int .i64 y.D, .int .i64 0, .int .i64 0, .slice none 0 0, .int .i64 0, .slice none 0 0], .int .i64 E]) ∧ Below W.heap.size W w') := Lib.hid fun W hb => by
    have h := box_any (nm := nm) (p := p) (c := c) (d := d) (p0 := p0) (p1 := p1) (p2 := p2) (p3 := p3) (p4 := p4) (p5 := p5) (p6 := p6) (p7 := p7) (p8 := p8) (p9 := p9) (p10 := p10) (p11 := p11) (p12 := p12) (p13 := p13) (p14 := p14) (p15 := p15) (p16 := p16) (p17 := p17) (p18 := p18) (p19 := p19) hn hm hl hl2 ((hg.below hb1).below hb) ((hs.below hb1).below hb) hgn hsn
    unfold BoxR at h
    rw [hY] at h
    exact h
  have HBB : Hid (∀ W, Below W1.heap.size W1 W → Calls Try.prog 25 #[.agg #[.slice A n c, .slice B m d, .int .i64 p0, .int .i64 p1, .int .i64 p2, .int .i64 p3, .int .i64 p4, .int .i64 p5, .int .i64 p6, .int .i64 p7, .int .i64 p8, .int .i64 p9, .int .i64 p10, .int .i64 p11, .int .i64 p12, .int .i64 p13, .int .i64 p14, .int .i64 p15, .int .i64 p16, .int .i64 p17, .int .i64 p18, .int .i64 p19], .string nm, .int .i64 p] W fun e w' => e = .returned (.tuple #[.agg #[.int .i64 y.kind, .string y.name, .int .i64 y.size, .int .i64 y.W, .int .i64 y.H, .int .i64 y.D, .int .i64 0, .int .i64 0, .slice none 0 0, .int .i64 0, .slice none 0 0], .int .i64 E]) ∧ Below W.heap.size W w') := Lib.hid fun W hb => by
    have h := rbox_any (nm := nm) (p := p) (c := c) (d := d) (p0 := p0) (p1 := p1) (p2 := p2) (p3 := p3) (p4 := p4) (p5 := p5) (p6 := p6) (p7 := p7) (p8 := p8) (p9 := p9) (p10 := p10) (p11 := p11) (p12 := p12) (p13 := p13) (p14 := p14) (p15 := p15) (p16 := p16) (p17 := p17) (p18 := p18) (p19 := p19) hn hm hl hl2 ((hg.below hb1).below hb) ((hs.below hb1).below hb) hgn (fun s hs => ⟨(hsn s hs).1, (hsn s hs).2.1, (hsn s hs).2.2.1⟩)
    unfold BoxR at h
    rw [hY] at h
    exact h
  have HB1 := Lib.hid hb1
  have HW := Lib.hid hW1
  have HR1 := Lib.hid hr
  have hEE : (E == E) = true := beq_self_eq_true E
  clear hn hm hl hl2 hg hs hgn hsn hb1 hW1 hr hFW hY
  cases FW with
  | false =>
    go_enter Try.func6, Try.ntmps6
    go_wp2_with (first
      | (refine wpList_load_mid rfl 27 (.tmp 3) rfl N 0 rfl [.slice A n c, .slice B m d, .int .i64 p0, .int .i64 p1, .int .i64 p2, .int .i64 p3, .int .i64 p4, .int .i64 p5, .int .i64 p6, .int .i64 p7, .int .i64 p8, .int .i64 p9, .int .i64 p10, .int .i64 p11, .int .i64 p12, .int .i64 p13, .int .i64 p14, .int .i64 p15, .int .i64 p16, .int .i64 p17, .int .i64 p18, .int .i64 p19] _ HR.out Try.underlying27 rfl (by kernel_rfl) ?_)
      | (go_at_call 10; rw [HW.out]; refine (awake_any _).mono ?_; rintro e w2 ⟨rfl, hb2⟩
         have HB := Lib.hid hb2
         have HR := Lib.hid (range_below HR1.out hb2)
         clear hb2)
      | (go_at_call 11; refine (HFW.out _ HB.out).mono ?_; rintro e w3 ⟨rfl, hb3⟩
         replace HB := Lib.hid (below_self HB.out hb3)
         replace HR := Lib.hid (range_below HR.out hb3)
         clear hb3)
      | (go_at_call 24; refine (HBA.out _ HB.out).mono ?_; rintro e w4 ⟨rfl, hb4⟩
         have hbn := below_self hb4 (below_new w4 (.cells #[.int .i64 y.kind, .string y.name, .int .i64 y.size, .int .i64 y.W, .int .i64 y.H, .int .i64 y.D, .int .i64 0, .int .i64 0, .slice none 0 0, .int .i64 0, .slice none 0 0] 51))
         have H1 : Hid ((w4.alloc (.cells #[.int .i64 y.kind, .string y.name, .int .i64 y.size, .int .i64 y.W, .int .i64 y.H, .int .i64 y.D, .int .i64 0, .int .i64 0, .slice none 0 0, .int .i64 0, .slice none 0 0] 51)).rangeAt w4.heap.size 0 [.int .i64 y.kind, .string y.name, .int .i64 y.size, .int .i64 y.W, .int .i64 y.H, .int .i64 y.D, .int .i64 0, .int .i64 0, .slice none 0 0, .int .i64 0, .slice none 0 0]) := Lib.hid (range_new rfl _ _)
         replace HB := Lib.hid (below_self HB.out hbn)
         replace HR := Lib.hid (range_below HR.out hbn)
         clear hb4 hbn)
      | (go_at_call 25; refine (HBB.out _ HB.out).mono ?_; rintro e w5 ⟨rfl, hb5⟩
         have hbn := below_self hb5 (below_new w5 (.cells #[.int .i64 y.kind, .string y.name, .int .i64 y.size, .int .i64 y.W, .int .i64 y.H, .int .i64 y.D, .int .i64 0, .int .i64 0, .slice none 0 0, .int .i64 0, .slice none 0 0] 51))
         have H2 : Hid ((w5.alloc (.cells #[.int .i64 y.kind, .string y.name, .int .i64 y.size, .int .i64 y.W, .int .i64 y.H, .int .i64 y.D, .int .i64 0, .int .i64 0, .slice none 0 0, .int .i64 0, .slice none 0 0] 51)).rangeAt w5.heap.size 0 [.int .i64 y.kind, .string y.name, .int .i64 y.size, .int .i64 y.W, .int .i64 y.H, .int .i64 y.D, .int .i64 0, .int .i64 0, .slice none 0 0, .int .i64 0, .slice none 0 0]) := Lib.hid (range_new rfl _ _)
         replace H1 := Lib.hid (range_below H1.out hbn)
         replace HB := Lib.hid (below_self HB.out hbn)
         replace HR := Lib.hid (range_below HR.out hbn)
         clear hb5 hbn)
      | (refine wpList_load_by true rfl (by rfl) rfl 51 (.tmp 7) rfl w4.heap.size 0 rfl [.int .i64 y.kind, .string y.name, .int .i64 y.size, .int .i64 y.W, .int .i64 y.H, .int .i64 y.D, .int .i64 0, .int .i64 0, .slice none 0 0, .int .i64 0, .slice none 0 0] _ H1.out Try.underlying51 rfl (by kernel_rfl) ?_)
      | (refine wpList_load_by true rfl (by rfl) rfl 51 (.tmp 9) rfl w5.heap.size 0 rfl [.int .i64 y.kind, .string y.name, .int .i64 y.size, .int .i64 y.W, .int .i64 y.H, .int .i64 y.D, .int .i64 0, .int .i64 0, .slice none 0 0, .int .i64 0, .slice none 0 0] _ H2.out Try.underlying51 rfl (by kernel_rfl) ?_)
      | (go_at_call 26; refine (rsamebox_any y _).mono ?_; rintro e w6 ⟨rfl, hb6⟩
         replace HB := Lib.hid (below_self HB.out hb6)
         clear hb6)
      | fail)
    go_ret
    exact ⟨rfl, hN ▸ below_self HB1.out HB.out⟩
  | true =>
    go_enter Try.func6, Try.ntmps6
    go_wp2_with (first
      | (refine wpList_load_mid rfl 27 (.tmp 3) rfl N 0 rfl [.slice A n c, .slice B m d, .int .i64 p0, .int .i64 p1, .int .i64 p2, .int .i64 p3, .int .i64 p4, .int .i64 p5, .int .i64 p6, .int .i64 p7, .int .i64 p8, .int .i64 p9, .int .i64 p10, .int .i64 p11, .int .i64 p12, .int .i64 p13, .int .i64 p14, .int .i64 p15, .int .i64 p16, .int .i64 p17, .int .i64 p18, .int .i64 p19] _ HR.out Try.underlying27 rfl (by kernel_rfl) ?_)
      | (go_at_call 10; rw [HW.out]; refine (awake_any _).mono ?_; rintro e w2 ⟨rfl, hb2⟩
         have HB := Lib.hid hb2
         have HR := Lib.hid (range_below HR1.out hb2)
         clear hb2)
      | (go_at_call 11; refine (HFW.out _ HB.out).mono ?_; rintro e w3 ⟨rfl, hb3⟩
         replace HB := Lib.hid (below_self HB.out hb3)
         replace HR := Lib.hid (range_below HR.out hb3)
         clear hb3)
      | (go_at_call 24; refine (HBA.out _ HB.out).mono ?_; rintro e w4 ⟨rfl, hb4⟩
         have hbn := below_self hb4 (below_new w4 (.cells #[.int .i64 y.kind, .string y.name, .int .i64 y.size, .int .i64 y.W, .int .i64 y.H, .int .i64 y.D, .int .i64 0, .int .i64 0, .slice none 0 0, .int .i64 0, .slice none 0 0] 51))
         have H1 : Hid ((w4.alloc (.cells #[.int .i64 y.kind, .string y.name, .int .i64 y.size, .int .i64 y.W, .int .i64 y.H, .int .i64 y.D, .int .i64 0, .int .i64 0, .slice none 0 0, .int .i64 0, .slice none 0 0] 51)).rangeAt w4.heap.size 0 [.int .i64 y.kind, .string y.name, .int .i64 y.size, .int .i64 y.W, .int .i64 y.H, .int .i64 y.D, .int .i64 0, .int .i64 0, .slice none 0 0, .int .i64 0, .slice none 0 0]) := Lib.hid (range_new rfl _ _)
         replace HB := Lib.hid (below_self HB.out hbn)
         replace HR := Lib.hid (range_below HR.out hbn)
         clear hb4 hbn)
      | (go_at_call 25; refine (HBB.out _ HB.out).mono ?_; rintro e w5 ⟨rfl, hb5⟩
         have hbn := below_self hb5 (below_new w5 (.cells #[.int .i64 y.kind, .string y.name, .int .i64 y.size, .int .i64 y.W, .int .i64 y.H, .int .i64 y.D, .int .i64 0, .int .i64 0, .slice none 0 0, .int .i64 0, .slice none 0 0] 51))
         have H2 : Hid ((w5.alloc (.cells #[.int .i64 y.kind, .string y.name, .int .i64 y.size, .int .i64 y.W, .int .i64 y.H, .int .i64 y.D, .int .i64 0, .int .i64 0, .slice none 0 0, .int .i64 0, .slice none 0 0] 51)).rangeAt w5.heap.size 0 [.int .i64 y.kind, .string y.name, .int .i64 y.size, .int .i64 y.W, .int .i64 y.H, .int .i64 y.D, .int .i64 0, .int .i64 0, .slice none 0 0, .int .i64 0, .slice none 0 0]) := Lib.hid (range_new rfl _ _)
         replace H1 := Lib.hid (range_below H1.out hbn)
         replace HB := Lib.hid (below_self HB.out hbn)
         replace HR := Lib.hid (range_below HR.out hbn)
         clear hb5 hbn)
      | (refine wpList_load_by true rfl (by rfl) rfl 51 (.tmp 7) rfl w4.heap.size 0 rfl [.int .i64 y.kind, .string y.name, .int .i64 y.size, .int .i64 y.W, .int .i64 y.H, .int .i64 y.D, .int .i64 0, .int .i64 0, .slice none 0 0, .int .i64 0, .slice none 0 0] _ H1.out Try.underlying51 rfl (by kernel_rfl) ?_)
      | (refine wpList_load_by true rfl (by rfl) rfl 51 (.tmp 9) rfl w5.heap.size 0 rfl [.int .i64 y.kind, .string y.name, .int .i64 y.size, .int .i64 y.W, .int .i64 y.H, .int .i64 y.D, .int .i64 0, .int .i64 0, .slice none 0 0, .int .i64 0, .slice none 0 0] _ H2.out Try.underlying51 rfl (by kernel_rfl) ?_)
      | (go_at_call 26; refine (rsamebox_any y _).mono ?_; rintro e w6 ⟨rfl, hb6⟩
         replace HB := Lib.hid (below_self HB.out hb6)
         clear hb6)
      | fail)
    go_ret
    exact ⟨rfl, hN ▸ below_self HB1.out HB.out⟩

theorem readable : ∀ t ∈ Try.f6.params.toList, Try.prog.readableRec t = true ∧ t < Try.prog.types.size := Frame.readable_of (by kernel_rfl)

set_option maxRecDepth 100000 in
theorem contract (H : Type) (enc : TypeId × Value → H) (W : World) (base : Nat) (args : Array Value) (ds gs : List (DataW H)) (before : List MemPlace)
    (hval : ∀ (j : Nat) t v, Try.f6.params[j]? = some t → args[j]? = some v → Value.okWide Try.prog W .any base t v)
    (hW : DataW.Whole enc Try.prog Try.f6.params.toList Rows.fontBoxSpec.vars false W args.toList ds gs before) (hT : True) :
    Calls Try.prog 6 args W fun e W' => ∃ v, e = .returned v ∧ Rows.fontBoxSpec.post enc Try.prog Try.f6 false true false false W args v W' := by
  have hW' := hW
  obtain ⟨p, q, hA0, hV, rfl, hfz, hnd⟩ := hW
  have hA : DataW.TrodAll enc Try.prog W 0 (fun _ => true) true Try.f6.params.toList args.toList ds p := hA0
  rw [Try.params6] at hA hval
  obtain ⟨v0, vs0, d0, ds0, p0, q0, hargs, rfl, rfl, h0, r0⟩ := trodAll_cons hA
  obtain ⟨v1, vs1, d1, ds1, p1, q1, rfl, rfl, rfl, h1, r1⟩ := trodAll_cons r0
  obtain ⟨v2, vs2, d2, ds2, p2, q2, rfl, rfl, rfl, h2, r2⟩ := trodAll_cons r1
  obtain ⟨rfl, rfl, rfl⟩ := trodAll_nil r2
  obtain rfl : args = #[v0, v1, v2] := by cases args; simp_all
  have hv0 := Fon.open_font (hval 0 27 v0 rfl rfl) h0
  obtain ⟨a1, rfl, rfl, rfl, w1⟩ := Go.ChangeMaps.open_string Try.underlying9 (hval 1 9 v1 rfl rfl) h1
  obtain ⟨a2, rfl, rfl, rfl, w2⟩ := open_int Try.underlying3 (hval 2 3 v2 rfl rfl) h2
  refine (walk a1 a2 W hv0).mono fun e W' ⟨he, hb⟩ => ⟨_, he, Frame.post_law Frame.laidOut readable (by kernel_rfl) Try.underlying4 hW' rfl rfl hb⟩

theorem laid_met (os : Os) : laidMetH Try.prog Rows.fontBoxRow.laid ((World.laidAll Try.prog os Rows.fontBoxRow.laid).forCall (fun _ _ => 0) ⟨#[], #[.agg #[.slice none 0 0, .slice none 0 0, .int .i64 0, .int .i64 0, .int .i64 0, .int .i64 0, .int .i64 0, .int .i64 0, .int .i64 0, .int .i64 0, .int .i64 0, .int .i64 0, .int .i64 0, .int .i64 0, .int .i64 0, .int .i64 0, .int .i64 0, .int .i64 0, .int .i64 0, .int .i64 0, .int .i64 0, .int .i64 0], .string ⟨#[]⟩, .int .i64 0], []⟩).memory := by
  rw [MakeChecks.laidMetH_plain _ _ _ (by kernel_rfl)]; exact laidMet_laidAll _ (by kernel_rfl) (by kernel_rfl)
theorem reads (os : Os) {H : Type} (enc : TypeId × Value → H) : ∃ places, DataW.whole enc Try.prog ((World.laidAll Try.prog os Rows.fontBoxRow.laid).forCall (fun _ _ => 0) ⟨#[], #[.agg #[.slice none 0 0, .slice none 0 0, .int .i64 0, .int .i64 0, .int .i64 0, .int .i64 0, .int .i64 0, .int .i64 0, .int .i64 0, .int .i64 0, .int .i64 0, .int .i64 0, .int .i64 0, .int .i64 0, .int .i64 0, .int .i64 0, .int .i64 0, .int .i64 0, .int .i64 0, .int .i64 0, .int .i64 0, .int .i64 0], .string ⟨#[]⟩, .int .i64 0], []⟩).memory Try.f6.params.toList Rows.fontBoxSpec.vars false (#[.agg #[.slice none 0 0, .slice none 0 0, .int .i64 0, .int .i64 0, .int .i64 0, .int .i64 0, .int .i64 0, .int .i64 0, .int .i64 0, .int .i64 0, .int .i64 0, .int .i64 0, .int .i64 0, .int .i64 0, .int .i64 0, .int .i64 0, .int .i64 0, .int .i64 0, .int .i64 0, .int .i64 0, .int .i64 0, .int .i64 0], .string ⟨#[]⟩, .int .i64 0] : Array Value).toList 8 = some ([.agg [.nil, .nil, .agg [.lit (.int .i64 0), .lit (.int .i64 0), .lit (.int .i64 0), .lit (.int .i64 0), .lit (.int .i64 0), .lit (.int .i64 0), .lit (.int .i64 0), .lit (.int .i64 0), .lit (.int .i64 0), .lit (.int .i64 0), .lit (.int .i64 0), .lit (.int .i64 0), .lit (.int .i64 0), .lit (.int .i64 0), .lit (.int .i64 0), .lit (.int .i64 0), .lit (.int .i64 0), .lit (.int .i64 0), .lit (.int .i64 0), .lit (.int .i64 0)]], .lit (.string []), .lit (.int .i64 0)], [], places) :=
  ⟨[], by kernel_rfl⟩
set_option maxRecDepth 100000 in
theorem lifted (os : Os) (started : os.Started) (H : Type) (enc : TypeId × Value → H) (F : Stop.Interp) :
    ReturnsInHanded {} Try.checked os 6 .any ((OpenSpec.ofChange Rows.fontBoxSpec).preRow enc Try.prog Try.f6 Rows.fontBoxRow.domain false Rows.fontBoxRow.laid) (((OpenSpec.ofChange Rows.fontBoxSpec).at F).post enc Try.prog Try.f6 false true false false) := by
  obtain ⟨places, hx⟩ := reads os enc
  refine returnsInHanded_of_row (C := Try.checked) (s := OpenSpec.ofChange Rows.fontBoxSpec) Frame.own started (by kernel_rfl) Try.func6
    (Frame.witness_row_shaped (enc := enc) (C := Try.checked) false (World.laidAll Try.prog os Rows.fontBoxRow.laid) #[.agg #[.slice none 0 0, .slice none 0 0, .int .i64 0, .int .i64 0, .int .i64 0, .int .i64 0, .int .i64 0, .int .i64 0, .int .i64 0, .int .i64 0, .int .i64 0, .int .i64 0, .int .i64 0, .int .i64 0, .int .i64 0, .int .i64 0, .int .i64 0, .int .i64 0, .int .i64 0, .int .i64 0, .int .i64 0, .int .i64 0], .string ⟨#[]⟩, .int .i64 0] (World.laidAll_os _ _ _) (World.shaped_of_ZipB (by kernel_rfl) (by kernel_rfl)) (by kernel_rfl)
      (OpenSpec.preRow_of_cond 8 hx (by kernel_rfl) (fun k hk => by cases hk) (by kernel_rfl) (laid_met os))) ?_
  intro W base args ds gs before hval hW _ _ hsz hL hsh _
  rw [MakeChecks.laidMetH_plain _ _ _ (by kernel_rfl)] at hL
  exact contract H enc W base args ds gs before hval hW (trivial)

theorem said : Rows.FontBoxSaid :=
  OpenClaim.holds_of_cond 6 Try.f6 rfl rfl rfl rfl rfl rfl rfl ⟨rfl, rfl, rfl, rfl, rfl⟩ rfl rfl rfl rfl rfl (by kernel_rfl) Try.func6 (by kernel_rfl)
    (of_decide_eq_true (by kernel_rfl)) (by unfold Func.isWrapper; first | (rw [if_pos (by decide +kernel)]; kernel_rfl) | (rw [if_neg (by decide +kernel)]; exact ⟨rfl, rfl⟩))
    (fun os started H enc _ F => by rw [OpenClaim.pre_eq_preRow]; exact lifted os started H enc F)

end Go.Proofs.Ytjhpajdkklklhaa.fontBox
