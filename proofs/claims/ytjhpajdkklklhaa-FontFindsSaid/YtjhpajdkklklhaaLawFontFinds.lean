/- FontFinds: for every font and name the law returns true and turns nothing that lay in memory. No condition. -/
import Derived.SevenTiedAt
import Derived.OpenShut
import Derived.Test.YtjhpajdkklklhaaFrame
import Derived.Test.YtjhpajdkklklhaaFonOpen2
import Derived.Test.YtjhpajdkklklhaaFonFew
import Derived.Test.YtjhpajdkklklhaaFonSameStretch
import Derived.Test.YtjhpajdkklklhaaFonFindS
import Derived.Test.YtjhpajdkklklhaaFntPick
import Derived.Deep.DeepCutAuto
import Derived.Test.YtjhpajdkklklhaaHeld
namespace Go.Proofs.Ytjhpajdkklklhaa.fontFinds
open Go Go.RowKit Go.WideShapes Go.ChangeShapes By Fon

theorem two_g (gs : List Gl) (nm : ByteArray) : ∃ (g : Gl) (ok : Bool), (ok = true ∧ findG gs nm = some g) ∨ (ok = false ∧ g = zeroG ∧ findG gs nm = none) := by
  cases h : findG gs nm with
  | some g => exact ⟨g, true, .inl ⟨rfl, rfl⟩⟩
  | none => exact ⟨zeroG, false, .inr ⟨rfl, rfl, rfl⟩⟩
theorem two_s (gs : List St) (nm : ByteArray) : ∃ (g : St) (ok : Bool), (ok = true ∧ findS gs nm = some g) ∨ (ok = false ∧ g = zeroS ∧ findS gs nm = none) := by
  cases h : findS gs nm with
  | some g => exact ⟨g, true, .inl ⟨rfl, rfl⟩⟩
  | none => exact ⟨zeroS, false, .inr ⟨rfl, rfl, rfl⟩⟩
theorem few_len {gs : List Gl} {ss : List St} (h : fewB gs ss = true) {nm : ByteArray} {g : St} {ok : Bool} (hf : (ok = true ∧ findS ss nm = some g) ∨ (ok = false ∧ g = zeroS ∧ findS ss nm = none)) : g.sizes.length ≤ 100 ∧ g.parts.length ≤ 100 := by
  rcases hf with ⟨_, h1⟩ | ⟨_, rfl, _⟩
  · unfold fewB at h
    simp only [Bool.and_eq_true, List.all_eq_true, decide_eq_true_eq] at h
    have := h.2 g (List.mem_of_find?_eq_some h1)
    omega
  · exact ⟨Nat.zero_le _, Nat.zero_le _⟩
set_option maxRecDepth 100000 in
set_option maxHeartbeats 8000000 in
theorem walk {v : Value} (nm : ByteArray) (w : World) (hv : FontV w v) :
    Calls Try.prog 4 #[v, .string nm] w fun e w' => e = .returned (.bool true) ∧ Below w.heap.size w w' := by
  obtain ⟨A, n, c, B, m, d, p0, p1, p2, p3, p4, p5, p6, p7, p8, p9, p10, p11, p12, p13, p14, p15, p16, p17, p18, p19, gs, ss, rfl, hn, hm, hl, hl2, hg, hs, hgn, hsn⟩ := hv
  obtain ⟨N, hN⟩ : ∃ N, w.heap.size = N := ⟨_, rfl⟩
  obtain ⟨W1, hW1⟩ : ∃ W', w.alloc (.cells #[.slice A n c, .slice B m d, .int .i64 p0, .int .i64 p1, .int .i64 p2, .int .i64 p3, .int .i64 p4, .int .i64 p5, .int .i64 p6, .int .i64 p7, .int .i64 p8, .int .i64 p9, .int .i64 p10, .int .i64 p11, .int .i64 p12, .int .i64 p13, .int .i64 p14, .int .i64 p15, .int .i64 p16, .int .i64 p17, .int .i64 p18, .int .i64 p19] 27) = W' := ⟨_, rfl⟩
  have hb1 : Below w.heap.size w W1 := by rw [← hW1]; exact below_new _ _
  have hr : W1.rangeAt N 0 [.slice A n c, .slice B m d, .int .i64 p0, .int .i64 p1, .int .i64 p2, .int .i64 p3, .int .i64 p4, .int .i64 p5, .int .i64 p6, .int .i64 p7, .int .i64 p8, .int .i64 p9, .int .i64 p10, .int .i64 p11, .int .i64 p12, .int .i64 p13, .int .i64 p14, .int .i64 p15, .int .i64 p16, .int .i64 p17, .int .i64 p18, .int .i64 p19] := by rw [← hW1]; exact range_new hN _ _
  obtain ⟨FW, hFW⟩ : ∃ b, fewB gs ss = b := ⟨_, rfl⟩
  obtain ⟨g, ok, hfg⟩ := two_g gs nm
  obtain ⟨s, has, hfs⟩ := two_s ss nm
  obtain ⟨q, hq⟩ : ∃ q, pick gs nm = q := ⟨_, rfl⟩
  have HFW : Hid (∀ W, Below W1.heap.size W1 W → Calls Try.prog 11 #[.agg #[.slice A n c, .slice B m d, .int .i64 p0, .int .i64 p1, .int .i64 p2, .int .i64 p3, .int .i64 p4, .int .i64 p5, .int .i64 p6, .int .i64 p7, .int .i64 p8, .int .i64 p9, .int .i64 p10, .int .i64 p11, .int .i64 p12, .int .i64 p13, .int .i64 p14, .int .i64 p15, .int .i64 p16, .int .i64 p17, .int .i64 p18, .int .i64 p19]] W fun e w' => e = .returned (.bool FW) ∧ Below W.heap.size W w') := Lib.hid fun W hb => hFW ▸ rfew_any hn hm hl hl2 ((hs.below hb1).below hb)
  have HFA : Hid (∀ W, Below W1.heap.size W1 W → Calls Try.prog 14 #[.agg #[.slice A n c, .slice B m d, .int .i64 p0, .int .i64 p1, .int .i64 p2, .int .i64 p3, .int .i64 p4, .int .i64 p5, .int .i64 p6, .int .i64 p7, .int .i64 p8, .int .i64 p9, .int .i64 p10, .int .i64 p11, .int .i64 p12, .int .i64 p13, .int .i64 p14, .int .i64 p15, .int .i64 p16, .int .i64 p17, .int .i64 p18, .int .i64 p19], .string nm] W fun e w' => e = .returned (.tuple #[.agg #[.string g.name, .int .i64 g.W, .int .i64 g.H, .int .i64 g.D, .int .i64 g.I, .int .i64 g.A], .bool ok]) ∧ Below W.heap.size W w') := Lib.hid fun W hb => find_let hn ((hg.below hb1).below hb) hl hfg
  have HFB : Hid (∀ W, Below W1.heap.size W1 W → Calls Try.prog 15 #[.agg #[.slice A n c, .slice B m d, .int .i64 p0, .int .i64 p1, .int .i64 p2, .int .i64 p3, .int .i64 p4, .int .i64 p5, .int .i64 p6, .int .i64 p7, .int .i64 p8, .int .i64 p9, .int .i64 p10, .int .i64 p11, .int .i64 p12, .int .i64 p13, .int .i64 p14, .int .i64 p15, .int .i64 p16, .int .i64 p17, .int .i64 p18, .int .i64 p19], .string nm] W fun e w' => e = .returned (.tuple #[.agg #[.string g.name, .int .i64 g.W, .int .i64 g.H, .int .i64 g.D, .int .i64 g.I, .int .i64 g.A], .bool ok]) ∧ Below W.heap.size W w') := Lib.hid fun W hb => rfind_let hn ((hg.below hb1).below hb) hl hfg
  have HSB : Hid (∀ W, Below W1.heap.size W1 W → Calls Try.prog 17 #[.agg #[.slice A n c, .slice B m d, .int .i64 p0, .int .i64 p1, .int .i64 p2, .int .i64 p3, .int .i64 p4, .int .i64 p5, .int .i64 p6, .int .i64 p7, .int .i64 p8, .int .i64 p9, .int .i64 p10, .int .i64 p11, .int .i64 p12, .int .i64 p13, .int .i64 p14, .int .i64 p15, .int .i64 p16, .int .i64 p17, .int .i64 p18, .int .i64 p19], .string nm] W (StretchR W s has)) := Lib.hid fun W hb => rstretch_let hm ((hs.below hb1).below hb) hl2 hfs
  have HPA0 : Hid (∀ W, Below W1.heap.size W1 W → Calls Try.prog 18 #[.agg #[.slice A n c, .slice B m d, .int .i64 p0, .int .i64 p1, .int .i64 p2, .int .i64 p3, .int .i64 p4, .int .i64 p5, .int .i64 p6, .int .i64 p7, .int .i64 p8, .int .i64 p9, .int .i64 p10, .int .i64 p11, .int .i64 p12, .int .i64 p13, .int .i64 p14, .int .i64 p15, .int .i64 p16, .int .i64 p17, .int .i64 p18, .int .i64 p19], .string nm] W fun e w' => e = .returned (.agg #[.string q.name, .int .i64 q.W, .int .i64 q.H, .int .i64 q.D, .int .i64 q.I, .int .i64 q.A]) ∧ Below W.heap.size W w') := Lib.hid fun W hb => hq ▸ pick_any hn ((hg.below hb1).below hb) hl
  have HPB0 : Hid (∀ W, Below W1.heap.size W1 W → Calls Try.prog 19 #[.agg #[.slice A n c, .slice B m d, .int .i64 p0, .int .i64 p1, .int .i64 p2, .int .i64 p3, .int .i64 p4, .int .i64 p5, .int .i64 p6, .int .i64 p7, .int .i64 p8, .int .i64 p9, .int .i64 p10, .int .i64 p11, .int .i64 p12, .int .i64 p13, .int .i64 p14, .int .i64 p15, .int .i64 p16, .int .i64 p17, .int .i64 p18, .int .i64 p19], .string nm] W fun e w' => e = .returned (.agg #[.string q.name, .int .i64 q.W, .int .i64 q.H, .int .i64 q.D, .int .i64 q.I, .int .i64 q.A]) ∧ Below W.heap.size W w') := Lib.hid fun W hb => hq ▸ rpick_any hn ((hg.below hb1).below hb) hl
  have HB1 := Lib.hid hb1
  have HW := Lib.hid hW1
  have HR1 := Lib.hid hr
  cases FW with
  | false =>
    clear hn hm hl hl2 hg hs hgn hsn hb1 hW1 hr hFW hfg hfs hq
    go_enter Try.func4, Try.ntmps4
    go_wp2_with (first
      | (refine wpList_load_mid rfl 27 (.tmp 2) rfl N 0 rfl [.slice A n c, .slice B m d, .int .i64 p0, .int .i64 p1, .int .i64 p2, .int .i64 p3, .int .i64 p4, .int .i64 p5, .int .i64 p6, .int .i64 p7, .int .i64 p8, .int .i64 p9, .int .i64 p10, .int .i64 p11, .int .i64 p12, .int .i64 p13, .int .i64 p14, .int .i64 p15, .int .i64 p16, .int .i64 p17, .int .i64 p18, .int .i64 p19] _ HR.out Try.underlying27 rfl (by kernel_rfl) ?_)
      | (go_at_call 10; rw [HW.out]; refine (awake_any _).mono ?_; rintro e w2 ⟨rfl, hb2⟩
         have HB := Lib.hid hb2
         have HR := Lib.hid (range_below HR1.out hb2)
         clear hb2)
      | (go_at_call 11; refine (HFW.out _ HB.out).mono ?_; rintro e w3 ⟨rfl, hb3⟩
         replace HB := Lib.hid (below_self HB.out hb3)
         replace HR := Lib.hid (range_below HR.out hb3)
         clear hb3)
      | (go_at_call 14; refine (HFA.out _ HB.out).mono ?_; rintro e w4 ⟨rfl, hb4⟩
         have hbn := below_self hb4 (below_new w4 (.cells #[.string g.name, .int .i64 g.W, .int .i64 g.H, .int .i64 g.D, .int .i64 g.I, .int .i64 g.A] 31))
         have H1 := Lib.hid (six_new (w := w4) rfl (.string g.name) (.int .i64 g.W) (.int .i64 g.H) (.int .i64 g.D) (.int .i64 g.I) (.int .i64 g.A) 31)
         replace HB := Lib.hid (below_self HB.out hbn)
         replace HR := Lib.hid (range_below HR.out hbn)
         clear hb4 hbn)
      | (go_at_call 15; refine (HFB.out _ HB.out).mono ?_; rintro e w5 ⟨rfl, hb5⟩
         have hbn := below_self hb5 (below_new w5 (.cells #[.string g.name, .int .i64 g.W, .int .i64 g.H, .int .i64 g.D, .int .i64 g.I, .int .i64 g.A] 31))
         have H2 := Lib.hid (six_new (w := w5) rfl (.string g.name) (.int .i64 g.W) (.int .i64 g.H) (.int .i64 g.D) (.int .i64 g.I) (.int .i64 g.A) 31)
         replace H1 := Lib.hid (H1.out.below hbn)
         replace HB := Lib.hid (below_self HB.out hbn)
         replace HR := Lib.hid (range_below HR.out hbn)
         clear hb5 hbn)
      | (go_at_call 16; refine (HSA.out _ HB.out).mono ?_; rintro e w6 ⟨C1, d1, C2, d2, rfl, hin, hb6⟩
         have hbm := below_new w6 (.cells #[.string s.name, .slice C1 s.sizes.length d1, .slice C2 s.parts.length d2, .int .i64 s.ov] 37)
         have hbn := below_self hb6 hbm
         have HI1 := Lib.hid (hin.below hbm)
         have H3 := Lib.hid (four_new (w := w6) rfl (.string s.name) (.slice C1 s.sizes.length d1) (.slice C2 s.parts.length d2) (.int .i64 s.ov) 37)
         replace H1 := Lib.hid (H1.out.below hbn)
         replace H2 := Lib.hid (H2.out.below hbn)
         replace HB := Lib.hid (below_self HB.out hbn)
         replace HR := Lib.hid (range_below HR.out hbn)
         clear hb6 hbn hbm hin)
      | (go_at_call 17; refine (HSB.out _ HB.out).mono ?_; rintro e w7 ⟨D1, f1, D2, f2, rfl, hin, hb7⟩
         have hbm := below_new w7 (.cells #[.string s.name, .slice D1 s.sizes.length f1, .slice D2 s.parts.length f2, .int .i64 s.ov] 37)
         have hbn := below_self hb7 hbm
         have HI2 := Lib.hid (hin.below hbm)
         replace HI1 := Lib.hid (HI1.out.below hbn)
         have H4 := Lib.hid (four_new (w := w7) rfl (.string s.name) (.slice D1 s.sizes.length f1) (.slice D2 s.parts.length f2) (.int .i64 s.ov) 37)
         replace H1 := Lib.hid (H1.out.below hbn)
         replace H2 := Lib.hid (H2.out.below hbn)
         replace H3 := Lib.hid (H3.out.below hbn)
         replace HB := Lib.hid (below_self HB.out hbn)
         replace HR := Lib.hid (range_below HR.out hbn)
         clear hb7 hbn hbm hin)
      | fail)
    go_ret
    exact ⟨rfl, hN ▸ below_self HB1.out HB.out⟩
  | true =>
    have hln := few_len hFW hfs
    have HLN := Lib.hid hln
    have HSA : Hid (∀ W, Below W1.heap.size W1 W → Calls Try.prog 16 #[.agg #[.slice A n c, .slice B m d, .int .i64 p0, .int .i64 p1, .int .i64 p2, .int .i64 p3, .int .i64 p4, .int .i64 p5, .int .i64 p6, .int .i64 p7, .int .i64 p8, .int .i64 p9, .int .i64 p10, .int .i64 p11, .int .i64 p12, .int .i64 p13, .int .i64 p14, .int .i64 p15, .int .i64 p16, .int .i64 p17, .int .i64 p18, .int .i64 p19], .string nm] W (StretchR W s has)) := Lib.hid fun W hb => stretch_let hm ((hs.below hb1).below hb) hl2 hfs hln.1 hln.2
    clear hn hm hl hl2 hg hs hgn hsn hb1 hW1 hr hFW hfg hfs hq hln
    go_enter Try.func4, Try.ntmps4
    go_upto_region 9 with (first
      | (refine wpList_load_mid rfl 27 (.tmp 2) rfl N 0 rfl [.slice A n c, .slice B m d, .int .i64 p0, .int .i64 p1, .int .i64 p2, .int .i64 p3, .int .i64 p4, .int .i64 p5, .int .i64 p6, .int .i64 p7, .int .i64 p8, .int .i64 p9, .int .i64 p10, .int .i64 p11, .int .i64 p12, .int .i64 p13, .int .i64 p14, .int .i64 p15, .int .i64 p16, .int .i64 p17, .int .i64 p18, .int .i64 p19] _ HR.out Try.underlying27 rfl (by kernel_rfl) ?_)
      | (go_at_call 10; rw [HW.out]; refine (awake_any _).mono ?_; rintro e w2 ⟨rfl, hb2⟩
         have HB := Lib.hid hb2
         have HR := Lib.hid (range_below HR1.out hb2)
         clear hb2)
      | (go_at_call 11; refine (HFW.out _ HB.out).mono ?_; rintro e w3 ⟨rfl, hb3⟩
         replace HB := Lib.hid (below_self HB.out hb3)
         replace HR := Lib.hid (range_below HR.out hb3)
         clear hb3)
      | (go_at_call 14; refine (HFA.out _ HB.out).mono ?_; rintro e w4 ⟨rfl, hb4⟩
         have hbn := below_self hb4 (below_new w4 (.cells #[.string g.name, .int .i64 g.W, .int .i64 g.H, .int .i64 g.D, .int .i64 g.I, .int .i64 g.A] 31))
         have H1 := Lib.hid (six_new (w := w4) rfl (.string g.name) (.int .i64 g.W) (.int .i64 g.H) (.int .i64 g.D) (.int .i64 g.I) (.int .i64 g.A) 31)
         replace HB := Lib.hid (below_self HB.out hbn)
         replace HR := Lib.hid (range_below HR.out hbn)
         clear hb4 hbn)
      | (go_at_call 15; refine (HFB.out _ HB.out).mono ?_; rintro e w5 ⟨rfl, hb5⟩
         have hbn := below_self hb5 (below_new w5 (.cells #[.string g.name, .int .i64 g.W, .int .i64 g.H, .int .i64 g.D, .int .i64 g.I, .int .i64 g.A] 31))
         have H2 := Lib.hid (six_new (w := w5) rfl (.string g.name) (.int .i64 g.W) (.int .i64 g.H) (.int .i64 g.D) (.int .i64 g.I) (.int .i64 g.A) 31)
         replace H1 := Lib.hid (H1.out.below hbn)
         replace HB := Lib.hid (below_self HB.out hbn)
         replace HR := Lib.hid (range_below HR.out hbn)
         clear hb5 hbn)
      | (go_at_call 16; refine (HSA.out _ HB.out).mono ?_; rintro e w6 ⟨C1, d1, C2, d2, rfl, hin, hb6⟩
         have hbm := below_new w6 (.cells #[.string s.name, .slice C1 s.sizes.length d1, .slice C2 s.parts.length d2, .int .i64 s.ov] 37)
         have hbn := below_self hb6 hbm
         have HI1 := Lib.hid (hin.below hbm)
         have H3 := Lib.hid (four_new (w := w6) rfl (.string s.name) (.slice C1 s.sizes.length d1) (.slice C2 s.parts.length d2) (.int .i64 s.ov) 37)
         replace H1 := Lib.hid (H1.out.below hbn)
         replace H2 := Lib.hid (H2.out.below hbn)
         replace HB := Lib.hid (below_self HB.out hbn)
         replace HR := Lib.hid (range_below HR.out hbn)
         clear hb6 hbn hbm hin)
      | (go_at_call 17; refine (HSB.out _ HB.out).mono ?_; rintro e w7 ⟨D1, f1, D2, f2, rfl, hin, hb7⟩
         have hbm := below_new w7 (.cells #[.string s.name, .slice D1 s.sizes.length f1, .slice D2 s.parts.length f2, .int .i64 s.ov] 37)
         have hbn := below_self hb7 hbm
         have HI2 := Lib.hid (hin.below hbm)
         replace HI1 := Lib.hid (HI1.out.below hbn)
         have H4 := Lib.hid (four_new (w := w7) rfl (.string s.name) (.slice D1 s.sizes.length f1) (.slice D2 s.parts.length f2) (.int .i64 s.ov) 37)
         replace H1 := Lib.hid (H1.out.below hbn)
         replace H2 := Lib.hid (H2.out.below hbn)
         replace H3 := Lib.hid (H3.out.below hbn)
         replace HB := Lib.hid (below_self HB.out hbn)
         replace HR := Lib.hid (range_below HR.out hbn)
         clear hb7 hbn hbm hin)
      | fail)
    obtain ⟨w9, hw9⟩ : ∃ w9, w7.alloc (.cells #[.string s.name, .slice D1 s.sizes.length f1, .slice D2 s.parts.length f2, .int .i64 s.ov] 37) = w9 := ⟨_, rfl⟩
    rw [hw9] at H1 H2 H3 H4 HB HR HI1 HI2
    rw [hw9]
    obtain ⟨⟨a0, a1, a2, a3, a4, a5⟩, _⟩ := H1.out
    obtain ⟨⟨b0, b1, b2, b3, b4, b5⟩, _⟩ := H2.out
    obtain ⟨⟨s0, s1, s2, s3⟩, _⟩ := H3.out
    obtain ⟨⟨t0, t1, t2, t3⟩, _⟩ := H4.out
    have HPA : Hid (∀ W, Below w9.heap.size w9 W → _) := Lib.hid fun W hb => HPA0.out W (below_self HB.out hb)
    have HPB : Hid (∀ W, Below w9.heap.size w9 W → _) := Lib.hid fun W hb => HPB0.out W (below_self HB.out hb)
    have HSS : Hid (∀ W, Below w9.heap.size w9 W → _) := Lib.hid fun W hb => rsamestretch_any (e1 := d1) (e2 := d2) (f1 := f1) (f2 := f2) (HI1.out.below hb) (HI2.out.below hb) (by have := HLN.out; omega) (by have := HLN.out; omega)
    clear hw9
    have mk : ∀ W', Below w9.heap.size w9 W' → (fun w' => w'.rangeAt N 0 [.slice A n c, .slice B m d, .int .i64 p0, .int .i64 p1, .int .i64 p2, .int .i64 p3, .int .i64 p4, .int .i64 p5, .int .i64 p6, .int .i64 p7, .int .i64 p8, .int .i64 p9, .int .i64 p10, .int .i64 p11, .int .i64 p12, .int .i64 p13, .int .i64 p14, .int .i64 p15, .int .i64 p16, .int .i64 p17, .int .i64 p18, .int .i64 p19] ∧ w'.cell? ⟨w4.heap.size, 0, none⟩ = some (.string g.name) ∧ w'.cell? ⟨w4.heap.size, 1, none⟩ = some (.int .i64 g.W) ∧ w'.cell? ⟨w4.heap.size, 2, none⟩ = some (.int .i64 g.H) ∧ w'.cell? ⟨w4.heap.size, 3, none⟩ = some (.int .i64 g.D) ∧ w'.cell? ⟨w4.heap.size, 4, none⟩ = some (.int .i64 g.I) ∧ w'.cell? ⟨w4.heap.size, 5, none⟩ = some (.int .i64 g.A) ∧ w'.cell? ⟨w5.heap.size, 0, none⟩ = some (.string g.name) ∧ w'.cell? ⟨w5.heap.size, 1, none⟩ = some (.int .i64 g.W) ∧ w'.cell? ⟨w5.heap.size, 2, none⟩ = some (.int .i64 g.H) ∧ w'.cell? ⟨w5.heap.size, 3, none⟩ = some (.int .i64 g.D) ∧ w'.cell? ⟨w5.heap.size, 4, none⟩ = some (.int .i64 g.I) ∧ w'.cell? ⟨w5.heap.size, 5, none⟩ = some (.int .i64 g.A) ∧ w'.cell? ⟨w6.heap.size, 0, none⟩ = some (.string s.name) ∧ w'.cell? ⟨w6.heap.size, 1, none⟩ = some (.slice C1 s.sizes.length d1) ∧ w'.cell? ⟨w6.heap.size, 2, none⟩ = some (.slice C2 s.parts.length d2) ∧ w'.cell? ⟨w6.heap.size, 3, none⟩ = some (.int .i64 s.ov) ∧ w'.cell? ⟨w7.heap.size, 0, none⟩ = some (.string s.name) ∧ w'.cell? ⟨w7.heap.size, 1, none⟩ = some (.slice D1 s.sizes.length f1) ∧ w'.cell? ⟨w7.heap.size, 2, none⟩ = some (.slice D2 s.parts.length f2) ∧ w'.cell? ⟨w7.heap.size, 3, none⟩ = some (.int .i64 s.ov) ∧ Below w9.heap.size w9 w') W' := fun W' h => ⟨range_below HR.out h, keep_cell h a0, keep_cell h a1, keep_cell h a2, keep_cell h a3, keep_cell h a4, keep_cell h a5, keep_cell h b0, keep_cell h b1, keep_cell h b2, keep_cell h b3, keep_cell h b4, keep_cell h b5, keep_cell h s0, keep_cell h s1, keep_cell h s2, keep_cell h s3, keep_cell h t0, keep_cell h t1, keep_cell h t2, keep_cell h t3, h⟩
    have MK := Lib.hid mk
    clear mk a0 a1 a2 a3 a4 a5 b0 b1 b2 b3 b4 b5 s0 s1 s2 s3 t0 t1 t2 t3
    have HQ := Lib.hid (below_drew w9)
    refine wp_region_held_drew (S := fun w' => w'.rangeAt N 0 [.slice A n c, .slice B m d, .int .i64 p0, .int .i64 p1, .int .i64 p2, .int .i64 p3, .int .i64 p4, .int .i64 p5, .int .i64 p6, .int .i64 p7, .int .i64 p8, .int .i64 p9, .int .i64 p10, .int .i64 p11, .int .i64 p12, .int .i64 p13, .int .i64 p14, .int .i64 p15, .int .i64 p16, .int .i64 p17, .int .i64 p18, .int .i64 p19] ∧ w'.cell? ⟨w4.heap.size, 0, none⟩ = some (.string g.name) ∧ w'.cell? ⟨w4.heap.size, 1, none⟩ = some (.int .i64 g.W) ∧ w'.cell? ⟨w4.heap.size, 2, none⟩ = some (.int .i64 g.H) ∧ w'.cell? ⟨w4.heap.size, 3, none⟩ = some (.int .i64 g.D) ∧ w'.cell? ⟨w4.heap.size, 4, none⟩ = some (.int .i64 g.I) ∧ w'.cell? ⟨w4.heap.size, 5, none⟩ = some (.int .i64 g.A) ∧ w'.cell? ⟨w5.heap.size, 0, none⟩ = some (.string g.name) ∧ w'.cell? ⟨w5.heap.size, 1, none⟩ = some (.int .i64 g.W) ∧ w'.cell? ⟨w5.heap.size, 2, none⟩ = some (.int .i64 g.H) ∧ w'.cell? ⟨w5.heap.size, 3, none⟩ = some (.int .i64 g.D) ∧ w'.cell? ⟨w5.heap.size, 4, none⟩ = some (.int .i64 g.I) ∧ w'.cell? ⟨w5.heap.size, 5, none⟩ = some (.int .i64 g.A) ∧ w'.cell? ⟨w6.heap.size, 0, none⟩ = some (.string s.name) ∧ w'.cell? ⟨w6.heap.size, 1, none⟩ = some (.slice C1 s.sizes.length d1) ∧ w'.cell? ⟨w6.heap.size, 2, none⟩ = some (.slice C2 s.parts.length d2) ∧ w'.cell? ⟨w6.heap.size, 3, none⟩ = some (.int .i64 s.ov) ∧ w'.cell? ⟨w7.heap.size, 0, none⟩ = some (.string s.name) ∧ w'.cell? ⟨w7.heap.size, 1, none⟩ = some (.slice D1 s.sizes.length f1) ∧ w'.cell? ⟨w7.heap.size, 2, none⟩ = some (.slice D2 s.parts.length f2) ∧ w'.cell? ⟨w7.heap.size, 3, none⟩ = some (.int .i64 s.ov) ∧ Below w9.heap.size w9 w') (by kernel_rfl) (MK.out _ (below_drew _)) (fun hHeld => ?_)
    refine wpAnyH_take (i := 0) (v := ?_) rfl (by kernel_rfl) (by kernel_rfl) (by kernel_rfl) (fun _ _ _ h => h) (Or.inl ⟨by rfl, ?_⟩) hHeld ?_
    rotate_left
    · intro w hSw; (try dsimp only at hSw); go_simp; try with_reducible rfl
    simp only [Act.put]; (try simp only [List.setIfInBounds_toArray, List.set_cons_zero, List.set_cons_succ, List.getElem_toArray, List.getElem_cons_zero, List.getElem_cons_succ])
    refine wpAnyH_take (i := 1) (v := ?_) rfl (by kernel_rfl) (by kernel_rfl) (by kernel_rfl) (fun _ _ _ h => h) (Or.inl ⟨by rfl, ?_⟩) hHeld ?_
    rotate_left
    · intro w hSw; (try dsimp only at hSw); go_simp; try with_reducible rfl
    simp only [Act.put]; (try simp only [List.setIfInBounds_toArray, List.set_cons_zero, List.set_cons_succ, List.getElem_toArray, List.getElem_cons_zero, List.getElem_cons_succ])
    refine wpAnyH_take (i := 2) (v := ?_) rfl (by kernel_rfl) (by kernel_rfl) (by kernel_rfl) (fun _ _ _ h => h) (Or.inl ⟨by rfl, ?_⟩) hHeld ?_
    rotate_left
    · intro w hSw; (try dsimp only at hSw); go_simp; try with_reducible rfl
    simp only [Act.put]; (try simp only [List.setIfInBounds_toArray, List.set_cons_zero, List.set_cons_succ, List.getElem_toArray, List.getElem_cons_zero, List.getElem_cons_succ])
    refine wpAnyH_take (i := 3) (v := ?_) rfl (by kernel_rfl) (by kernel_rfl) (by kernel_rfl) (fun _ _ _ h => h) (Or.inl ⟨by rfl, ?_⟩) hHeld ?_
    rotate_left
    · intro w hSw; (try dsimp only at hSw); go_simp; try with_reducible rfl
    simp only [Act.put]; (try simp only [List.setIfInBounds_toArray, List.set_cons_zero, List.set_cons_succ, List.getElem_toArray, List.getElem_cons_zero, List.getElem_cons_succ])
    refine wpAnyH_take (i := 4) (v := ?_) rfl (by kernel_rfl) (by kernel_rfl) (by kernel_rfl) (fun _ _ _ h => h) (Or.inl ⟨by rfl, ?_⟩) hHeld ?_
    rotate_left
    · intro w hSw; (try dsimp only at hSw); go_simp; try with_reducible rfl
    simp only [Act.put]; (try simp only [List.setIfInBounds_toArray, List.set_cons_zero, List.set_cons_succ, List.getElem_toArray, List.getElem_cons_zero, List.getElem_cons_succ])
    refine wpAnyH_take (i := 5) (v := ?_) rfl (by kernel_rfl) (by kernel_rfl) (by kernel_rfl) (fun _ _ _ h => h) (Or.inl ⟨by rfl, ?_⟩) hHeld ?_
    rotate_left
    · intro w hSw; (try dsimp only at hSw); go_simp; try with_reducible rfl
    simp only [Act.put]; (try simp only [List.setIfInBounds_toArray, List.set_cons_zero, List.set_cons_succ, List.getElem_toArray, List.getElem_cons_zero, List.getElem_cons_succ])
    refine wpAnyH_take (i := 6) (v := ?_) rfl (by kernel_rfl) (by kernel_rfl) (by kernel_rfl) (fun _ _ _ h => h) (Or.inl ⟨by rfl, ?_⟩) hHeld ?_
    rotate_left
    · intro w hSw; (try dsimp only at hSw); go_simp; try with_reducible rfl
    simp only [Act.put]; (try simp only [List.setIfInBounds_toArray, List.set_cons_zero, List.set_cons_succ, List.getElem_toArray, List.getElem_cons_zero, List.getElem_cons_succ])
    refine wpAnyH_take (i := 7) (v := ?_) rfl (by kernel_rfl) (by kernel_rfl) (by kernel_rfl) (fun _ _ _ h => h) (Or.inl ⟨by rfl, ?_⟩) hHeld ?_
    rotate_left
    · intro w hSw; (try dsimp only at hSw); go_simp; try with_reducible rfl
    simp only [Act.put]; (try simp only [List.setIfInBounds_toArray, List.set_cons_zero, List.set_cons_succ, List.getElem_toArray, List.getElem_cons_zero, List.getElem_cons_succ])
    refine wpAnyH_take (i := 8) (v := ?_) rfl (by kernel_rfl) (by kernel_rfl) (by kernel_rfl) (fun _ _ _ h => h) (Or.inl ⟨by rfl, ?_⟩) hHeld ?_
    rotate_left
    · intro w hSw; (try dsimp only at hSw); go_simp; try with_reducible rfl
    simp only [Act.put]; (try simp only [List.setIfInBounds_toArray, List.set_cons_zero, List.set_cons_succ, List.getElem_toArray, List.getElem_cons_zero, List.getElem_cons_succ])
    refine wpAnyH_take (i := 9) (v := .agg #[.slice A n c, .slice B m d, .int .i64 p0, .int .i64 p1, .int .i64 p2, .int .i64 p3, .int .i64 p4, .int .i64 p5, .int .i64 p6, .int .i64 p7, .int .i64 p8, .int .i64 p9, .int .i64 p10, .int .i64 p11, .int .i64 p12, .int .i64 p13, .int .i64 p14, .int .i64 p15, .int .i64 p16, .int .i64 p17, .int .i64 p18, .int .i64 p19]) rfl (by kernel_rfl) (by kernel_rfl) (by kernel_rfl) (fun _ _ _ h => h) (yieldsIf_load_mid (by rfl) 27 (.tmp 2) rfl N 0 rfl [.slice A n c, .slice B m d, .int .i64 p0, .int .i64 p1, .int .i64 p2, .int .i64 p3, .int .i64 p4, .int .i64 p5, .int .i64 p6, .int .i64 p7, .int .i64 p8, .int .i64 p9, .int .i64 p10, .int .i64 p11, .int .i64 p12, .int .i64 p13, .int .i64 p14, .int .i64 p15, .int .i64 p16, .int .i64 p17, .int .i64 p18, .int .i64 p19] _ (fun w h => h.1) Try.underlying27 rfl (by kernel_rfl)) hHeld ?_
    simp only [Act.put]; (try simp only [List.setIfInBounds_toArray, List.set_cons_zero, List.set_cons_succ, List.getElem_toArray, List.getElem_cons_zero, List.getElem_cons_succ])
    refine wpAnyH_take (i := 10) (v := ?_) rfl (by kernel_rfl) (by kernel_rfl) (by kernel_rfl) (fun _ _ _ h => h) (Or.inl ⟨by rfl, ?_⟩) hHeld ?_
    rotate_left
    · intro w hSw; (try dsimp only at hSw); go_simp; try with_reducible rfl
    simp only [Act.put]; (try simp only [List.setIfInBounds_toArray, List.set_cons_zero, List.set_cons_succ, List.getElem_toArray, List.getElem_cons_zero, List.getElem_cons_succ])
    refine wpAnyH_take (i := 12) (v := .agg #[.slice A n c, .slice B m d, .int .i64 p0, .int .i64 p1, .int .i64 p2, .int .i64 p3, .int .i64 p4, .int .i64 p5, .int .i64 p6, .int .i64 p7, .int .i64 p8, .int .i64 p9, .int .i64 p10, .int .i64 p11, .int .i64 p12, .int .i64 p13, .int .i64 p14, .int .i64 p15, .int .i64 p16, .int .i64 p17, .int .i64 p18, .int .i64 p19]) rfl (by kernel_rfl) (by kernel_rfl) (by kernel_rfl) (fun _ _ _ h => h) (yieldsIf_load_mid (by rfl) 27 (.tmp 2) rfl N 0 rfl [.slice A n c, .slice B m d, .int .i64 p0, .int .i64 p1, .int .i64 p2, .int .i64 p3, .int .i64 p4, .int .i64 p5, .int .i64 p6, .int .i64 p7, .int .i64 p8, .int .i64 p9, .int .i64 p10, .int .i64 p11, .int .i64 p12, .int .i64 p13, .int .i64 p14, .int .i64 p15, .int .i64 p16, .int .i64 p17, .int .i64 p18, .int .i64 p19] _ (fun w h => h.1) Try.underlying27 rfl (by kernel_rfl)) hHeld ?_
    simp only [Act.put]; (try simp only [List.setIfInBounds_toArray, List.set_cons_zero, List.set_cons_succ, List.getElem_toArray, List.getElem_cons_zero, List.getElem_cons_succ])
    refine wpAnyH_take (i := 13) (v := ?_) rfl (by kernel_rfl) (by kernel_rfl) (by kernel_rfl) (fun _ _ _ h => h) (Or.inl ⟨by rfl, ?_⟩) hHeld ?_
    rotate_left
    · intro w hSw; (try dsimp only at hSw); go_simp; try with_reducible rfl
    simp only [Act.put]; (try simp only [List.setIfInBounds_toArray, List.set_cons_zero, List.set_cons_succ, List.getElem_toArray, List.getElem_cons_zero, List.getElem_cons_succ])
    clear hHeld
    refine wpAnyH_one (a' := ?_) 11 (fun w' => Below w9.heap.size w9 w') (by kernel_rfl) rfl (by rfl) (fun K hK => ?_) (fun w6 hR => ⟨MK.out _ hR, ?_⟩)
    rotate_left
    · go_simp
      refine (HPA.out _ HQ.out).mono ?_
      rintro e w6 ⟨rfl, hb6⟩
      exact hK _ (below_self HQ.out hb6)
    replace HQ := Lib.hid hR
    have hHeld := MK.out _ hR
    clear hHeld
    refine wpAnyH_one (a' := ?_) 14 (fun w' => Below w9.heap.size w9 w') (by kernel_rfl) rfl (by rfl) (fun K hK => ?_) (fun w6 hR => ⟨MK.out _ hR, ?_⟩)
    rotate_left
    · go_simp
      refine (HPB.out _ HQ.out).mono ?_
      rintro e w6 ⟨rfl, hb6⟩
      exact hK _ (below_self HQ.out hb6)
    replace HQ := Lib.hid hR
    have hHeld := MK.out _ hR
    refine wpAnyH_take (i := 15) (v := ?_) rfl (by kernel_rfl) (by kernel_rfl) (by kernel_rfl) (fun _ _ _ h => h) (Or.inl ⟨by rfl, ?_⟩) hHeld ?_
    rotate_left
    · intro w hSw; (try dsimp only at hSw); go_simp; try with_reducible rfl
    simp only [Act.put]; (try simp only [List.setIfInBounds_toArray, List.set_cons_zero, List.set_cons_succ, List.getElem_toArray, List.getElem_cons_zero, List.getElem_cons_succ])
    refine wpAnyH_take (i := 16) (v := ?_) rfl (by kernel_rfl) (by kernel_rfl) (by kernel_rfl) (fun _ _ _ h => h) (Or.inl ⟨by rfl, ?_⟩) hHeld ?_
    rotate_left
    · intro w hSw; (try dsimp only at hSw); go_simp; try with_reducible rfl
    simp only [Act.put]; (try simp only [List.setIfInBounds_toArray, List.set_cons_zero, List.set_cons_succ, List.getElem_toArray, List.getElem_cons_zero, List.getElem_cons_succ])
    refine wpAnyH_take (i := 17) (v := ?_) rfl (by kernel_rfl) (by kernel_rfl) (by kernel_rfl) (fun _ _ _ h => h) (Or.inl ⟨by rfl, ?_⟩) hHeld ?_
    rotate_left
    · intro w hSw; (try dsimp only at hSw); go_simp; try with_reducible rfl
    simp only [Act.put]; (try simp only [List.setIfInBounds_toArray, List.set_cons_zero, List.set_cons_succ, List.getElem_toArray, List.getElem_cons_zero, List.getElem_cons_succ])
    refine wpAnyH_take (i := 18) (v := ?_) rfl (by kernel_rfl) (by kernel_rfl) (by kernel_rfl) (fun _ _ _ h => h) (Or.inl ⟨by rfl, ?_⟩) hHeld ?_
    rotate_left
    · intro w hSw; (try dsimp only at hSw); go_simp; try with_reducible rfl
    simp only [Act.put]; (try simp only [List.setIfInBounds_toArray, List.set_cons_zero, List.set_cons_succ, List.getElem_toArray, List.getElem_cons_zero, List.getElem_cons_succ])
    refine wpAnyH_take (i := 19) (v := ?_) rfl (by kernel_rfl) (by kernel_rfl) (by kernel_rfl) (fun _ _ _ h => h) (Or.inl ⟨by rfl, ?_⟩) hHeld ?_
    rotate_left
    · intro w hSw; (try dsimp only at hSw); go_simp; try with_reducible rfl
    simp only [Act.put]; (try simp only [List.setIfInBounds_toArray, List.set_cons_zero, List.set_cons_succ, List.getElem_toArray, List.getElem_cons_zero, List.getElem_cons_succ])
    refine wpAnyH_take (i := 20) (v := ?_) rfl (by kernel_rfl) (by kernel_rfl) (by kernel_rfl) (fun _ _ _ h => h) (Or.inl ⟨by rfl, ?_⟩) hHeld ?_
    rotate_left
    · intro w hSw; (try dsimp only at hSw); go_simp; try with_reducible rfl
    simp only [Act.put]; (try simp only [List.setIfInBounds_toArray, List.set_cons_zero, List.set_cons_succ, List.getElem_toArray, List.getElem_cons_zero, List.getElem_cons_succ])
    refine wpAnyH_take (i := 21) (v := ?_) rfl (by kernel_rfl) (by kernel_rfl) (by kernel_rfl) (fun _ _ _ h => h) (Or.inl ⟨by rfl, ?_⟩) hHeld ?_
    rotate_left
    · intro w hSw; (try dsimp only at hSw); go_simp; try with_reducible rfl
    simp only [Act.put]; (try simp only [List.setIfInBounds_toArray, List.set_cons_zero, List.set_cons_succ, List.getElem_toArray, List.getElem_cons_zero, List.getElem_cons_succ])
    refine wpAnyH_take (i := 22) (v := ?_) rfl (by kernel_rfl) (by kernel_rfl) (by kernel_rfl) (fun _ _ _ h => h) (Or.inl ⟨by rfl, ?_⟩) hHeld ?_
    rotate_left
    · intro w hSw; (try dsimp only at hSw); go_simp; try with_reducible rfl
    simp only [Act.put]; (try simp only [List.setIfInBounds_toArray, List.set_cons_zero, List.set_cons_succ, List.getElem_toArray, List.getElem_cons_zero, List.getElem_cons_succ])
    refine wpAnyH_take (i := 23) (v := ?_) rfl (by kernel_rfl) (by kernel_rfl) (by kernel_rfl) (fun _ _ _ h => h) (Or.inl ⟨by rfl, ?_⟩) hHeld ?_
    rotate_left
    · intro w hSw; (try dsimp only at hSw); go_simp; try with_reducible rfl
    simp only [Act.put]; (try simp only [List.setIfInBounds_toArray, List.set_cons_zero, List.set_cons_succ, List.getElem_toArray, List.getElem_cons_zero, List.getElem_cons_succ])
    refine wpAnyH_take (i := 24) (v := ?_) rfl (by kernel_rfl) (by kernel_rfl) (by kernel_rfl) (fun _ _ _ h => h) (Or.inl ⟨by rfl, ?_⟩) hHeld ?_
    rotate_left
    · intro w hSw; (try dsimp only at hSw); go_simp; try with_reducible rfl
    simp only [Act.put]; (try simp only [List.setIfInBounds_toArray, List.set_cons_zero, List.set_cons_succ, List.getElem_toArray, List.getElem_cons_zero, List.getElem_cons_succ])
    clear hHeld
    refine wpAnyH_one (a' := ?_) 25 (fun w' => Below w9.heap.size w9 w') (by kernel_rfl) rfl (by rfl) (fun K hK => ?_) (fun w6 hR => ⟨MK.out _ hR, ?_⟩)
    rotate_left
    · go_simp
      refine (HSS.out _ HQ.out).mono ?_
      rintro e w6 ⟨rfl, hb6⟩
      exact hK _ (below_self HQ.out hb6)
    replace HQ := Lib.hid hR
    have hHeld := MK.out _ hR
    refine wpAnyH_take (i := 26) (v := ?_) rfl (by kernel_rfl) (by kernel_rfl) (by kernel_rfl) (fun _ _ _ h => h) (Or.inl ⟨by rfl, ?_⟩) hHeld ?_
    rotate_left
    · intro w hSw; (try dsimp only at hSw); go_simp; try with_reducible rfl
    simp only [Act.put]; (try simp only [List.setIfInBounds_toArray, List.set_cons_zero, List.set_cons_succ, List.getElem_toArray, List.getElem_cons_zero, List.getElem_cons_succ])
    refine wpAnyH_take (i := 27) (v := ?_) rfl (by kernel_rfl) (by kernel_rfl) (by kernel_rfl) (fun _ _ _ h => h) (Or.inl ⟨by rfl, ?_⟩) hHeld ?_
    rotate_left
    · intro w hSw; (try dsimp only at hSw); go_simp; try with_reducible rfl
    simp only [Act.put]; (try simp only [List.setIfInBounds_toArray, List.set_cons_zero, List.set_cons_succ, List.getElem_toArray, List.getElem_cons_zero, List.getElem_cons_succ])
    clear hHeld
    (try simp only [Act.put]; (try simp only [List.setIfInBounds_toArray, List.set_cons_zero, List.set_cons_succ, List.getElem_toArray, List.getElem_cons_zero, List.getElem_cons_succ]))
    refine wpAnyH_done (by kernel_rfl) ?_ _
    go_wp2_with fail
    go_ret
    exact ⟨rfl, hN ▸ below_self (below_self HB1.out HB.out) HQ.out⟩

theorem readable : ∀ t ∈ Try.f4.params.toList, Try.prog.readableRec t = true ∧ t < Try.prog.types.size := Frame.readable_of (by kernel_rfl)

set_option maxRecDepth 100000 in
theorem contract (H : Type) (enc : TypeId × Value → H) (W : World) (base : Nat) (args : Array Value) (ds gs : List (DataW H)) (before : List MemPlace)
    (hval : ∀ (j : Nat) t v, Try.f4.params[j]? = some t → args[j]? = some v → Value.okWide Try.prog W .any base t v)
    (hW : DataW.Whole enc Try.prog Try.f4.params.toList Rows.fontFindsSpec.vars false W args.toList ds gs before) (hT : True) :
    Calls Try.prog 4 args W fun e W' => ∃ v, e = .returned v ∧ Rows.fontFindsSpec.post enc Try.prog Try.f4 false true false false W args v W' := by
  have hW' := hW
  obtain ⟨p, q, hA0, hV, rfl, hfz, hnd⟩ := hW
  have hA : DataW.TrodAll enc Try.prog W 0 (fun _ => true) true Try.f4.params.toList args.toList ds p := hA0
  rw [Try.params4] at hA hval
  obtain ⟨v0, vs0, d0, ds0, p0, q0, hargs, rfl, rfl, h0, r0⟩ := trodAll_cons hA
  obtain ⟨v1, vs1, d1, ds1, p1, q1, rfl, rfl, rfl, h1, r1⟩ := trodAll_cons r0
  obtain ⟨rfl, rfl, rfl⟩ := trodAll_nil r1
  obtain rfl : args = #[v0, v1] := by cases args; simp_all
  have hv0 := Fon.open_font (hval 0 27 v0 rfl rfl) h0
  obtain ⟨a1, rfl, rfl, rfl, w1⟩ := Go.ChangeMaps.open_string Try.underlying9 (hval 1 9 v1 rfl rfl) h1
  refine (walk a1 W hv0).mono fun e W' ⟨he, hb⟩ => ⟨_, he, Frame.post_law Frame.laidOut readable (by kernel_rfl) Try.underlying4 hW' rfl rfl hb⟩

theorem laid_met (os : Os) : laidMetH Try.prog Rows.fontFindsRow.laid ((World.laidAll Try.prog os Rows.fontFindsRow.laid).forCall (fun _ _ => 0) ⟨#[], #[.agg #[.slice none 0 0, .slice none 0 0, .int .i64 0, .int .i64 0, .int .i64 0, .int .i64 0, .int .i64 0, .int .i64 0, .int .i64 0, .int .i64 0, .int .i64 0, .int .i64 0, .int .i64 0, .int .i64 0, .int .i64 0, .int .i64 0, .int .i64 0, .int .i64 0, .int .i64 0, .int .i64 0, .int .i64 0, .int .i64 0], .string ⟨#[]⟩], []⟩).memory := by
  rw [MakeChecks.laidMetH_plain _ _ _ (by kernel_rfl)]; exact laidMet_laidAll _ (by kernel_rfl) (by kernel_rfl)
theorem reads (os : Os) {H : Type} (enc : TypeId × Value → H) : ∃ places, DataW.whole enc Try.prog ((World.laidAll Try.prog os Rows.fontFindsRow.laid).forCall (fun _ _ => 0) ⟨#[], #[.agg #[.slice none 0 0, .slice none 0 0, .int .i64 0, .int .i64 0, .int .i64 0, .int .i64 0, .int .i64 0, .int .i64 0, .int .i64 0, .int .i64 0, .int .i64 0, .int .i64 0, .int .i64 0, .int .i64 0, .int .i64 0, .int .i64 0, .int .i64 0, .int .i64 0, .int .i64 0, .int .i64 0, .int .i64 0, .int .i64 0], .string ⟨#[]⟩], []⟩).memory Try.f4.params.toList Rows.fontFindsSpec.vars false (#[.agg #[.slice none 0 0, .slice none 0 0, .int .i64 0, .int .i64 0, .int .i64 0, .int .i64 0, .int .i64 0, .int .i64 0, .int .i64 0, .int .i64 0, .int .i64 0, .int .i64 0, .int .i64 0, .int .i64 0, .int .i64 0, .int .i64 0, .int .i64 0, .int .i64 0, .int .i64 0, .int .i64 0, .int .i64 0, .int .i64 0], .string ⟨#[]⟩] : Array Value).toList 8 = some ([.agg [.nil, .nil, .agg [.lit (.int .i64 0), .lit (.int .i64 0), .lit (.int .i64 0), .lit (.int .i64 0), .lit (.int .i64 0), .lit (.int .i64 0), .lit (.int .i64 0), .lit (.int .i64 0), .lit (.int .i64 0), .lit (.int .i64 0), .lit (.int .i64 0), .lit (.int .i64 0), .lit (.int .i64 0), .lit (.int .i64 0), .lit (.int .i64 0), .lit (.int .i64 0), .lit (.int .i64 0), .lit (.int .i64 0), .lit (.int .i64 0), .lit (.int .i64 0)]], .lit (.string [])], [], places) :=
  ⟨[], by kernel_rfl⟩
set_option maxRecDepth 100000 in
theorem lifted (os : Os) (started : os.Started) (H : Type) (enc : TypeId × Value → H) (F : Stop.Interp) :
    ReturnsInHanded {} Try.checked os 4 .any ((OpenSpec.ofChange Rows.fontFindsSpec).preRow enc Try.prog Try.f4 Rows.fontFindsRow.domain false Rows.fontFindsRow.laid) (((OpenSpec.ofChange Rows.fontFindsSpec).at F).post enc Try.prog Try.f4 false true false false) := by
  obtain ⟨places, hx⟩ := reads os enc
  refine returnsInHanded_of_row (C := Try.checked) (s := OpenSpec.ofChange Rows.fontFindsSpec) Frame.own started (by kernel_rfl) Try.func4
    (Frame.witness_row_shaped (enc := enc) (C := Try.checked) false (World.laidAll Try.prog os Rows.fontFindsRow.laid) #[.agg #[.slice none 0 0, .slice none 0 0, .int .i64 0, .int .i64 0, .int .i64 0, .int .i64 0, .int .i64 0, .int .i64 0, .int .i64 0, .int .i64 0, .int .i64 0, .int .i64 0, .int .i64 0, .int .i64 0, .int .i64 0, .int .i64 0, .int .i64 0, .int .i64 0, .int .i64 0, .int .i64 0, .int .i64 0, .int .i64 0], .string ⟨#[]⟩] (World.laidAll_os _ _ _) (World.shaped_of_ZipB (by kernel_rfl) (by kernel_rfl)) (by kernel_rfl)
      (OpenSpec.preRow_of_cond 8 hx (by kernel_rfl) (fun k hk => by cases hk) (by kernel_rfl) (laid_met os))) ?_
  intro W base args ds gs before hval hW _ _ hsz hL hsh _
  rw [MakeChecks.laidMetH_plain _ _ _ (by kernel_rfl)] at hL
  exact contract H enc W base args ds gs before hval hW (trivial)

theorem said : Rows.FontFindsSaid :=
  OpenClaim.holds_of_cond 4 Try.f4 rfl rfl rfl rfl rfl rfl rfl ⟨rfl, rfl, rfl, rfl, rfl⟩ rfl rfl rfl rfl rfl (by kernel_rfl) Try.func4 (by kernel_rfl)
    (of_decide_eq_true (by kernel_rfl)) (by unfold Func.isWrapper; first | (rw [if_pos (by decide +kernel)]; kernel_rfl) | (rw [if_neg (by decide +kernel)]; exact ⟨rfl, rfl⟩))
    (fun os started H enc _ F => by rw [OpenClaim.pre_eq_preRow]; exact lifted os started H enc F)

end Go.Proofs.Ytjhpajdkklklhaa.fontFinds
