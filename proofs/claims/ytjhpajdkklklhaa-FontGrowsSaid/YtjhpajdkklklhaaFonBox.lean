/- The reference of layer 5: Box. (Written by wip/tools/genbox.py.) -/
import Derived.Test.YtjhpajdkklklhaaFonValid
import Derived.Test.YtjhpajdkklklhaaFonRef2
namespace Go.Proofs.Ytjhpajdkklklhaa.Fon
open Go Go.RowKit By

structure Bx where
  kind : Int
  name : ByteArray
  size : Int
  W : Int
  H : Int
  D : Int
def zeroBx : Bx := { kind := 0, name := ⟨#[]⟩, size := 0, W := 0, H := 0, D := 0 }
def boxF (gs : List Gl) (ss : List St) (ps : List Int) (nm : ByteArray) (p : Int) : Bx × Int :=
  if validB gs ss ps = false then (zeroBx, 1) else if (scaled (pick gs nm) p).2 = 0 then
    ({ kind := 1, name := (scaled (pick gs nm) p).1.name, size := p, W := (scaled (pick gs nm) p).1.W + max 0 (scaled (pick gs nm) p).1.I, H := (scaled (pick gs nm) p).1.H, D := (scaled (pick gs nm) p).1.D }, 0)
  else (zeroBx, (scaled (pick gs nm) p).2)
theorem scaled_bd {g : Gl} {p : Int} (h : (scaled g p).2 = 0) : (-200001 ≤ (scaled g p).1.W ∧ (scaled g p).1.W ≤ 200001) ∧ (-200001 ≤ (scaled g p).1.I ∧ (scaled g p).1.I ≤ 200001) := by
  unfold scaled at h ⊢
  split at h
  · cases h
  · rename_i h1
    split at h
    · cases h
    · rename_i h2
      rw [if_neg h1, if_neg h2]
      have h1 : within p 1 1000 = true := by simpa using h1
      have h2 : metP g := (met_iff g).1 (by simpa using h2)
      have hp := within_iff.1 h1
      obtain ⟨⟨w0, w1⟩, _, _, ⟨i0, i1⟩, _⟩ := h2
      exact ⟨scl_bd w0 w1 hp.1 hp.2, scl_bd i0 i1 hp.1 hp.2⟩
theorem below_setCells {n : Nat} {a : World} {b : Nat} (hB : n ≤ b) : ∀ (vs : List Value) (o : Nat) (w : World), Below n a w → Below n a (w.setCells b o vs)
  | [], _, _, h => h
  | _ :: r, o, _, h => below_setCells hB r (o + 1) _ (h.setCell hB _)
theorem there_new {w : World} {n : Nat} (hn : w.heap.size = n) (cs : Array Value) (ty : TypeId) : (w.alloc (.cells cs ty)).there n 0 cs.size := fun j hj => by
  rw [Nat.zero_add]
  exact ⟨by rw [new_cell hn cs ty j (Array.getElem?_eq_getElem hj)]; rfl, new_frozen hn cs ty j⟩
theorem there_below {w w' : World} {b o n : Nat} (h : w.there b o n) (hlt : b < w.heap.size) (hb : Below w.heap.size w w') : w'.there b o n := fun j hj =>
  ⟨by rw [hb.cell (p := ⟨b, o + j, none⟩) hlt]; exact (h j hj).1, (hb.frozen (p := ⟨b, o + j, none⟩) hlt).trans (h j hj).2⟩
/-- the results of a function: one that lies in memory, one that does not -/
theorem results_two {P : Program} {fn : Func} {tmps : Array Value} {w : World} {a s : Tmp} {t : TypeId} {A : Addr} {v : Value} (hfn : fn.results = #[.cell a t, .tmp s]) (hp : tmps.getD a undef = .pointer (some A)) (hl : (loadVar t A).run P w = .ok v w) :
    (results fn tmps).run P w = .ok (.tuple #[v, tmps.getD s undef]) w := by
  have hp' : tmps[a]?.getD undef = .pointer (some A) := by simpa using hp
  simp [results, hfn, hp', asAddr, hl, Sem.run_bind]
def BoxR (gs : List Gl) (ss : List St) (ps : List Int) (nm : ByteArray) (p : Int) (e : Ending) : Prop :=
  e = .returned (.tuple #[.agg #[.int .i64 (boxF gs ss ps nm p).1.kind, .string (boxF gs ss ps nm p).1.name, .int .i64 (boxF gs ss ps nm p).1.size, .int .i64 (boxF gs ss ps nm p).1.W, .int .i64 (boxF gs ss ps nm p).1.H, .int .i64 (boxF gs ss ps nm p).1.D, .int .i64 0, .int .i64 0, .slice none 0 0, .int .i64 0, .slice none 0 0], .int .i64 (boxF gs ss ps nm p).2])
set_option maxRecDepth 100000 in
set_option maxHeartbeats 8000000 in
theorem rbox_any {w : World} {A B : Option Addr} {n c m d : Nat} {p0 p1 p2 p3 p4 p5 p6 p7 p8 p9 p10 p11 p12 p13 p14 p15 p16 p17 p18 p19 : Int} {gs : List Gl} {ss : List St} {nm : ByteArray} {p : Int} (hn : n = gs.length) (hm : m = ss.length) (hl : gs.length ≤ 9223372036854775807) (hl2 : ss.length ≤ 9223372036854775807)
    (hg : GlsAt w w.heap.size A gs) (hs : StsAt w w.heap.size B ss) (hgn : ∀ g ∈ gs, g.name.size ≤ 9223372036854775807) (hsn : ∀ s ∈ ss, s.name.size ≤ 9223372036854775807 ∧ s.sizes.length ≤ 9223372036854775807 ∧ s.parts.length ≤ 9223372036854775807) :
    Calls Try.prog 25 #[.agg #[.slice A n c, .slice B m d, .int .i64 p0, .int .i64 p1, .int .i64 p2, .int .i64 p3, .int .i64 p4, .int .i64 p5, .int .i64 p6, .int .i64 p7, .int .i64 p8, .int .i64 p9, .int .i64 p10, .int .i64 p11, .int .i64 p12, .int .i64 p13, .int .i64 p14, .int .i64 p15, .int .i64 p16, .int .i64 p17, .int .i64 p18, .int .i64 p19], .string nm, .int .i64 p] w fun e w' => BoxR gs ss [p0, p1, p2, p3, p4, p5, p6, p7, p8, p9, p10, p11, p12, p13, p14, p15, p16, p17, p18, p19] nm p e ∧ Below w.heap.size w w' := by
  obtain ⟨N, hN⟩ : ∃ N, w.heap.size = N := ⟨_, rfl⟩
  obtain ⟨Wa, hWa⟩ : ∃ W', W' = w.alloc (.cells #[.slice A n c, .slice B m d, .int .i64 p0, .int .i64 p1, .int .i64 p2, .int .i64 p3, .int .i64 p4, .int .i64 p5, .int .i64 p6, .int .i64 p7, .int .i64 p8, .int .i64 p9, .int .i64 p10, .int .i64 p11, .int .i64 p12, .int .i64 p13, .int .i64 p14, .int .i64 p15, .int .i64 p16, .int .i64 p17, .int .i64 p18, .int .i64 p19] 27) := ⟨_, rfl⟩
  obtain ⟨W1, hW1⟩ : ∃ W', W' = Wa.alloc (.cells #[.int .i64 0, .string ⟨#[]⟩, .int .i64 0, .int .i64 0, .int .i64 0, .int .i64 0, .int .i64 0, .int .i64 0, .slice none 0 0, .int .i64 0, .slice none 0 0] 51) := ⟨_, rfl⟩
  have sa : Wa.heap.size = N + 1 := by rw [hWa]; exact size_new hN _
  have ba : Below w.heap.size w Wa := by rw [hWa]; exact below_new _ _
  have bb : Below Wa.heap.size Wa W1 := by rw [hW1]; exact below_new _ _
  have hB1 := below_self ba bb
  have HR : Hid (W1.rangeAt N 0 [.slice A n c, .slice B m d, .int .i64 p0, .int .i64 p1, .int .i64 p2, .int .i64 p3, .int .i64 p4, .int .i64 p5, .int .i64 p6, .int .i64 p7, .int .i64 p8, .int .i64 p9, .int .i64 p10, .int .i64 p11, .int .i64 p12, .int .i64 p13, .int .i64 p14, .int .i64 p15, .int .i64 p16, .int .i64 p17, .int .i64 p18, .int .i64 p19]) := Lib.hid (range_below (by rw [hWa]; exact range_new hN _ _) bb)
  have HT : Hid (W1.there (N + 1) 0 11) := Lib.hid (by rw [hW1]; exact there_new sa #[.int .i64 0, .string ⟨#[]⟩, .int .i64 0, .int .i64 0, .int .i64 0, .int .i64 0, .int .i64 0, .int .i64 0, .slice none 0 0, .int .i64 0, .slice none 0 0] 51)
  have HN1 : Hid (N + 1 < W1.heap.size) := Lib.hid (by rw [hW1, size_new sa]; omega)
  have HW : Hid (W1 = (w.alloc (.cells #[.slice A n c, .slice B m d, .int .i64 p0, .int .i64 p1, .int .i64 p2, .int .i64 p3, .int .i64 p4, .int .i64 p5, .int .i64 p6, .int .i64 p7, .int .i64 p8, .int .i64 p9, .int .i64 p10, .int .i64 p11, .int .i64 p12, .int .i64 p13, .int .i64 p14, .int .i64 p15, .int .i64 p16, .int .i64 p17, .int .i64 p18, .int .i64 p19] 27)).alloc (.cells #[.int .i64 0, .string ⟨#[]⟩, .int .i64 0, .int .i64 0, .int .i64 0, .int .i64 0, .int .i64 0, .int .i64 0, .slice none 0 0, .int .i64 0, .slice none 0 0] 51)) := Lib.hid (by rw [hW1, hWa])
  have HB := Lib.hid hB1
  have HV : Hid (∀ r, validB gs ss [p0, p1, p2, p3, p4, p5, p6, p7, p8, p9, p10, p11, p12, p13, p14, p15, p16, p17, p18, p19] = r → Calls Try.prog 13 #[.agg #[.slice A n c, .slice B m d, .int .i64 p0, .int .i64 p1, .int .i64 p2, .int .i64 p3, .int .i64 p4, .int .i64 p5, .int .i64 p6, .int .i64 p7, .int .i64 p8, .int .i64 p9, .int .i64 p10, .int .i64 p11, .int .i64 p12, .int .i64 p13, .int .i64 p14, .int .i64 p15, .int .i64 p16, .int .i64 p17, .int .i64 p18, .int .i64 p19]] W1 fun e w' => e = .returned (.bool r) ∧ Below W1.heap.size W1 w') := Lib.hid fun r h => h ▸ rvalid_any hn hm hl hl2 (hg.below hB1) (hs.below hB1) hgn hsn
  have HPK : Hid (∀ W, Below W1.heap.size W1 W → Calls Try.prog 19 #[.agg #[.slice A n c, .slice B m d, .int .i64 p0, .int .i64 p1, .int .i64 p2, .int .i64 p3, .int .i64 p4, .int .i64 p5, .int .i64 p6, .int .i64 p7, .int .i64 p8, .int .i64 p9, .int .i64 p10, .int .i64 p11, .int .i64 p12, .int .i64 p13, .int .i64 p14, .int .i64 p15, .int .i64 p16, .int .i64 p17, .int .i64 p18, .int .i64 p19], .string nm] W fun e w' => e = .returned (.agg #[.string (pick gs nm).name, .int .i64 (pick gs nm).W, .int .i64 (pick gs nm).H, .int .i64 (pick gs nm).D, .int .i64 (pick gs nm).I, .int .i64 (pick gs nm).A]) ∧ Below W.heap.size W w') := Lib.hid fun W hb => rpick_any hn ((hg.below hB1).below hb) hl
  obtain ⟨Y, hY⟩ : ∃ Y, boxF gs ss [p0, p1, p2, p3, p4, p5, p6, p7, p8, p9, p10, p11, p12, p13, p14, p15, p16, p17, p18, p19] nm p = Y := ⟨_, rfl⟩
  unfold BoxR
  rw [hY]
  clear sa ba bb hB1 hWa hW1 hg hs hgn hsn hl hl2 hm
  cases h1 : validB gs ss [p0, p1, p2, p3, p4, p5, p6, p7, p8, p9, p10, p11, p12, p13, p14, p15, p16, p17, p18, p19] with
  | false =>
    have HC := Lib.hid (HV.out _ h1)
    obtain rfl : (zeroBx, 1) = Y := by rw [← hY]; unfold boxF; rw [if_pos h1]
    clear h1 HV HPK hY hn
    go_enter Try.func25, Try.ntmps25
    go_upto_region 1 with fail
    rw [← HW.out]
    go_wp2_with (first | (refine wpList_load_mid rfl 27 (.tmp 3) rfl N 0 rfl [.slice A n c, .slice B m d, .int .i64 p0, .int .i64 p1, .int .i64 p2, .int .i64 p3, .int .i64 p4, .int .i64 p5, .int .i64 p6, .int .i64 p7, .int .i64 p8, .int .i64 p9, .int .i64 p10, .int .i64 p11, .int .i64 p12, .int .i64 p13, .int .i64 p14, .int .i64 p15, .int .i64 p16, .int .i64 p17, .int .i64 p18, .int .i64 p19] _ HR.out Try.underlying27 rfl (by kernel_rfl) ?_) | (go_at_call 13; refine HC.out.mono ?_; rintro e w2 ⟨rfl, hb2⟩; have HT2 := Lib.hid (there_below HT.out HN1.out hb2); have HB2 := Lib.hid (below_self HB.out hb2); clear hb2) | (refine wpList_store_mid rfl 51 (.tmp 6) (.tmp 13) rfl (N + 1) 0 #[.int .i64 0, .string ⟨#[]⟩, .int .i64 0, .int .i64 0, .int .i64 0, .int .i64 0, .int .i64 0, .int .i64 0, .slice none 0 0, .int .i64 0, .slice none 0 0] rfl rfl HT2.out (by kernel_rfl) (by simp [Value.oneCell']) ?_) | fail)
    obtain ⟨W9, hW9⟩ : ∃ W9, W9 = w2.setCells (N + 1) 0 [.int .i64 0, .string ⟨#[]⟩, .int .i64 0, .int .i64 0, .int .i64 0, .int .i64 0, .int .i64 0, .int .i64 0, .slice none 0 0, .int .i64 0, .slice none 0 0] := ⟨_, rfl⟩
    have hr : W9.rangeAt (N + 1) 0 [.int .i64 0, .string ⟨#[]⟩, .int .i64 0, .int .i64 0, .int .i64 0, .int .i64 0, .int .i64 0, .int .i64 0, .slice none 0 0, .int .i64 0, .slice none 0 0] := by rw [hW9]; exact World.rangeAt_setCells_same _ _ _ _ HT2.out
    have hB4 : Below w.heap.size w W9 := by rw [hW9]; exact below_setCells (by omega) _ _ _ HB2.out
    rw [← hW9]
    clear hW9
    refine bodyPost_ret (v := .tuple #[.agg #[.int .i64 0, .string ⟨#[]⟩, .int .i64 0, .int .i64 0, .int .i64 0, .int .i64 0, .int .i64 0, .int .i64 0, .slice none 0 0, .int .i64 0, .slice none 0 0], .int .i64 1]) ?_ rfl ⟨rfl, hN ▸ hB4⟩
    have hl := run_loadVar_mid (P := Try.prog) W9 (N + 1) 0 51 [.int .i64 0, .string ⟨#[]⟩, .int .i64 0, .int .i64 0, .int .i64 0, .int .i64 0, .int .i64 0, .int .i64 0, .slice none 0 0, .int .i64 0, .slice none 0 0] _ hr Try.underlying51 rfl (by kernel_rfl)
    exact results_two (a := 6) (s := 7) (t := 51) (A := ⟨N + 1, 0, none⟩) rfl rfl hl
  | true =>
    have HC := Lib.hid (HV.out _ h1)
    obtain ⟨G, hG⟩ : ∃ G, pick gs nm = G := ⟨_, rfl⟩
    obtain ⟨sg, hsg⟩ : ∃ sg, (scaled G p).1 = sg := ⟨_, rfl⟩
    obtain ⟨er, her⟩ : ∃ er, (scaled G p).2 = er := ⟨_, rfl⟩
    rw [hG] at HPK
    have HSC : Hid (∀ W, Calls Try.prog 22 #[.agg #[.string G.name, .int .i64 G.W, .int .i64 G.H, .int .i64 G.D, .int .i64 G.I, .int .i64 G.A], .int .i64 p] W fun e w' => e = .returned (.tuple #[.agg #[.string sg.name, .int .i64 sg.W, .int .i64 sg.H, .int .i64 sg.D, .int .i64 sg.I, .int .i64 sg.A], .int .i64 er]) ∧ Below W.heap.size W w') := Lib.hid fun W => by
      have := rscaled_any G p W
      rw [hsg, her] at this
      exact this
    by_cases h0 : er = 0
    · have hbd := scaled_bd (her.trans h0)
      rw [hsg] at hbd
      have HZ : Hid (0 = er) := Lib.hid h0.symm
      obtain rfl : ({ kind := 1, name := sg.name, size := p, W := sg.W + max 0 sg.I, H := sg.H, D := sg.D }, 0) = Y := by rw [← hY]; unfold boxF; rw [hG, hsg, her, if_neg (by rw [h1]; decide), if_pos h0]
      subst h0
      clear h1 HV hY hn hG hsg her HZ
      go_enter Try.func25, Try.ntmps25
      go_upto_region 1 with fail
      rw [← HW.out]
      go_upto_region 4 with (first | (refine wpList_load_mid rfl 27 (.tmp 3) rfl N 0 rfl [.slice A n c, .slice B m d, .int .i64 p0, .int .i64 p1, .int .i64 p2, .int .i64 p3, .int .i64 p4, .int .i64 p5, .int .i64 p6, .int .i64 p7, .int .i64 p8, .int .i64 p9, .int .i64 p10, .int .i64 p11, .int .i64 p12, .int .i64 p13, .int .i64 p14, .int .i64 p15, .int .i64 p16, .int .i64 p17, .int .i64 p18, .int .i64 p19] _ HR.out Try.underlying27 rfl (by kernel_rfl) ?_) | (refine wpList_load_mid rfl 27 (.tmp 3) rfl N 0 rfl [.slice A n c, .slice B m d, .int .i64 p0, .int .i64 p1, .int .i64 p2, .int .i64 p3, .int .i64 p4, .int .i64 p5, .int .i64 p6, .int .i64 p7, .int .i64 p8, .int .i64 p9, .int .i64 p10, .int .i64 p11, .int .i64 p12, .int .i64 p13, .int .i64 p14, .int .i64 p15, .int .i64 p16, .int .i64 p17, .int .i64 p18, .int .i64 p19] _ HR2.out Try.underlying27 rfl (by kernel_rfl) ?_) | (go_at_call 13; refine HC.out.mono ?_; rintro e w2 ⟨rfl, hb2⟩; have HQ2 := Lib.hid hb2; have HT2 := Lib.hid (there_below HT.out HN1.out hb2); have HB2 := Lib.hid (below_self HB.out hb2); have HR2 := Lib.hid (range_below HR.out hb2); clear hb2) | (go_at_call 19; refine (HPK.out _ HQ2.out).mono ?_; rintro e w3 ⟨rfl, hb3⟩; have HQ3 := Lib.hid (below_self HQ2.out hb3); clear hb3) | (go_at_call 22; refine (HSC.out _).mono ?_; rintro e w4 ⟨rfl, hb4⟩; have HQ4 := Lib.hid (below_self HQ3.out hb4); have HT4 := Lib.hid (there_below HT.out HN1.out HQ4.out); clear hb4) | fail)
      obtain ⟨M, hM⟩ : ∃ M, w4.heap.size = M := ⟨_, rfl⟩
      obtain ⟨W5, hW5⟩ : ∃ W5, W5 = w4.alloc (.cells #[.string sg.name, .int .i64 sg.W, .int .i64 sg.H, .int .i64 sg.D, .int .i64 sg.I, .int .i64 sg.A] 31) := ⟨_, rfl⟩
      have hsix := six_new hM (.string sg.name) (.int .i64 sg.W) (.int .i64 sg.H) (.int .i64 sg.D) (.int .i64 sg.I) (.int .i64 sg.A) 31
      rw [← hW5] at hsix ⊢
      rw [hM]
      have hq5 := below_self HQ4.out (show Below w4.heap.size w4 W5 by rw [hW5]; exact below_new _ _)
      have HT5 := Lib.hid (there_below HT.out HN1.out hq5)
      have HB5 := Lib.hid (below_self HB.out hq5)
      obtain ⟨⟨d0, d1, d2, d3, d4, d5⟩, _⟩ := hsix
      clear hW5 hM hq5
      go_wp2_with (first | (refine wpList_store_mid rfl 51 (.tmp 6) (.tmp 39) rfl (N + 1) 0 _ rfl rfl HT5.out (by kernel_rfl) (by simp [Value.oneCell']) ?_) | fail)
      · obtain ⟨W9, hW9⟩ : ∃ W9, W9 = W5.setCells (N + 1) 0 [.int .i64 1, .string sg.name, .int .i64 p, .int .i64 (sg.W + sg.I), .int .i64 sg.H, .int .i64 sg.D, .int .i64 0, .int .i64 0, .slice none 0 0, .int .i64 0, .slice none 0 0] := ⟨_, rfl⟩
        have hr : W9.rangeAt (N + 1) 0 [.int .i64 1, .string sg.name, .int .i64 p, .int .i64 (sg.W + sg.I), .int .i64 sg.H, .int .i64 sg.D, .int .i64 0, .int .i64 0, .slice none 0 0, .int .i64 0, .slice none 0 0] := by rw [hW9]; exact World.rangeAt_setCells_same _ _ _ _ HT5.out
        have hB4 : Below w.heap.size w W9 := by rw [hW9]; exact below_setCells (by omega) _ _ _ HB5.out
        rw [← hW9]
        clear hW9
        refine bodyPost_ret (v := .tuple #[.agg #[.int .i64 1, .string sg.name, .int .i64 p, .int .i64 (sg.W + sg.I), .int .i64 sg.H, .int .i64 sg.D, .int .i64 0, .int .i64 0, .slice none 0 0, .int .i64 0, .slice none 0 0], .int .i64 0]) ?_ rfl ⟨by rw [show (max 0 sg.I : Int) = sg.I by omega], hN ▸ hB4⟩
        have hl := run_loadVar_mid (P := Try.prog) W9 (N + 1) 0 51 [.int .i64 1, .string sg.name, .int .i64 p, .int .i64 (sg.W + sg.I), .int .i64 sg.H, .int .i64 sg.D, .int .i64 0, .int .i64 0, .slice none 0 0, .int .i64 0, .slice none 0 0] _ hr Try.underlying51 rfl (by kernel_rfl)
        exact results_two (a := 6) (s := 7) (t := 51) (A := ⟨N + 1, 0, none⟩) rfl rfl hl
      · obtain ⟨W9, hW9⟩ : ∃ W9, W9 = W5.setCells (N + 1) 0 [.int .i64 1, .string sg.name, .int .i64 p, .int .i64 sg.W, .int .i64 sg.H, .int .i64 sg.D, .int .i64 0, .int .i64 0, .slice none 0 0, .int .i64 0, .slice none 0 0] := ⟨_, rfl⟩
        have hr : W9.rangeAt (N + 1) 0 [.int .i64 1, .string sg.name, .int .i64 p, .int .i64 sg.W, .int .i64 sg.H, .int .i64 sg.D, .int .i64 0, .int .i64 0, .slice none 0 0, .int .i64 0, .slice none 0 0] := by rw [hW9]; exact World.rangeAt_setCells_same _ _ _ _ HT5.out
        have hB4 : Below w.heap.size w W9 := by rw [hW9]; exact below_setCells (by omega) _ _ _ HB5.out
        rw [← hW9]
        clear hW9
        refine bodyPost_ret (v := .tuple #[.agg #[.int .i64 1, .string sg.name, .int .i64 p, .int .i64 sg.W, .int .i64 sg.H, .int .i64 sg.D, .int .i64 0, .int .i64 0, .slice none 0 0, .int .i64 0, .slice none 0 0], .int .i64 0]) ?_ rfl ⟨by rw [show (max 0 sg.I : Int) = 0 by omega, Int.add_zero], hN ▸ hB4⟩
        have hl := run_loadVar_mid (P := Try.prog) W9 (N + 1) 0 51 [.int .i64 1, .string sg.name, .int .i64 p, .int .i64 sg.W, .int .i64 sg.H, .int .i64 sg.D, .int .i64 0, .int .i64 0, .slice none 0 0, .int .i64 0, .slice none 0 0] _ hr Try.underlying51 rfl (by kernel_rfl)
        exact results_two (a := 6) (s := 7) (t := 51) (A := ⟨N + 1, 0, none⟩) rfl rfl hl
    · have HX : Hid ((er == 0) = false) := Lib.hid (beq_eq_false_iff_ne.2 h0)
      obtain rfl : (zeroBx, er) = Y := by rw [← hY]; unfold boxF; rw [hG, her, if_neg (by rw [h1]; decide), if_neg h0]
      clear h1 HV hY hn hG hsg her
      go_enter Try.func25, Try.ntmps25
      go_upto_region 1 with fail
      rw [← HW.out]
      go_upto_region 4 with (first | (refine wpList_load_mid rfl 27 (.tmp 3) rfl N 0 rfl [.slice A n c, .slice B m d, .int .i64 p0, .int .i64 p1, .int .i64 p2, .int .i64 p3, .int .i64 p4, .int .i64 p5, .int .i64 p6, .int .i64 p7, .int .i64 p8, .int .i64 p9, .int .i64 p10, .int .i64 p11, .int .i64 p12, .int .i64 p13, .int .i64 p14, .int .i64 p15, .int .i64 p16, .int .i64 p17, .int .i64 p18, .int .i64 p19] _ HR.out Try.underlying27 rfl (by kernel_rfl) ?_) | (refine wpList_load_mid rfl 27 (.tmp 3) rfl N 0 rfl [.slice A n c, .slice B m d, .int .i64 p0, .int .i64 p1, .int .i64 p2, .int .i64 p3, .int .i64 p4, .int .i64 p5, .int .i64 p6, .int .i64 p7, .int .i64 p8, .int .i64 p9, .int .i64 p10, .int .i64 p11, .int .i64 p12, .int .i64 p13, .int .i64 p14, .int .i64 p15, .int .i64 p16, .int .i64 p17, .int .i64 p18, .int .i64 p19] _ HR2.out Try.underlying27 rfl (by kernel_rfl) ?_) | (go_at_call 13; refine HC.out.mono ?_; rintro e w2 ⟨rfl, hb2⟩; have HQ2 := Lib.hid hb2; have HT2 := Lib.hid (there_below HT.out HN1.out hb2); have HB2 := Lib.hid (below_self HB.out hb2); have HR2 := Lib.hid (range_below HR.out hb2); clear hb2) | (go_at_call 19; refine (HPK.out _ HQ2.out).mono ?_; rintro e w3 ⟨rfl, hb3⟩; have HQ3 := Lib.hid (below_self HQ2.out hb3); clear hb3) | (go_at_call 22; refine (HSC.out _).mono ?_; rintro e w4 ⟨rfl, hb4⟩; have HQ4 := Lib.hid (below_self HQ3.out hb4); have HT4 := Lib.hid (there_below HT.out HN1.out HQ4.out); clear hb4) | fail)
      obtain ⟨M, hM⟩ : ∃ M, w4.heap.size = M := ⟨_, rfl⟩
      obtain ⟨W5, hW5⟩ : ∃ W5, W5 = w4.alloc (.cells #[.string sg.name, .int .i64 sg.W, .int .i64 sg.H, .int .i64 sg.D, .int .i64 sg.I, .int .i64 sg.A] 31) := ⟨_, rfl⟩
      have hsix := six_new hM (.string sg.name) (.int .i64 sg.W) (.int .i64 sg.H) (.int .i64 sg.D) (.int .i64 sg.I) (.int .i64 sg.A) 31
      rw [← hW5] at hsix ⊢
      rw [hM]
      have hq5 := below_self HQ4.out (show Below w4.heap.size w4 W5 by rw [hW5]; exact below_new _ _)
      have HT5 := Lib.hid (there_below HT.out HN1.out hq5)
      have HB5 := Lib.hid (below_self HB.out hq5)
      obtain ⟨⟨d0, d1, d2, d3, d4, d5⟩, _⟩ := hsix
      clear hW5 hM hq5
      have hX := HX.out
      go_wp2_with (first | (refine wpList_store_mid rfl 51 (.tmp 6) (.tmp 24) rfl (N + 1) 0 #[.int .i64 0, .string ⟨#[]⟩, .int .i64 0, .int .i64 0, .int .i64 0, .int .i64 0, .int .i64 0, .int .i64 0, .slice none 0 0, .int .i64 0, .slice none 0 0] rfl rfl HT5.out (by kernel_rfl) (by simp [Value.oneCell']) ?_) | fail)
      obtain ⟨W9, hW9⟩ : ∃ W9, W9 = W5.setCells (N + 1) 0 [.int .i64 0, .string ⟨#[]⟩, .int .i64 0, .int .i64 0, .int .i64 0, .int .i64 0, .int .i64 0, .int .i64 0, .slice none 0 0, .int .i64 0, .slice none 0 0] := ⟨_, rfl⟩
      have hr : W9.rangeAt (N + 1) 0 [.int .i64 0, .string ⟨#[]⟩, .int .i64 0, .int .i64 0, .int .i64 0, .int .i64 0, .int .i64 0, .int .i64 0, .slice none 0 0, .int .i64 0, .slice none 0 0] := by rw [hW9]; exact World.rangeAt_setCells_same _ _ _ _ HT5.out
      have hB4 : Below w.heap.size w W9 := by rw [hW9]; exact below_setCells (by omega) _ _ _ HB5.out
      rw [← hW9]
      clear hW9
      refine bodyPost_ret (v := .tuple #[.agg #[.int .i64 0, .string ⟨#[]⟩, .int .i64 0, .int .i64 0, .int .i64 0, .int .i64 0, .int .i64 0, .int .i64 0, .slice none 0 0, .int .i64 0, .slice none 0 0], .int .i64 er]) ?_ rfl ⟨rfl, hN ▸ hB4⟩
      have hl := run_loadVar_mid (P := Try.prog) W9 (N + 1) 0 51 [.int .i64 0, .string ⟨#[]⟩, .int .i64 0, .int .i64 0, .int .i64 0, .int .i64 0, .int .i64 0, .int .i64 0, .slice none 0 0, .int .i64 0, .slice none 0 0] _ hr Try.underlying51 rfl (by kernel_rfl)
      exact results_two (a := 6) (s := 7) (t := 51) (A := ⟨N + 1, 0, none⟩) rfl rfl hl
end Go.Proofs.Ytjhpajdkklklhaa.Fon
