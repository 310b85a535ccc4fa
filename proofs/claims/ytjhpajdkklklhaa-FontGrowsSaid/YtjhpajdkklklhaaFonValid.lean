/- The reference of layer 5: Valid. (Written by wip/tools/genvalid.py.) -/
import Derived.Test.YtjhpajdkklklhaaFonStretch
import Derived.Test.YtjhpajdkklklhaaFonParams
namespace Go.Proofs.Ytjhpajdkklklhaa.Fon
open Go Go.RowKit By

/-- a load of many cells under a guard that holds -/
theorem wpList_load_by {P : Program} {ops : Array Oper} {rest : List Oper} {op : Oper} {a : Act} {w : World} {Q : Exit → Act → World → Prop} {j : Nat} {want : Bool} (b' : Bool) (hg : op.guard = some (j, want)) (hy : yielded ops a.tmps j = some b') (hb : b' = want)
    (ty : TypeId) (x : Operand) (ho : op.op = .load ty x) (b o : Nat) (hx : a.eval x = .pointer (some ⟨b, o, none⟩)) (cs : List Value) (d : TypeDesc) (hc : w.rangeAt b o cs)
    (hu : P.underlying ty = some d) (hd : d.isRow = true) (hi : (P.info? ty).map (·.size) = some cs.length)
    (h : wpList P ops Q rest (a.put op.dst (.agg cs.toArray)) w) : wpList P ops Q (op :: rest) a w :=
  wpList_step fun K hK => by
    have hgd : Region.wanted op (yielded ops a.tmps) = true := by unfold Region.wanted; rw [hg]; simp [hy, hb]
    rw [if_pos hgd]
    exact wp_load_mid ty x ho b o hx cs d hc hu hd hi (hK _ _ h)
theorem range_tail {W : World} {N : Nat} {x y : Value} {l : List Value} (h : W.rangeAt N 0 (x :: y :: l)) : W.rangeAt N 2 l := fun j v hj => by
  have := h (j + 2) v (by simpa using hj)
  rwa [Nat.zero_add, Nat.add_comm] at this
theorem stOK_of {gs : List Gl} {l : List St} {k : Nat} (h : k < l.length) : stOK gs l k = (stretchB gs l[k] && !((l.take k).any fun x => x.name.toList == l[k].name.toList)) := by
  unfold stOK; rw [List.getElem?_eq_getElem h]
theorem sts_false {gs : List Gl} {l : List St} {k : Nat} (h : k < l.length) (hf : stOK gs l k = false) : stretchesB gs l = false := by
  unfold stretchesB
  rw [List.all_eq_false]
  exact ⟨k, List.mem_range.2 h, by rw [hf]; decide⟩
theorem sts_true {gs : List Gl} {l : List St} (h : ∀ k, k < l.length → stOK gs l k = true) : stretchesB gs l = true := by
  unfold stretchesB
  rw [List.all_eq_true]
  exact fun k hk => h k (List.mem_range.1 hk)
theorem met_of {gs : List Gl} (h : glyphsB gs = true) : ∀ g ∈ gs, metP g := fun g hg => by
  obtain ⟨k, hk, rfl⟩ := List.getElem_of_mem hg
  unfold glyphsB at h
  rw [List.all_eq_true] at h
  have h := h k (List.mem_range.2 hk)
  unfold glOK at h
  rw [List.getElem?_eq_getElem hk] at h
  simp only [Bool.and_eq_true] at h
  exact (met_iff _).1 h.1.1.2
theorem anyS_true {l : List St} {k j : Nat} {f : St → Bool} (hj : j < l.length) (hk : j < k) (h : f l[j] = true) : (l.take k).any f = true := by
  rw [List.any_eq_true]
  exact ⟨l[j], List.mem_take_iff_getElem.2 ⟨j, by omega, rfl⟩, h⟩
theorem anyS_false {l : List St} {k : Nat} {f : St → Bool} (hk : k ≤ l.length) (h : ∀ i (hi : i < l.length), i < k → f l[i] = false) : (l.take k).any f = false := by
  rw [List.any_eq_false]
  intro x hx
  obtain ⟨i, hi, rfl⟩ := List.mem_take_iff_getElem.1 hx
  rw [h i (by omega) (by omega)]; decide
set_option maxRecDepth 100000 in
set_option maxHeartbeats 8000000 in
theorem rvalid_any {w : World} {A B : Option Addr} {n c m d : Nat} {p0 p1 p2 p3 p4 p5 p6 p7 p8 p9 p10 p11 p12 p13 p14 p15 p16 p17 p18 p19 : Int} {gs : List Gl} {ss : List St} (hn : n = gs.length) (hm : m = ss.length) (hl : gs.length ≤ 9223372036854775807) (hl2 : ss.length ≤ 9223372036854775807)
    (hg : GlsAt w w.heap.size A gs) (hs : StsAt w w.heap.size B ss) (hgn : ∀ g ∈ gs, g.name.size ≤ 9223372036854775807) (hsn : ∀ s ∈ ss, s.name.size ≤ 9223372036854775807 ∧ s.sizes.length ≤ 9223372036854775807 ∧ s.parts.length ≤ 9223372036854775807) :
    Calls Try.prog 13 #[.agg #[.slice A n c, .slice B m d, .int .i64 p0, .int .i64 p1, .int .i64 p2, .int .i64 p3, .int .i64 p4, .int .i64 p5, .int .i64 p6, .int .i64 p7, .int .i64 p8, .int .i64 p9, .int .i64 p10, .int .i64 p11, .int .i64 p12, .int .i64 p13, .int .i64 p14, .int .i64 p15, .int .i64 p16, .int .i64 p17, .int .i64 p18, .int .i64 p19]] w fun e w' => e = .returned (.bool (validB gs ss [p0, p1, p2, p3, p4, p5, p6, p7, p8, p9, p10, p11, p12, p13, p14, p15, p16, p17, p18, p19])) ∧ Below w.heap.size w w' := by
  obtain ⟨F, hF⟩ : ∃ F, validB gs ss [p0, p1, p2, p3, p4, p5, p6, p7, p8, p9, p10, p11, p12, p13, p14, p15, p16, p17, p18, p19] = F := ⟨_, rfl⟩
  have HF : Hid ((decide (gs.length ≤ 400) && decide (ss.length ≤ 40) && paramsB [p0, p1, p2, p3, p4, p5, p6, p7, p8, p9, p10, p11, p12, p13, p14, p15, p16, p17, p18, p19] && glyphsB gs && stretchesB gs ss) = F) := Lib.hid (by rw [← hF]; rfl)
  rw [hF]
  have hn1 : (n : Int) ≤ 9223372036854775807 := by omega
  have hm1 : (m : Int) ≤ 9223372036854775807 := by omega
  have HN := Lib.hid hn
  have HM := Lib.hid hm
  obtain ⟨N, hN⟩ : ∃ N, w.heap.size = N := ⟨_, rfl⟩
  obtain ⟨W1, hW1⟩ : ∃ W', W' = w.alloc (.cells #[.slice A n c, .slice B m d, .int .i64 p0, .int .i64 p1, .int .i64 p2, .int .i64 p3, .int .i64 p4, .int .i64 p5, .int .i64 p6, .int .i64 p7, .int .i64 p8, .int .i64 p9, .int .i64 p10, .int .i64 p11, .int .i64 p12, .int .i64 p13, .int .i64 p14, .int .i64 p15, .int .i64 p16, .int .i64 p17, .int .i64 p18, .int .i64 p19] 27) := ⟨_, rfl⟩
  have ba : Below w.heap.size w W1 := by rw [hW1]; exact below_new _ _
  have HR : Hid (W1.rangeAt N 0 [.slice A n c, .slice B m d, .int .i64 p0, .int .i64 p1, .int .i64 p2, .int .i64 p3, .int .i64 p4, .int .i64 p5, .int .i64 p6, .int .i64 p7, .int .i64 p8, .int .i64 p9, .int .i64 p10, .int .i64 p11, .int .i64 p12, .int .i64 p13, .int .i64 p14, .int .i64 p15, .int .i64 p16, .int .i64 p17, .int .i64 p18, .int .i64 p19]) := Lib.hid (by rw [hW1]; exact range_new hN _ _)
  have HP : Hid (W1.rangeAt N 2 [.int .i64 p0, .int .i64 p1, .int .i64 p2, .int .i64 p3, .int .i64 p4, .int .i64 p5, .int .i64 p6, .int .i64 p7, .int .i64 p8, .int .i64 p9, .int .i64 p10, .int .i64 p11, .int .i64 p12, .int .i64 p13, .int .i64 p14, .int .i64 p15, .int .i64 p16, .int .i64 p17, .int .i64 p18, .int .i64 p19]) := Lib.hid (range_tail HR.out)
  have c0 : W1.cell? ⟨N, 0, none⟩ = some (.slice A n c) := by rw [hW1]; exact new_cell hN _ _ 0 rfl
  have c1 : W1.cell? ⟨N, 1, none⟩ = some (.slice B m d) := by rw [hW1]; exact new_cell hN _ _ 1 rfl
  have HW := Lib.hid hW1
  have HB := Lib.hid ba
  have HG := Lib.hid (hg.below ba)
  have HS := Lib.hid (hs.below ba)
  have HGN := Lib.hid hgn
  have HSN := Lib.hid hsn
  clear hW1 ba hF hn hm hl hl2 hg hs hgn hsn
  have HC : Hid (∀ r, paramsB [p0, p1, p2, p3, p4, p5, p6, p7, p8, p9, p10, p11, p12, p13, p14, p15, p16, p17, p18, p19] = r → Calls Try.prog 31 #[.agg #[.int .i64 p0, .int .i64 p1, .int .i64 p2, .int .i64 p3, .int .i64 p4, .int .i64 p5, .int .i64 p6, .int .i64 p7, .int .i64 p8, .int .i64 p9, .int .i64 p10, .int .i64 p11, .int .i64 p12, .int .i64 p13, .int .i64 p14, .int .i64 p15, .int .i64 p16, .int .i64 p17, .int .i64 p18, .int .i64 p19]] W1 fun e w' => e = .returned (.bool r) ∧ Below W1.heap.size W1 w') := Lib.hid fun r h => h ▸ rparams_any W1
  go_enter Try.func13, Try.ntmps13
  go_upto_region 1 with fail
  rw [← HW.out]
  by_cases h1 : n ≤ 400
  · have h1i : ¬ (400 : Int) < (n : Int) := by omega
    have hgl : gs.length ≤ 500 := by have := HN.out; omega
    by_cases h2 : m ≤ 40
    · have h2i : ¬ (40 : Int) < (m : Int) := by omega
      cases h3 : paramsB [p0, p1, p2, p3, p4, p5, p6, p7, p8, p9, p10, p11, p12, p13, p14, p15, p16, p17, p18, p19] with
      | false =>
        have HX : Hid (F = false) := Lib.hid (by rw [← HF.out, h3]; simp)
        have HC1 := Lib.hid (HC.out _ h3)
        clear h1 h2 h3 HF
        go_wp2_with (first | (refine wpList_load_by _ rfl rfl (by simp [h1i, h2i]) 25 (.tmp 16) rfl N 2 rfl [.int .i64 p0, .int .i64 p1, .int .i64 p2, .int .i64 p3, .int .i64 p4, .int .i64 p5, .int .i64 p6, .int .i64 p7, .int .i64 p8, .int .i64 p9, .int .i64 p10, .int .i64 p11, .int .i64 p12, .int .i64 p13, .int .i64 p14, .int .i64 p15, .int .i64 p16, .int .i64 p17, .int .i64 p18, .int .i64 p19] _ HP.out Try.underlying25 rfl (by kernel_rfl) ?_) | (go_at_call 31; refine HC1.out.mono ?_; rintro e w2 ⟨rfl, hb2⟩; have HB2 := Lib.hid (below_self HB.out hb2); clear hb2) | fail)
        go_ret
        exact ⟨ret_bool HX.out.symm, hN ▸ HB2.out⟩
      | true =>
        have HC1 := Lib.hid (HC.out _ h3)
        cases h4 : glyphsB gs with
        | false =>
          have HX : Hid (F = false) := Lib.hid (by rw [← HF.out, h4]; simp)
          have HCG : Hid (∀ W, Below W1.heap.size W1 W → Calls Try.prog 32 #[.slice A n c] W fun e w' => e = .returned (.bool false) ∧ Below W.heap.size W w') := Lib.hid fun W hb => h4 ▸ rglyphs_any HN.out hgl (HG.out.below hb) HGN.out
          clear h1 h2 h3 h4 HF hgl
          go_wp2_with (first | (refine wpList_load_by _ rfl rfl (by simp [h1i, h2i]) 25 (.tmp 16) rfl N 2 rfl [.int .i64 p0, .int .i64 p1, .int .i64 p2, .int .i64 p3, .int .i64 p4, .int .i64 p5, .int .i64 p6, .int .i64 p7, .int .i64 p8, .int .i64 p9, .int .i64 p10, .int .i64 p11, .int .i64 p12, .int .i64 p13, .int .i64 p14, .int .i64 p15, .int .i64 p16, .int .i64 p17, .int .i64 p18, .int .i64 p19] _ HP.out Try.underlying25 rfl (by kernel_rfl) ?_) | (go_at_call 31; refine HC1.out.mono ?_; rintro e w2 ⟨rfl, hb2⟩; have HQ2 := Lib.hid hb2; have c0 := keep_cell hb2 c0; have c1 := keep_cell hb2 c1; clear hb2) | (go_at_call 32; refine (HCG.out _ HQ2.out).mono ?_; rintro e w3 ⟨rfl, hb3⟩; have HQ3 := Lib.hid (below_self HQ2.out hb3); have HB3 := Lib.hid (below_self HB.out HQ3.out); have c1 := keep_cell hb3 c1; clear hb3) | fail)
          go_ret
          exact ⟨ret_bool HX.out.symm, hN ▸ HB3.out⟩
        | true =>
          have HMP := Lib.hid (met_of h4)
          have HGL := Lib.hid hgl
          have HF2 : Hid (stretchesB gs ss = F) := Lib.hid (by rw [← HF.out, h3, h4, decide_eq_true (show gs.length ≤ 400 by have := HN.out; omega), decide_eq_true (show ss.length ≤ 40 by have := HM.out; omega)]; rfl)
          have HCG : Hid (∀ W, Below W1.heap.size W1 W → Calls Try.prog 32 #[.slice A n c] W fun e w' => e = .returned (.bool true) ∧ Below W.heap.size W w') := Lib.hid fun W hb => h4 ▸ rglyphs_any HN.out hgl (HG.out.below hb) HGN.out
          clear h1 h2 h3 h4 HF hgl
          go_wp2_with (first | (refine wpList_load_by _ rfl rfl (by simp [h1i, h2i]) 25 (.tmp 16) rfl N 2 rfl [.int .i64 p0, .int .i64 p1, .int .i64 p2, .int .i64 p3, .int .i64 p4, .int .i64 p5, .int .i64 p6, .int .i64 p7, .int .i64 p8, .int .i64 p9, .int .i64 p10, .int .i64 p11, .int .i64 p12, .int .i64 p13, .int .i64 p14, .int .i64 p15, .int .i64 p16, .int .i64 p17, .int .i64 p18, .int .i64 p19] _ HP.out Try.underlying25 rfl (by kernel_rfl) ?_) | (go_at_call 31; refine HC1.out.mono ?_; rintro e w2 ⟨rfl, hb2⟩; have HQ2 := Lib.hid hb2; have c0 := keep_cell hb2 c0; have c1 := keep_cell hb2 c1; clear hb2) | (go_at_call 32; refine (HCG.out _ HQ2.out).mono ?_; rintro e w3 ⟨rfl, hb3⟩; have HQ3 := Lib.hid (below_self HQ2.out hb3); have HB3 := Lib.hid (below_self HB.out HQ3.out); have c1 := keep_cell hb3 c1; clear hb3) | fail)
          have HK0 : Hid (∀ j, j < 0 → stOK gs ss j = true) := Lib.hid fun j h => by omega
          have HS3 := Lib.hid (HS.out.below HQ3.out)
          have HG3 := Lib.hid (HG.out.below HQ3.out)
          have HR3 := Lib.hid (range_below HR.out HQ3.out)
          clear HC HC1 HCG
          go_loopw [3] (fun i wr => ∃ k : Nat, k ≤ m ∧ i = .int .i64 (k : Int) ∧ Hid (∀ j, j < k → stOK gs ss j = true) ∧ Hid (Below w3.heap.size w3 wr)) (fun i _ => m - (intOf i).toNat)
          case atStart => exact ⟨0, Nat.zero_le _, rfl, HK0, Lib.hid (Below.refl _ _)⟩
          case round =>
            obtain ⟨k, hk, rfl, HK, HBR⟩ := hrel
            have c1 := keep_cell HBR.out c1
            by_cases hlt : k < m
            · have hkl : k < ss.length := by rw [← HM.out]; exact hlt
              obtain ⟨b, off, C1, d1, C2, d2, hBe, hb, x0, x1, x2, x3, xin⟩ := (HS3.out.below HBR.out).at hkl
              rw [hBe] at c1
              have HBE := Lib.hid hBe
              clear hBe
              obtain ⟨y, hy⟩ : ∃ y, ss[k] = y := ⟨_, rfl⟩
              have hys := HSN.out y (hy ▸ List.getElem_mem hkl)
              have HSOK : Hid (stOK gs ss k = (stretchB gs y && !((ss.take k).any fun x => x.name.toList == y.name.toList))) := Lib.hid (by rw [stOK_of hkl, hy])
              rw [hy] at x0 x1 x2 x3 xin
              obtain ⟨s1, hs1⟩ : ∃ s, y.sizes.length = s := ⟨_, rfl⟩
              obtain ⟨s2, hs2⟩ : ∃ s, y.parts.length = s := ⟨_, rfl⟩
              have HC0 : Hid (∀ r, stretchB gs y = r → ∀ W, Below wr.heap.size wr W → Calls Try.prog 33 #[.agg #[.slice A n c, .slice B m d, .int .i64 p0, .int .i64 p1, .int .i64 p2, .int .i64 p3, .int .i64 p4, .int .i64 p5, .int .i64 p6, .int .i64 p7, .int .i64 p8, .int .i64 p9, .int .i64 p10, .int .i64 p11, .int .i64 p12, .int .i64 p13, .int .i64 p14, .int .i64 p15, .int .i64 p16, .int .i64 p17, .int .i64 p18, .int .i64 p19], .agg #[.string y.name, .slice C1 s1 d1, .slice C2 s2 d2, .int .i64 y.ov]] W fun e w' => e = .returned (.bool r) ∧ Below W.heap.size W w') :=
                Lib.hid fun r h W hb => h ▸ hs1 ▸ hs2 ▸ rstretchB_any HN.out HGL.out ((HG3.out.below HBR.out).below hb) HMP.out (xin.below hb) hys.1 hys.2.1 hys.2.2
              rw [hs1] at x1
              rw [hs2] at x2
              have HRR := Lib.hid (range_below HR3.out HBR.out)
              have hbW := below_drew wr
              clear hy hb hs1 hs2 xin hys
              have mk : ∀ W, Below wr.heap.size wr W → (fun w' : World => w'.rangeAt N 0 [.slice A n c, .slice B m d, .int .i64 p0, .int .i64 p1, .int .i64 p2, .int .i64 p3, .int .i64 p4, .int .i64 p5, .int .i64 p6, .int .i64 p7, .int .i64 p8, .int .i64 p9, .int .i64 p10, .int .i64 p11, .int .i64 p12, .int .i64 p13, .int .i64 p14, .int .i64 p15, .int .i64 p16, .int .i64 p17, .int .i64 p18, .int .i64 p19] ∧ w'.cell? ⟨N, 1, none⟩ = some (.slice (some ⟨b, off, none⟩) m d) ∧ w'.cell? ⟨b, off + k * 4, none⟩ = some (.string y.name) ∧ w'.cell? ⟨b, off + k * 4 + 1, none⟩ = some (.slice C1 s1 d1) ∧ w'.cell? ⟨b, off + k * 4 + 2, none⟩ = some (.slice C2 s2 d2) ∧ w'.cell? ⟨b, off + k * 4 + 3, none⟩ = some (.int .i64 y.ov) ∧ Below wr.heap.size wr w') W := fun W h => ⟨range_below HRR.out h, keep_cell h c1, keep_cell h x0, keep_cell h x1, keep_cell h x2, keep_cell h x3, h⟩
              cases h5 : stretchB gs y with
              | false =>
                have HC2 := Lib.hid (HC0.out _ h5)
                have HX : Hid (F = false) := Lib.hid (by rw [← HF2.out, sts_false hkl (by rw [HSOK.out, h5]; rfl)])
                clear h5 HC0
                go_wp2_with fail
                refine wp_region_held_drew (S := fun w' => w'.rangeAt N 0 [.slice A n c, .slice B m d, .int .i64 p0, .int .i64 p1, .int .i64 p2, .int .i64 p3, .int .i64 p4, .int .i64 p5, .int .i64 p6, .int .i64 p7, .int .i64 p8, .int .i64 p9, .int .i64 p10, .int .i64 p11, .int .i64 p12, .int .i64 p13, .int .i64 p14, .int .i64 p15, .int .i64 p16, .int .i64 p17, .int .i64 p18, .int .i64 p19] ∧ w'.cell? ⟨N, 1, none⟩ = some (.slice (some ⟨b, off, none⟩) m d) ∧ w'.cell? ⟨b, off + k * 4, none⟩ = some (.string y.name) ∧ w'.cell? ⟨b, off + k * 4 + 1, none⟩ = some (.slice C1 s1 d1) ∧ w'.cell? ⟨b, off + k * 4 + 2, none⟩ = some (.slice C2 s2 d2) ∧ w'.cell? ⟨b, off + k * 4 + 3, none⟩ = some (.int .i64 y.ov) ∧ Below wr.heap.size wr w') (by kernel_rfl) (mk _ hbW) (fun hHeld => ?_)
                refine wpAnyH_take (i := 0) (v := .agg #[.slice A n c, .slice B m d, .int .i64 p0, .int .i64 p1, .int .i64 p2, .int .i64 p3, .int .i64 p4, .int .i64 p5, .int .i64 p6, .int .i64 p7, .int .i64 p8, .int .i64 p9, .int .i64 p10, .int .i64 p11, .int .i64 p12, .int .i64 p13, .int .i64 p14, .int .i64 p15, .int .i64 p16, .int .i64 p17, .int .i64 p18, .int .i64 p19]) rfl (by kernel_rfl) (by kernel_rfl) (by kernel_rfl) (fun _ _ _ h => h) (yieldsIf_load_mid (by rfl) 27 (.tmp 1) rfl N 0 rfl [.slice A n c, .slice B m d, .int .i64 p0, .int .i64 p1, .int .i64 p2, .int .i64 p3, .int .i64 p4, .int .i64 p5, .int .i64 p6, .int .i64 p7, .int .i64 p8, .int .i64 p9, .int .i64 p10, .int .i64 p11, .int .i64 p12, .int .i64 p13, .int .i64 p14, .int .i64 p15, .int .i64 p16, .int .i64 p17, .int .i64 p18, .int .i64 p19] _ (fun w h => h.1) Try.underlying27 rfl (by kernel_rfl)) hHeld ?_
                simp only [Act.put]; (try simp only [List.setIfInBounds_toArray, List.set_cons_zero, List.set_cons_succ])
                refine wpAnyH_take (i := 1) (v := ?_) rfl (by kernel_rfl) (by kernel_rfl) (by kernel_rfl) (fun _ _ _ h => h) (Or.inl ⟨by rfl, ?_⟩) hHeld ?_
                rotate_left
                · intro w hSw; (try dsimp only at hSw); go_simp; try with_reducible rfl
                simp only [Act.put]; (try simp only [List.setIfInBounds_toArray, List.set_cons_zero, List.set_cons_succ])
                refine wpAnyH_take (i := 2) (v := ?_) rfl (by kernel_rfl) (by kernel_rfl) (by kernel_rfl) (fun _ _ _ h => h) (Or.inl ⟨by rfl, ?_⟩) hHeld ?_
                rotate_left
                · intro w hSw; (try dsimp only at hSw); go_simp; try with_reducible rfl
                simp only [Act.put]; (try simp only [List.setIfInBounds_toArray, List.set_cons_zero, List.set_cons_succ])
                refine wpAnyH_take (i := 3) (v := ?_) rfl (by kernel_rfl) (by kernel_rfl) (by kernel_rfl) (fun _ _ _ h => h) (Or.inl ⟨by rfl, ?_⟩) hHeld ?_
                rotate_left
                · intro w hSw; (try dsimp only at hSw); go_simp; try with_reducible rfl
                simp only [Act.put]; (try simp only [List.setIfInBounds_toArray, List.set_cons_zero, List.set_cons_succ])
                refine wpAnyH_take (i := 4) (v := ?_) rfl (by kernel_rfl) (by kernel_rfl) (by kernel_rfl) (fun _ _ _ h => h) (Or.inl ⟨by rfl, ?_⟩) hHeld ?_
                rotate_left
                · intro w hSw; (try dsimp only at hSw); go_simp; try with_reducible rfl
                simp only [Act.put]; (try simp only [List.setIfInBounds_toArray, List.set_cons_zero, List.set_cons_succ])
                refine wpAnyH_take (i := 5) (v := ?_) rfl (by kernel_rfl) (by kernel_rfl) (by kernel_rfl) (fun _ _ _ h => h) (Or.inl ⟨by rfl, ?_⟩) hHeld ?_
                rotate_left
                · intro w hSw; (try dsimp only at hSw); go_simp; try with_reducible rfl
                simp only [Act.put]; (try simp only [List.setIfInBounds_toArray, List.set_cons_zero, List.set_cons_succ])
                refine wpAnyH_ready (rs := [6]) (by kernel_rfl) (by simp) ?_
                refine AllReadyH.cons rfl (fun K hK => ?_) AllReadyH.nil
                obtain ⟨q1, q2, q3, q4, q5, q6, q7⟩ := hHeld
                go_simp
                refine (HC2.out _ q7).mono ?_
                rintro e w6 ⟨rfl, hb6⟩
                have hq6 := below_self q7 hb6
                refine hK.out _ _ (mk _ hq6) (fun hHeld => ?_)
                clear hK K q1 q2 q3 q4 q5 q6 q7 hb6
                (try simp only [Act.put]; (try simp only [List.setIfInBounds_toArray, List.set_cons_zero, List.set_cons_succ]))
                refine wpAnyH_take (i := 7) (v := ?_) rfl (by kernel_rfl) (by kernel_rfl) (by kernel_rfl) (fun _ _ _ h => h) (Or.inl ⟨by rfl, ?_⟩) hHeld ?_
                rotate_left
                · intro w hSw; (try dsimp only at hSw); go_simp; try with_reducible rfl
                simp only [Act.put]; (try simp only [List.setIfInBounds_toArray, List.set_cons_zero, List.set_cons_succ])
                refine wpAnyH_done (by kernel_rfl) ?_ _
                clear hHeld mk hbW
                go_wp2_with fail
                go_ret
                exact ⟨ret_bool HX.out.symm, hN ▸ below_self (below_self HB3.out HBR.out) hq6⟩
              | true =>
                have HC2 := Lib.hid (HC0.out _ h5)
                have HSK : Hid (stOK gs ss k = !((ss.take k).any fun x => x.name.toList == y.name.toList)) := Lib.hid (by rw [HSOK.out, h5]; rfl)
                have HI0 : Hid (∀ j (hj : j < ss.length), j < 0 → (ss[j].name.toList == y.name.toList) = false) := Lib.hid fun j _ h => by omega
                clear h5 HC0 HSOK
                go_wp2_with fail
                refine wp_region_held_drew (S := fun w' => w'.rangeAt N 0 [.slice A n c, .slice B m d, .int .i64 p0, .int .i64 p1, .int .i64 p2, .int .i64 p3, .int .i64 p4, .int .i64 p5, .int .i64 p6, .int .i64 p7, .int .i64 p8, .int .i64 p9, .int .i64 p10, .int .i64 p11, .int .i64 p12, .int .i64 p13, .int .i64 p14, .int .i64 p15, .int .i64 p16, .int .i64 p17, .int .i64 p18, .int .i64 p19] ∧ w'.cell? ⟨N, 1, none⟩ = some (.slice (some ⟨b, off, none⟩) m d) ∧ w'.cell? ⟨b, off + k * 4, none⟩ = some (.string y.name) ∧ w'.cell? ⟨b, off + k * 4 + 1, none⟩ = some (.slice C1 s1 d1) ∧ w'.cell? ⟨b, off + k * 4 + 2, none⟩ = some (.slice C2 s2 d2) ∧ w'.cell? ⟨b, off + k * 4 + 3, none⟩ = some (.int .i64 y.ov) ∧ Below wr.heap.size wr w') (by kernel_rfl) (mk _ hbW) (fun hHeld => ?_)
                refine wpAnyH_take (i := 0) (v := .agg #[.slice A n c, .slice B m d, .int .i64 p0, .int .i64 p1, .int .i64 p2, .int .i64 p3, .int .i64 p4, .int .i64 p5, .int .i64 p6, .int .i64 p7, .int .i64 p8, .int .i64 p9, .int .i64 p10, .int .i64 p11, .int .i64 p12, .int .i64 p13, .int .i64 p14, .int .i64 p15, .int .i64 p16, .int .i64 p17, .int .i64 p18, .int .i64 p19]) rfl (by kernel_rfl) (by kernel_rfl) (by kernel_rfl) (fun _ _ _ h => h) (yieldsIf_load_mid (by rfl) 27 (.tmp 1) rfl N 0 rfl [.slice A n c, .slice B m d, .int .i64 p0, .int .i64 p1, .int .i64 p2, .int .i64 p3, .int .i64 p4, .int .i64 p5, .int .i64 p6, .int .i64 p7, .int .i64 p8, .int .i64 p9, .int .i64 p10, .int .i64 p11, .int .i64 p12, .int .i64 p13, .int .i64 p14, .int .i64 p15, .int .i64 p16, .int .i64 p17, .int .i64 p18, .int .i64 p19] _ (fun w h => h.1) Try.underlying27 rfl (by kernel_rfl)) hHeld ?_
                simp only [Act.put]; (try simp only [List.setIfInBounds_toArray, List.set_cons_zero, List.set_cons_succ])
                refine wpAnyH_take (i := 1) (v := ?_) rfl (by kernel_rfl) (by kernel_rfl) (by kernel_rfl) (fun _ _ _ h => h) (Or.inl ⟨by rfl, ?_⟩) hHeld ?_
                rotate_left
                · intro w hSw; (try dsimp only at hSw); go_simp; try with_reducible rfl
                simp only [Act.put]; (try simp only [List.setIfInBounds_toArray, List.set_cons_zero, List.set_cons_succ])
                refine wpAnyH_take (i := 2) (v := ?_) rfl (by kernel_rfl) (by kernel_rfl) (by kernel_rfl) (fun _ _ _ h => h) (Or.inl ⟨by rfl, ?_⟩) hHeld ?_
                rotate_left
                · intro w hSw; (try dsimp only at hSw); go_simp; try with_reducible rfl
                simp only [Act.put]; (try simp only [List.setIfInBounds_toArray, List.set_cons_zero, List.set_cons_succ])
                refine wpAnyH_take (i := 3) (v := ?_) rfl (by kernel_rfl) (by kernel_rfl) (by kernel_rfl) (fun _ _ _ h => h) (Or.inl ⟨by rfl, ?_⟩) hHeld ?_
                rotate_left
                · intro w hSw; (try dsimp only at hSw); go_simp; try with_reducible rfl
                simp only [Act.put]; (try simp only [List.setIfInBounds_toArray, List.set_cons_zero, List.set_cons_succ])
                refine wpAnyH_take (i := 4) (v := ?_) rfl (by kernel_rfl) (by kernel_rfl) (by kernel_rfl) (fun _ _ _ h => h) (Or.inl ⟨by rfl, ?_⟩) hHeld ?_
                rotate_left
                · intro w hSw; (try dsimp only at hSw); go_simp; try with_reducible rfl
                simp only [Act.put]; (try simp only [List.setIfInBounds_toArray, List.set_cons_zero, List.set_cons_succ])
                refine wpAnyH_take (i := 5) (v := ?_) rfl (by kernel_rfl) (by kernel_rfl) (by kernel_rfl) (fun _ _ _ h => h) (Or.inl ⟨by rfl, ?_⟩) hHeld ?_
                rotate_left
                · intro w hSw; (try dsimp only at hSw); go_simp; try with_reducible rfl
                simp only [Act.put]; (try simp only [List.setIfInBounds_toArray, List.set_cons_zero, List.set_cons_succ])
                refine wpAnyH_ready (rs := [6]) (by kernel_rfl) (by simp) ?_
                refine AllReadyH.cons rfl (fun K hK => ?_) AllReadyH.nil
                obtain ⟨q1, q2, q3, q4, q5, q6, q7⟩ := hHeld
                go_simp
                refine (HC2.out _ q7).mono ?_
                rintro e w6 ⟨rfl, hb6⟩
                have hq6 := below_self q7 hb6
                refine hK.out _ _ (mk _ hq6) (fun hHeld => ?_)
                clear hK K q1 q2 q3 q4 q5 q6 q7 hb6
                (try simp only [Act.put]; (try simp only [List.setIfInBounds_toArray, List.set_cons_zero, List.set_cons_succ]))
                refine wpAnyH_take (i := 7) (v := ?_) rfl (by kernel_rfl) (by kernel_rfl) (by kernel_rfl) (fun _ _ _ h => h) (Or.inl ⟨by rfl, ?_⟩) hHeld ?_
                rotate_left
                · intro w hSw; (try dsimp only at hSw); go_simp; try with_reducible rfl
                simp only [Act.put]; (try simp only [List.setIfInBounds_toArray, List.set_cons_zero, List.set_cons_succ])
                refine wpAnyH_done (by kernel_rfl) ?_ _
                clear hHeld mk hbW
                have c1 := keep_cell hq6 c1
                have x0 := keep_cell hq6 x0
                clear x1 x2 x3
                go_wp2_with fail
                have HSX := Lib.hid ((HS3.out.below HBR.out).below hq6)
                have HQ6 := Lib.hid hq6
                clear hq6
                go_loopw [4] (fun i wx => ∃ j : Nat, j ≤ k ∧ i = .int .i64 (j : Int) ∧ Hid (∀ j' (hj : j' < ss.length), j' < j → (ss[j'].name.toList == y.name.toList) = false) ∧ Hid (Below w6.heap.size w6 wx)) (fun i _ => k - (intOf i).toNat)
                case atStart => exact ⟨0, Nat.zero_le _, rfl, HI0, Lib.hid (Below.refl _ _)⟩
                case round =>
                  obtain ⟨j, hj, rfl, HJ, HBX⟩ := hrel
                  by_cases hjk : j < k
                  · have hjl : j < ss.length := by omega
                    obtain ⟨b2, off2, _, _, _, _, hA2, hb2, v0, _, _, _, _⟩ := (HSX.out.below HBX.out).at hjl
                    rw [HBE.out] at hA2
                    injection hA2 with hA2
                    injection hA2 with e1 e2
                    subst e1 e2
                    have u0 := keep_cell HBX.out x0
                    have u1 := keep_cell HBX.out c1
                    obtain ⟨x, hx⟩ : ∃ x, ss[j] = x := ⟨_, rfl⟩
                    rw [hx] at v0
                    cases he : (x.name.toList == y.name.toList) with
                    | true =>
                      have HX := Lib.hid (show F = false by rw [← HF2.out]; exact sts_false hkl (by rw [HSK.out, anyS_true hjl hjk (by rw [hx]; exact he)]; rfl))
                      clear hx hb2
                      go_wp2_with fail
                      go_quiet (fail)
                      go_wp2
                      go_ret
                      exact ⟨ret_bool HX.out.symm, hN ▸ below_self (below_self (below_self (below_self HB3.out HBR.out) HQ6.out) HBX.out) (below_drewN _ _)⟩
                    | false =>
                      have HJ2 : Hid (∀ j' (hj : j' < ss.length), j' < j + 1 → (ss[j'].name.toList == y.name.toList) = false) := Lib.hid fun j' hj' h => by
                        rcases Nat.lt_succ_iff_lt_or_eq.1 h with h' | rfl
                        · exact HJ.out j' hj' h'
                        · rw [hx]; exact he
                      clear hx hb2
                      go_wp2_with fail
                      go_quiet (fail)
                      go_wp2
                      go_roundw
                      case rel => exact ⟨j + 1, by omega, by go_num, HJ2, Lib.hid (below_self HBX.out (below_drewN _ _))⟩
                      case measure => simp [intOf]; omega
                  · have hjk2 : j = k := by omega
                    have HK2 : Hid (∀ j', j' < k + 1 → stOK gs ss j' = true) := Lib.hid fun j' h => by
                      rcases Nat.lt_succ_iff_lt_or_eq.1 h with h' | rfl
                      · exact HK.out j' h'
                      · rw [HSK.out, anyS_false (by omega) fun i hi h => HJ.out i hi (by omega)]; rfl
                    obtain rfl : k = j := hjk2.symm
                    go_wp2
                    go_roundw
                    case rel => exact ⟨k + 1, by omega, by go_num, HK2, Lib.hid (below_self (below_self HBR.out HQ6.out) HBX.out)⟩
                    case measure => simp [intOf]; omega
            · have HX : Hid (F = true) := Lib.hid (HF2.out ▸ sts_true fun j hj => HK.out j (by have := HM.out; omega))
              go_wp2_with fail
              go_ret
              exact ⟨ret_bool HX.out.symm, hN ▸ below_self HB3.out HBR.out⟩
    · have h2i : (40 : Int) < (m : Int) := by omega
      have HX : Hid (F = false) := Lib.hid (by rw [← HF.out]; simp [← HN.out, ← HM.out, h2])
      clear h1 h2 HF
      go_wp2_with fail
      go_ret
      exact ⟨ret_bool HX.out.symm, hN ▸ HB.out⟩
  · have h1i : (400 : Int) < (n : Int) := by omega
    have HX : Hid (F = false) := Lib.hid (by rw [← HF.out]; simp [← HN.out, h1])
    clear h1 HF
    go_wp2_with fail
    go_ret
    exact ⟨ret_bool HX.out.symm, hN ▸ HB.out⟩
end Go.Proofs.Ytjhpajdkklklhaa.Fon
