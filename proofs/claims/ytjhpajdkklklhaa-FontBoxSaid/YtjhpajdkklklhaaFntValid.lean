/- The program's package font: validStretches, Valid. -/
import Derived.Test.YtjhpajdkklklhaaFntParts
namespace Go.Proofs.Ytjhpajdkklklhaa.Fon
open Go Go.RowKit Go.Maps Go.ChangeMaps Go.WideMaps By

def StWf (s : St) : Prop := s.name.size ≤ 9223372036854775807 ∧ s.sizes.length ≤ 9223372036854775807 ∧ s.parts.length ≤ 9223372036854775807 ∧ (∀ x ∈ s.sizes, x.size ≤ 9223372036854775807) ∧ ∀ p ∈ s.parts, p.name.size ≤ 9223372036854775807
set_option maxRecDepth 100000 in
set_option maxHeartbeats 4000000 in
theorem stretches_any {w : World} {X : Nat} {gs : List Gl} {ss : List St} {A : Option Addr} {n c : Nat} (h : Looks w X gs) (hd : Dif gs) (hn : n = ss.length) (hl : ss.length ≤ 9223372036854775807) (hg : StsAt w w.heap.size A ss) (hs : ∀ s ∈ ss, StWf s) :
    Calls Try.prog 29 #[.slice A n c, .func (.func 28) #[] #[.pointer (some ⟨X, 0, none⟩)]] w fun e w' => e = .returned (.bool (decide (ss.length ≤ 40) && stretchesB gs ss)) ∧ Below w.heap.size w w' := by
  obtain ⟨F, hF⟩ : ∃ F, (decide (ss.length ≤ 40) && stretchesB gs ss) = F := ⟨_, rfl⟩
  have HF := Lib.hid hF
  rw [hF]
  have HN := Lib.hid hn
  have HG := Lib.hid hg
  have HSZ := Lib.hid hs
  have HLK := Lib.hid h
  have HD := Lib.hid hd
  have hn1 : (n : Int) ≤ 9223372036854775807 := by omega
  by_cases h40 : n ≤ 40
  rotate_left
  · have h4i : (40 : Int) < (n : Int) := by omega
    have HX : Hid (F = false) := Lib.hid (by rw [← HF.out, decide_eq_false (by omega)]; rfl)
    clear hF hn hl hg hs h40 h hd
    go_enter Try.func29, Try.ntmps29
    go_wp2_with fail
    go_ret
    exact ⟨ret_bool HX.out.symm, Below.refl _ _⟩
  have h4i : ¬ (40 : Int) < (n : Int) := by omega
  have hF2 : stretchesB gs ss = F := by rw [← hF, decide_eq_true (by omega), Bool.true_and]
  have HF2 := Lib.hid hF2
  have hmm := run_makeMap_n Try.underlying81 n w
  obtain ⟨M, hM⟩ : ∃ M, w.heap.size = M := ⟨_, rfl⟩
  obtain ⟨W1, hW1⟩ : ∃ W1, w.alloc (.map #[] 0) = W1 := ⟨_, rfl⟩
  have HO0 : Hid (NMap W1 M 0 (ss.take 0)) := Lib.hid (by rw [← hW1, ← hM]; exact World.ownsMap_made _ _ _ _)
  have HB0 : Hid (Below w.heap.size w W1) := Lib.hid (by rw [← hW1]; exact below_new _ _)
  rw [hM, hW1] at hmm
  have HMW : Hid (w.heap.size ≤ M) := Lib.hid (Nat.le_of_eq hM)
  have H0 : Hid (∀ j, j < 0 → stOK gs ss j = true) := Lib.hid fun j h => by omega
  have h4n : n ≤ 40 := h40
  clear hF hn hl hg hs h40 hF2 hW1 hM h hd
  go_enter Try.func29, Try.ntmps29
  go_wp2_with fail
  go_loopw [16] (fun i wr => ∃ k : Nat, k ≤ n ∧ i = .int .i64 k ∧ Hid (∀ j, j < k → stOK gs ss j = true) ∧ Hid (NMap wr M k (ss.take k)) ∧ Hid (Below w.heap.size w wr)) (fun i _ => n - (intOf i).toNat)
  case atStart => exact ⟨0, Nat.zero_le _, rfl, H0, HO0, HB0⟩
  case round =>
    obtain ⟨k, hk, rfl, HK, HOW, HBR⟩ := hrel
    by_cases hlt : k < n
    · have hkl : k < ss.length := by rw [← HN.out]; exact hlt
      have HKL := Lib.hid hkl
      obtain ⟨b, off, C1, e1, C2, e2, rfl, hb, x0, x1, x2, x3, hin⟩ := (HG.out.below HBR.out).at hkl
      have hok := stOK_of (gs := gs) hkl
      have hys := HSZ.out _ (List.getElem_mem hkl)
      obtain ⟨y, hy⟩ : ∃ y, ss[k]'hkl = y := ⟨_, rfl⟩
      rw [hy] at x0 x1 x2 x3 hok hys hin
      have HY : Hid (ss[k]'HKL.out = y) := Lib.hid hy
      have HFA : Hid (stOK gs ss k = false → F = false) := Lib.hid fun h => HF2.out ▸ sts_false hkl h
      obtain ⟨tk, htk⟩ : ∃ tk, ((ss.take k).any fun x => x.name.toList == y.name.toList) = tk := ⟨_, rfl⟩
      rw [htk, stretch_split] at hok
      have hbn := below_new wr (.cells #[.string y.name, .slice C1 y.sizes.length e1, .slice C2 y.parts.length e2, .int .i64 y.ov] 37)
      have hlk := NMap.look (ownsMap_below HOW.out hbn : NMap _ M k (ss.take k)) hys.1
      rw [htk] at hlk
      obtain ⟨n1, hn1'⟩ : ∃ b, nameB y.name = b := ⟨_, rfl⟩
      obtain ⟨s1, hs1⟩ : ∃ b, (decide (1 ≤ y.sizes.length) && decide (y.sizes.length ≤ 16) && sizesB gs y.sizes) = b := ⟨_, rfl⟩
      obtain ⟨p1, hp1⟩ : ∃ b, partsB gs y = b := ⟨_, rfl⟩
      have HKEY := Lib.hid (kl_of hys.1)
      have HBN := Lib.hid (below_self HBR.out hbn)
      obtain ⟨lz, hlz⟩ : ∃ l, y.sizes.length = l := ⟨_, rfl⟩
      obtain ⟨lp, hlp⟩ : ∃ l, y.parts.length = l := ⟨_, rfl⟩
      have HCN : Hid (∀ w, Calls Try.prog 46 #[.string y.name] w fun e w' => e = .returned (.bool n1) ∧ w' = w) := Lib.hid fun w => hn1' ▸ name_any y.name w hys.1
      have HCS : Hid (∀ W, Below wr.heap.size wr W → Calls Try.prog 47 #[.slice C1 lz e1, .func (.func 28) #[] #[.pointer (some ⟨X, 0, none⟩)]] W fun e w' => e = .returned (.bool s1) ∧ w' = W) := Lib.hid fun W hbW => hs1 ▸ sizes_any ((HLK.out.below HBR.out).below hbW) HD.out hlz.symm hys.2.1 (hin.below hbW).1 hys.2.2.2.1
      have HCP : Hid (∀ W, Below wr.heap.size wr W → Calls Try.prog 48 #[.agg #[.string y.name, .slice C1 lz e1, .slice C2 lp e2, .int .i64 y.ov], .func (.func 28) #[] #[.pointer (some ⟨X, 0, none⟩)]] W fun e w' => e = .returned (.bool p1) ∧ Below W.heap.size W w') := Lib.hid fun W hbW => hp1 ▸ hlz ▸ hlp ▸ parts_any ((HLK.out.below HBR.out).below hbW) HD.out hys.2.2.1 (hin.below hbW) hys.2.2.2.2
      have HOK : Hid (stOK gs ss k = ((n1 && s1 && p1) && !tk)) := Lib.hid (by rw [hok, hn1', hs1, hp1])
      rw [hlz] at x1 hlk
      rw [hlp] at x2 hlk
      have HBW := Lib.hid hbn
      rw [hlz, hlp] at HBW
      have HOW2 : Hid (NMap (wr.alloc (.cells #[.string y.name, .slice C1 lz e1, .slice C2 lp e2, .int .i64 y.ov] 37)) M k (ss.take k)) := Lib.hid (ownsMap_below HOW.out HBW.out)
      clear hok hys hy hb htk hn1' hs1 hp1 hkl hin hbn hlz hlp
      cases tk with
      | true =>
        have HX := Lib.hid (HFA.out (by rw [HOK.out]; simp))
        go_wp2_with fail
        go_ret
        exact ⟨ret_bool HX.out.symm, below_self HBR.out HBW.out⟩
      | false =>
        cases n1 with
        | false =>
          have HX := Lib.hid (HFA.out (by rw [HOK.out]; rfl))
          go_wp2_with (first
            | (go_at_call 46; refine (HCN.out _).mono ?_; rintro e w' ⟨rfl, rfl⟩)
            | fail)
          go_ret
          exact ⟨ret_bool HX.out.symm, below_self HBR.out HBW.out⟩
        | true =>
          cases s1 with
          | false =>
            have HX := Lib.hid (HFA.out (by rw [HOK.out]; rfl))
            go_wp2_with (first
              | (go_at_call 46; refine (HCN.out _).mono ?_; rintro e w' ⟨rfl, rfl⟩)
              | (go_at_call 47; refine (HCS.out _ HBW.out).mono ?_; rintro e w' ⟨rfl, rfl⟩)
              | fail)
            go_ret
            exact ⟨ret_bool HX.out.symm, below_self HBR.out HBW.out⟩
          | true =>
            cases p1 with
            | false =>
              have HX := Lib.hid (HFA.out (by rw [HOK.out]; rfl))
              go_wp2_with (first
                | (go_at_call 46; refine (HCN.out _).mono ?_; rintro e w' ⟨rfl, rfl⟩)
                | (go_at_call 47; refine (HCS.out _ HBW.out).mono ?_; rintro e w' ⟨rfl, rfl⟩)
                | (go_at_call 48; refine (HCP.out _ HBW.out).mono ?_; rintro e w6 ⟨rfl, hb6⟩
                   have HB6 := Lib.hid (below_self (below_self HBR.out HBW.out) hb6)
                   clear hb6)
                | fail)
              go_ret
              exact ⟨ret_bool HX.out.symm, HB6.out⟩
            | true =>
              have HK2 : Hid (∀ j, j < k + 1 → stOK gs ss j = true) := Lib.hid fun j h => by
                rcases Nat.lt_succ_iff_lt_or_eq.1 h with h' | rfl
                · exact HK.out j h'
                · rw [HOK.out]; rfl
              have HKM : Hid (k < maxLen) := Lib.hid (by unfold maxLen; omega)
              go_wp2_with (first
                | (go_at_call 46; refine (HCN.out _).mono ?_; rintro e w' ⟨rfl, rfl⟩)
                | (go_at_call 47; refine (HCS.out _ HBW.out).mono ?_; rintro e w' ⟨rfl, rfl⟩)
                | (go_at_call 48; refine (HCP.out _ HBW.out).mono ?_; rintro e w6 ⟨rfl, hb6⟩
                   have HB6 := Lib.hid (below_self (below_self HBR.out HBW.out) hb6)
                   have HO6 : Hid (NMap w6 M k (ss.take k)) := Lib.hid (ownsMap_below HOW2.out hb6)
                   obtain ⟨XX, hXX⟩ : ∃ XX, wr.heap.size = XX := ⟨_, rfl⟩
                   have hz := keep_cell hb6 (new_cell hXX #[.string y.name, .slice C1 lz e1, .slice C2 lp e2, .int .i64 y.ov] 37 0 rfl)
                   rw [← hXX] at hz
                   clear hb6 hXX)
                | (at_mapUpdate; refine wpList_mapUpdate_own _ rfl _ _ _ 81 rfl 9 4 keyS Try.underlying81 _ M k _ rfl HO6.out HKM.out _ _ _ rfl rfl HKEY.out _ [] (plainElem_bool Try.underlying4 true) ?_
                   intro w7 hown7 hgr7
                   have HO7 : Hid (NMap w7 M (k + 1) (ss.take (k + 1))) := Lib.hid (by unfold NMap; rw [nmD_snoc HKL.out, HY.out]; exact hown7)
                   have HB7 : Hid (Below w.heap.size w w7) := Lib.hid (HB6.out.grown hgr7 HB6.out.size (fun j hj => by cases hj; exact HMW.out))
                   clear hown7 hgr7)
                | fail)
              go_roundw
              case rel => exact ⟨k + 1, by omega, by go_num, HK2, HO7, HB7⟩
              case measure => simp [intOf]; omega
    · have HX : Hid (F = true) := Lib.hid (HF2.out ▸ sts_true fun j hj => HK.out j (by have := HN.out; omega))
      go_wp2_with fail
      go_ret
      exact ⟨ret_bool HX.out.symm, HBR.out⟩
theorem valid_split (gs : List Gl) (ss : List St) (ps : List Int) : validB gs ss ps = ((decide (gs.length ≤ 400) && glyphsB gs) && (decide (ss.length ≤ 40) && stretchesB gs ss) && paramsB ps) := by
  unfold validB
  generalize decide (gs.length ≤ 400) = a
  generalize decide (ss.length ≤ 40) = b
  generalize paramsB ps = c
  generalize glyphsB gs = d
  generalize stretchesB gs ss = e
  cases a <;> cases b <;> cases c <;> cases d <;> cases e <;> rfl
set_option maxRecDepth 100000 in
set_option maxHeartbeats 4000000 in
theorem valid_any {w : World} {A B : Option Addr} {n c m d : Nat} {p0 p1 p2 p3 p4 p5 p6 p7 p8 p9 p10 p11 p12 p13 p14 p15 p16 p17 p18 p19 : Int} {gs : List Gl} {ss : List St} (hn : n = gs.length) (hm : m = ss.length) (hl : gs.length ≤ 9223372036854775807) (hl2 : ss.length ≤ 9223372036854775807)
    (hg : GlsAt w w.heap.size A gs) (hs : StsAt w w.heap.size B ss) (hgn : ∀ g ∈ gs, g.name.size ≤ 9223372036854775807) (hsn : ∀ s ∈ ss, StWf s) :
    Calls Try.prog 12 #[.agg #[.slice A n c, .slice B m d, .int .i64 p0, .int .i64 p1, .int .i64 p2, .int .i64 p3, .int .i64 p4, .int .i64 p5, .int .i64 p6, .int .i64 p7, .int .i64 p8, .int .i64 p9, .int .i64 p10, .int .i64 p11, .int .i64 p12, .int .i64 p13, .int .i64 p14, .int .i64 p15, .int .i64 p16, .int .i64 p17, .int .i64 p18, .int .i64 p19]] w fun e w' => e = .returned (.bool (validB gs ss [p0, p1, p2, p3, p4, p5, p6, p7, p8, p9, p10, p11, p12, p13, p14, p15, p16, p17, p18, p19])) ∧ Below w.heap.size w w' := by
  rw [valid_split]
  obtain ⟨F1, hF1⟩ : ∃ F, (decide (gs.length ≤ 400) && glyphsB gs) = F := ⟨_, rfl⟩
  obtain ⟨F2, hF2⟩ : ∃ F, (decide (ss.length ≤ 40) && stretchesB gs ss) = F := ⟨_, rfl⟩
  obtain ⟨F3, hF3⟩ : ∃ F, paramsB [p0, p1, p2, p3, p4, p5, p6, p7, p8, p9, p10, p11, p12, p13, p14, p15, p16, p17, p18, p19] = F := ⟨_, rfl⟩
  rw [hF1, hF2, hF3]
  obtain ⟨N, hN⟩ : ∃ N, w.heap.size = N := ⟨_, rfl⟩
  obtain ⟨W1, hW1⟩ : ∃ W', w.alloc (.cells #[.slice A n c, .slice B m d, .int .i64 p0, .int .i64 p1, .int .i64 p2, .int .i64 p3, .int .i64 p4, .int .i64 p5, .int .i64 p6, .int .i64 p7, .int .i64 p8, .int .i64 p9, .int .i64 p10, .int .i64 p11, .int .i64 p12, .int .i64 p13, .int .i64 p14, .int .i64 p15, .int .i64 p16, .int .i64 p17, .int .i64 p18, .int .i64 p19] 27) = W' := ⟨_, rfl⟩
  have hb1 : Below w.heap.size w W1 := by rw [← hW1]; exact below_new _ _
  have c0 : W1.cell? ⟨N, 0, none⟩ = some (.slice A n c) := by rw [← hW1]; exact new_cell hN _ _ 0 rfl
  have c1 : W1.cell? ⟨N, 1, none⟩ = some (.slice B m d) := by rw [← hW1]; exact new_cell hN _ _ 1 rfl
  have HR : Hid (W1.rangeAt N 2 [.int .i64 p0, .int .i64 p1, .int .i64 p2, .int .i64 p3, .int .i64 p4, .int .i64 p5, .int .i64 p6, .int .i64 p7, .int .i64 p8, .int .i64 p9, .int .i64 p10, .int .i64 p11, .int .i64 p12, .int .i64 p13, .int .i64 p14, .int .i64 p15, .int .i64 p16, .int .i64 p17, .int .i64 p18, .int .i64 p19]) := Lib.hid (range_tail (x := .slice A n c) (y := .slice B m d) (by rw [← hW1]; exact range_new hN _ _))
  have HB1 := Lib.hid hb1
  have HW := Lib.hid hW1
  have HH := Lib.hid (heights_let (c := c) hF1 hn hl (hg.below hb1) hgn)
  have HPC : Hid (∀ w, Calls Try.prog 30 #[.agg #[.int .i64 p0, .int .i64 p1, .int .i64 p2, .int .i64 p3, .int .i64 p4, .int .i64 p5, .int .i64 p6, .int .i64 p7, .int .i64 p8, .int .i64 p9, .int .i64 p10, .int .i64 p11, .int .i64 p12, .int .i64 p13, .int .i64 p14, .int .i64 p15, .int .i64 p16, .int .i64 p17, .int .i64 p18, .int .i64 p19]] w fun e w' => e = .returned (.bool F3) ∧ Below w.heap.size w w') := Lib.hid fun w => hF3 ▸ params_any w
  have HSC : Hid (∀ W X, Below W1.heap.size W1 W → Looks W X gs → Dif gs → Calls Try.prog 29 #[.slice B m d, .func (.func 28) #[] #[.pointer (some ⟨X, 0, none⟩)]] W fun e w' => e = .returned (.bool F2) ∧ Below W.heap.size W w') := Lib.hid fun W X hb hL hD => hF2 ▸ stretches_any hL hD hm hl2 ((hs.below hb1).below hb) hsn
  have HD : Hid (F1 = true → Dif gs) := Lib.hid fun h => by
    rw [h] at hF1
    exact dif_of (by simp only [Bool.and_eq_true] at hF1; exact hF1.2)
  clear hF1 hF2 hF3 hn hm hl hl2 hg hs hgn hsn hb1 hW1
  cases F1 with
  | false =>
    go_enter Try.func12, Try.ntmps12
    go_wp2_with (first
      | (go_at_call 27; rw [HW.out]; refine HH.out.mono ?_; rintro e w2 h
         obtain ⟨rfl, hb2⟩ : e = .returned (.tuple #[.map none, .bool false]) ∧ Below W1.heap.size W1 w2 := by
           rcases h with ⟨_, h1, h2⟩ | ⟨h1, _⟩
           · exact ⟨h1, h2⟩
           · cases h1
         have HB2 := Lib.hid (below_self HB1.out hb2)
         clear hb2 h)
      | fail)
    go_ret
    exact ⟨by simp, hN ▸ below_self HB2.out (below_new _ _)⟩
  | true =>
    have HD2 : Hid (Dif gs) := Lib.hid (HD.out rfl)
    clear HD
    cases F2 with
    | false =>
      go_enter Try.func12, Try.ntmps12
      go_wp2_with (first
        | (go_at_call 27; rw [HW.out]; refine HH.out.mono ?_; rintro e w2 h
           obtain ⟨bb, rfl, hmap, hb2⟩ : ∃ b, e = .returned (.tuple #[.map (some b), .bool true]) ∧ HMap w2 b gs ∧ Below W1.heap.size W1 w2 := by
             rcases h with ⟨h1, _⟩ | ⟨_, h2⟩
             · cases h1
             · exact h2
           have hbn := below_new w2 (.cells #[.map (some bb)] 61)
           have hb3 := below_self hb2 hbn
           have z1 := keep_cell hb3 c1
           have HLK : Hid (Looks (w2.alloc (.cells #[.map (some bb)] 61)) w2.heap.size gs) := Lib.hid ⟨bb, new_cell rfl _ _ 0 rfl, hmap.below hbn⟩
           have HB3 := Lib.hid hb3
           clear hb2 h hmap hbn hb3)
        | (go_at_call 29; refine (HSC.out _ _ HB3.out HLK.out HD2.out).mono ?_; rintro e w4 ⟨rfl, hb4⟩
           have HB4 := Lib.hid (below_self (below_self HB1.out HB3.out) hb4)
           clear hb4)
        | fail)
      go_ret
      exact ⟨by simp, hN ▸ HB4.out⟩
    | true =>
      go_enter Try.func12, Try.ntmps12
      go_wp2_with (first
        | (go_at_call 27; rw [HW.out]; refine HH.out.mono ?_; rintro e w2 h
           obtain ⟨bb, rfl, hmap, hb2⟩ : ∃ b, e = .returned (.tuple #[.map (some b), .bool true]) ∧ HMap w2 b gs ∧ Below W1.heap.size W1 w2 := by
             rcases h with ⟨h1, _⟩ | ⟨_, h2⟩
             · cases h1
             · exact h2
           have hbn := below_new w2 (.cells #[.map (some bb)] 61)
           have hb3 := below_self hb2 hbn
           have z1 := keep_cell hb3 c1
           have HLK : Hid (Looks (w2.alloc (.cells #[.map (some bb)] 61)) w2.heap.size gs) := Lib.hid ⟨bb, new_cell rfl _ _ 0 rfl, hmap.below hbn⟩
           have HB3 := Lib.hid hb3
           clear hb2 h hmap hbn hb3)
        | (go_at_call 29; refine (HSC.out _ _ HB3.out HLK.out HD2.out).mono ?_; rintro e w4 ⟨rfl, hb4⟩
           have HB4 := Lib.hid (below_self (below_self HB1.out HB3.out) hb4)
           have HR4 := Lib.hid (range_below HR.out (below_self HB3.out hb4))
           clear hb4)
        | (refine wpList_load_by true rfl (by rfl) rfl 25 (.tmp 20) rfl N 2 rfl [.int .i64 p0, .int .i64 p1, .int .i64 p2, .int .i64 p3, .int .i64 p4, .int .i64 p5, .int .i64 p6, .int .i64 p7, .int .i64 p8, .int .i64 p9, .int .i64 p10, .int .i64 p11, .int .i64 p12, .int .i64 p13, .int .i64 p14, .int .i64 p15, .int .i64 p16, .int .i64 p17, .int .i64 p18, .int .i64 p19] _ HR4.out Try.underlying25 rfl (by kernel_rfl) ?_)
        | (go_at_call 30; refine (HPC.out _).mono ?_; rintro e w5 ⟨rfl, hb5⟩
           have HB5 := Lib.hid (below_self HB4.out hb5)
           clear hb5)
        | fail)
      go_ret
      exact ⟨by simp, hN ▸ HB5.out⟩
end Go.Proofs.Ytjhpajdkklklhaa.Fon
