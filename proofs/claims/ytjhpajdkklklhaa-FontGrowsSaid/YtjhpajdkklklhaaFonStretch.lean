/- The reference of layer 5: stretch. (Written by wip/tools/genstretch.py.) -/
import Derived.Test.YtjhpajdkklklhaaFonGlyphs
namespace Go.Proofs.Ytjhpajdkklklhaa.Fon
open Go Go.RowKit By

theorem szOK_false {gs : List Gl} {l : List ByteArray} {k : Nat} (h : k < l.length) (hf : szOK gs l k = false) : sizesB gs l = false := by
  unfold sizesB
  rw [List.all_eq_false]
  exact ⟨k, List.mem_range.2 h, by rw [hf]; decide⟩
theorem szOK_true {gs : List Gl} {l : List ByteArray} (h : ∀ k, k < l.length → szOK gs l k = true) : sizesB gs l = true := by
  unfold sizesB
  rw [List.all_eq_true]
  exact fun k hk => h k (List.mem_range.1 hk)
theorem nth_at {l : List ByteArray} {k : Nat} (h : k < l.length) : nth l k = l[k] := by unfold nth; rw [List.getElem?_eq_getElem h]; rfl
theorem hgt_of {gs : List Gl} {x : ByteArray} {g : Gl} (h : findG gs x = some g) : hgt gs x = height g := by unfold hgt; rw [h]
theorem find_mem {gs : List Gl} {x : ByteArray} {g : Gl} (h : findG gs x = some g) : g ∈ gs := List.mem_of_find?_eq_some h
theorem hgt_bd {g : Gl} (h : metP g) : -40000 ≤ height g ∧ height g ≤ 40000 := by
  obtain ⟨_, ⟨h1, h2⟩, ⟨h3, h4⟩, _⟩ := h
  unfold height
  omega
theorem load_font {A B : Option Addr} {n c m d N : Nat} {p0 p1 p2 p3 p4 p5 p6 p7 p8 p9 p10 p11 p12 p13 p14 p15 p16 p17 p18 p19 : Int} : ∀ W : World, W.rangeAt N 0 [.slice A n c, .slice B m d, .int .i64 p0, .int .i64 p1, .int .i64 p2, .int .i64 p3, .int .i64 p4, .int .i64 p5, .int .i64 p6, .int .i64 p7, .int .i64 p8, .int .i64 p9, .int .i64 p10, .int .i64 p11, .int .i64 p12, .int .i64 p13, .int .i64 p14, .int .i64 p15, .int .i64 p16, .int .i64 p17, .int .i64 p18, .int .i64 p19] → (Instr.loadAt 27 (.pointer (some ⟨N, 0, none⟩))).run Try.prog W = .ok (.agg #[.slice A n c, .slice B m d, .int .i64 p0, .int .i64 p1, .int .i64 p2, .int .i64 p3, .int .i64 p4, .int .i64 p5, .int .i64 p6, .int .i64 p7, .int .i64 p8, .int .i64 p9, .int .i64 p10, .int .i64 p11, .int .i64 p12, .int .i64 p13, .int .i64 p14, .int .i64 p15, .int .i64 p16, .int .i64 p17, .int .i64 p18, .int .i64 p19]) W :=
  fun W h => run_loadAt_mid W N 0 27 [.slice A n c, .slice B m d, .int .i64 p0, .int .i64 p1, .int .i64 p2, .int .i64 p3, .int .i64 p4, .int .i64 p5, .int .i64 p6, .int .i64 p7, .int .i64 p8, .int .i64 p9, .int .i64 p10, .int .i64 p11, .int .i64 p12, .int .i64 p13, .int .i64 p14, .int .i64 p15, .int .i64 p16, .int .i64 p17, .int .i64 p18, .int .i64 p19] _ h Try.underlying27 rfl (by kernel_rfl)
theorem szOK_of {gs : List Gl} {l : List ByteArray} {k : Nat} (h : (findG gs (nth l k)).isSome = true) (h2 : k = 0 ∨ hgt gs (nth l (k - 1)) < hgt gs (nth l k)) : szOK gs l k = true := by
  unfold szOK
  rw [h]
  rcases h2 with rfl | h2
  · rfl
  · simp [h2]
theorem szOK_no {gs : List Gl} {l : List ByteArray} {k : Nat} (h : 0 < k) (h2 : hgt gs (nth l k) ≤ hgt gs (nth l (k - 1))) : szOK gs l k = false := by
  unfold szOK
  rw [decide_eq_false (show ¬ k = 0 by omega), decide_eq_false (show ¬ hgt gs (nth l (k - 1)) < hgt gs (nth l k) by omega)]
  simp
theorem paOK_of {gs : List Gl} {ov : Int} {p : Pa} (h : (findG gs p.name).isSome = true) (h2 : ov < hgt gs p.name) : paOK gs ov p = true := by unfold paOK; rw [h, decide_eq_true h2]; rfl
theorem paOK_no {gs : List Gl} {ov : Int} {p : Pa} (h2 : hgt gs p.name ≤ ov) : paOK gs ov p = false := by unfold paOK; rw [decide_eq_false (show ¬ ov < hgt gs p.name by omega), Bool.and_false]
theorem all_no {l : List Pa} {f : Pa → Bool} {k : Nat} (hk : k < l.length) (h : f l[k] = false) : l.all f = false := by
  rw [List.all_eq_false]
  exact ⟨l[k], List.getElem_mem hk, by rw [h]; decide⟩
theorem all_yes {l : List Pa} {f : Pa → Bool} (h : ∀ j (hj : j < l.length), f l[j] = true) : l.all f = true := by
  rw [List.all_eq_true]
  intro x hx
  obtain ⟨j, hj, rfl⟩ := List.getElem_of_mem hx
  exact h j hj
theorem any_next {l : List Pa} {f : Pa → Bool} {k : Nat} (hk : k < l.length) : (l.take (k + 1)).any f = ((l.take k).any f || f l[k]) := by
  rw [List.take_succ_eq_append_getElem hk, List.any_append]
  simp
/-- a block of six cells that may be written -/
def Six (W : World) (B : Nat) (v0 v1 v2 v3 v4 v5 : Value) : Prop :=
  (W.cell? ⟨B, 0, none⟩ = some v0 ∧ W.cell? ⟨B, 1, none⟩ = some v1 ∧ W.cell? ⟨B, 2, none⟩ = some v2 ∧ W.cell? ⟨B, 3, none⟩ = some v3 ∧ W.cell? ⟨B, 4, none⟩ = some v4 ∧ W.cell? ⟨B, 5, none⟩ = some v5) ∧
    (W.frozen? ⟨B, 0, none⟩ = false ∧ W.frozen? ⟨B, 1, none⟩ = false ∧ W.frozen? ⟨B, 2, none⟩ = false ∧ W.frozen? ⟨B, 3, none⟩ = false ∧ W.frozen? ⟨B, 4, none⟩ = false ∧ W.frozen? ⟨B, 5, none⟩ = false)
theorem six_new {w : World} {n : Nat} (hn : w.heap.size = n) (v0 v1 v2 v3 v4 v5 : Value) (ty : TypeId) : Six (w.alloc (.cells #[v0, v1, v2, v3, v4, v5] ty)) n v0 v1 v2 v3 v4 v5 :=
  ⟨⟨new_cell hn _ _ 0 rfl, new_cell hn _ _ 1 rfl, new_cell hn _ _ 2 rfl, new_cell hn _ _ 3 rfl, new_cell hn _ _ 4 rfl, new_cell hn _ _ 5 rfl⟩, new_frozen hn _ _ 0, new_frozen hn _ _ 1, new_frozen hn _ _ 2, new_frozen hn _ _ 3, new_frozen hn _ _ 4, new_frozen hn _ _ 5⟩
theorem Six.below {w w' : World} {B : Nat} {v0 v1 v2 v3 v4 v5 : Value} (h : Six w B v0 v1 v2 v3 v4 v5) (hb : Below w.heap.size w w') : Six w' B v0 v1 v2 v3 v4 v5 := by
  have hB := World.block_lt_of_cell? _ _ h.1.1
  have f : ∀ {o : Nat}, w.frozen? ⟨B, o, none⟩ = false → w'.frozen? ⟨B, o, none⟩ = false := fun {o} h => (hb.frozen (p := ⟨B, o, none⟩) hB).trans h
  obtain ⟨⟨h0, h1, h2, h3, h4, h5⟩, g0, g1, g2, g3, g4, g5⟩ := h
  exact ⟨⟨keep_cell hb h0, keep_cell hb h1, keep_cell hb h2, keep_cell hb h3, keep_cell hb h4, keep_cell hb h5⟩, f g0, f g1, f g2, f g3, f g4, f g5⟩
set_option maxRecDepth 100000 in
set_option maxHeartbeats 8000000 in
theorem rstretchB_any {w : World} {A B : Option Addr} {n c m d : Nat} {p0 p1 p2 p3 p4 p5 p6 p7 p8 p9 p10 p11 p12 p13 p14 p15 p16 p17 p18 p19 : Int} {gs : List Gl} {s : St} {C1 C2 : Option Addr} {e1 e2 : Nat} (hn : n = gs.length) (hl : gs.length ≤ 500) (hg : GlsAt w w.heap.size A gs) (hm : ∀ g ∈ gs, metP g)
    (hs : StIn w w.heap.size s C1 C2) (hsz : s.name.size ≤ 9223372036854775807) (hl1 : s.sizes.length ≤ 9223372036854775807) (hl2 : s.parts.length ≤ 9223372036854775807) :
    Calls Try.prog 33 #[.agg #[.slice A n c, .slice B m d, .int .i64 p0, .int .i64 p1, .int .i64 p2, .int .i64 p3, .int .i64 p4, .int .i64 p5, .int .i64 p6, .int .i64 p7, .int .i64 p8, .int .i64 p9, .int .i64 p10, .int .i64 p11, .int .i64 p12, .int .i64 p13, .int .i64 p14, .int .i64 p15, .int .i64 p16, .int .i64 p17, .int .i64 p18, .int .i64 p19], .agg #[.string s.name, .slice C1 s.sizes.length e1, .slice C2 s.parts.length e2, .int .i64 s.ov]] w fun e w' => e = .returned (.bool (stretchB gs s)) ∧ Below w.heap.size w w' := by
  obtain ⟨nm, sz, ps, ov⟩ := s
  obtain ⟨F, hF⟩ : ∃ F, stretchB gs ⟨nm, sz, ps, ov⟩ = F := ⟨_, rfl⟩
  rw [hF]
  obtain ⟨hs1, hs2⟩ := hs
  simp only [] at hs1 hs2 hsz hl1 hl2 ⊢
  obtain ⟨ns, hns⟩ : ∃ ns, sz.length = ns := ⟨_, rfl⟩
  obtain ⟨np, hnp⟩ : ∃ np, ps.length = np := ⟨_, rfl⟩
  have HF : Hid ((nameB nm && decide (1 ≤ ns) && decide (ns ≤ 16) && decide (np ≤ 8) && sizesB gs sz && (if np = 0 then ov == 0 else ps.all (paOK gs ov) && (ps.any fun p => p.ext) && decide (0 ≤ ov))) = F) := Lib.hid (by rw [← hF, ← hns, ← hnp]; rfl)
  rw [hns] at hl1 ⊢
  rw [hnp] at hl2 ⊢
  have HNS := Lib.hid hns
  have HNP := Lib.hid hnp
  have HGL := Lib.hid hl
  have HN := Lib.hid hn
  have HM := Lib.hid hm
  have hns1 : (ns : Int) ≤ 9223372036854775807 := by omega
  have hnp1 : (np : Int) ≤ 9223372036854775807 := by omega
  obtain ⟨N, hN⟩ : ∃ N, w.heap.size = N := ⟨_, rfl⟩
  obtain ⟨Wa, hWa⟩ : ∃ W', W' = w.alloc (.cells #[.slice A n c, .slice B m d, .int .i64 p0, .int .i64 p1, .int .i64 p2, .int .i64 p3, .int .i64 p4, .int .i64 p5, .int .i64 p6, .int .i64 p7, .int .i64 p8, .int .i64 p9, .int .i64 p10, .int .i64 p11, .int .i64 p12, .int .i64 p13, .int .i64 p14, .int .i64 p15, .int .i64 p16, .int .i64 p17, .int .i64 p18, .int .i64 p19] 27) := ⟨_, rfl⟩
  obtain ⟨W1, hW1⟩ : ∃ W', W' = Wa.alloc (.cells #[.string nm, .slice C1 ns e1, .slice C2 np e2, .int .i64 ov] 37) := ⟨_, rfl⟩
  have sa : Wa.heap.size = N + 1 := by rw [hWa]; exact size_new hN _
  have ba : Below w.heap.size w Wa := by rw [hWa]; exact below_new _ _
  have bb : Below Wa.heap.size Wa W1 := by rw [hW1]; exact below_new _ _
  have hB1 := below_self ba bb
  have HR : Hid (W1.rangeAt N 0 [.slice A n c, .slice B m d, .int .i64 p0, .int .i64 p1, .int .i64 p2, .int .i64 p3, .int .i64 p4, .int .i64 p5, .int .i64 p6, .int .i64 p7, .int .i64 p8, .int .i64 p9, .int .i64 p10, .int .i64 p11, .int .i64 p12, .int .i64 p13, .int .i64 p14, .int .i64 p15, .int .i64 p16, .int .i64 p17, .int .i64 p18, .int .i64 p19]) := Lib.hid (range_below (by rw [hWa]; exact range_new hN _ _) bb)
  have s0 : W1.cell? ⟨N + 1, 0, none⟩ = some (.string nm) := by rw [hW1]; exact new_cell sa _ _ 0 rfl
  have s1 : W1.cell? ⟨N + 1, 1, none⟩ = some (.slice C1 ns e1) := by rw [hW1]; exact new_cell sa _ _ 1 rfl
  have s2 : W1.cell? ⟨N + 1, 2, none⟩ = some (.slice C2 np e2) := by rw [hW1]; exact new_cell sa _ _ 2 rfl
  have s3 : W1.cell? ⟨N + 1, 3, none⟩ = some (.int .i64 ov) := by rw [hW1]; exact new_cell sa _ _ 3 rfl
  have HW : Hid (W1 = (w.alloc (.cells #[.slice A n c, .slice B m d, .int .i64 p0, .int .i64 p1, .int .i64 p2, .int .i64 p3, .int .i64 p4, .int .i64 p5, .int .i64 p6, .int .i64 p7, .int .i64 p8, .int .i64 p9, .int .i64 p10, .int .i64 p11, .int .i64 p12, .int .i64 p13, .int .i64 p14, .int .i64 p15, .int .i64 p16, .int .i64 p17, .int .i64 p18, .int .i64 p19] 27)).alloc (.cells #[.string nm, .slice C1 ns e1, .slice C2 np e2, .int .i64 ov] 37)) := Lib.hid (by rw [hW1, hWa])
  have HB := Lib.hid hB1
  have HGA := Lib.hid (hg.below hB1)
  have HS1 := Lib.hid (hs1.below hB1)
  have HS2 := Lib.hid (hs2.below hB1)
  clear sa ba bb hB1 hWa hW1 hg hs1 hs2 hF hns hnp hl hn hm
  have HC : Hid (∀ r, nameB nm = r → Calls Try.prog 50 #[.string nm] W1 fun e w' => e = .returned (.bool r) ∧ w' = W1) := Lib.hid fun r h => h ▸ rname_any nm W1 hsz
  clear hsz
  go_enter Try.func33, Try.ntmps33
  go_upto_region 1 with fail
  rw [← HW.out]
  cases h1 : nameB nm with
  | false =>
    have HC1 := Lib.hid (HC.out _ h1)
    have HX : Hid (F = false) := Lib.hid (by rw [← HF.out, h1]; rfl)
    clear h1
    go_wp2_with (first | (go_at_call 50; refine HC1.out.mono ?_; rintro e w' ⟨rfl, rfl⟩) | fail)
    go_ret
    exact ⟨ret_bool HX.out.symm, hN ▸ HB.out⟩
  | true =>
    have HC1 := Lib.hid (HC.out _ h1)
    by_cases h2 : ns < 1
    · have h2i : (ns : Int) < 1 := by omega
      have HX : Hid (F = false) := Lib.hid (by rw [← HF.out, h1]; simp; intro h; omega)
      clear h1 h2
      go_wp2_with (first | (go_at_call 50; refine HC1.out.mono ?_; rintro e w' ⟨rfl, rfl⟩) | fail)
      go_ret
      exact ⟨ret_bool HX.out.symm, hN ▸ HB.out⟩
    · have h2i : ¬ (ns : Int) < 1 := by omega
      by_cases h3 : 16 < ns
      · have h3i : (16 : Int) < (ns : Int) := by omega
        have HX : Hid (F = false) := Lib.hid (by rw [← HF.out, h1]; simp; intro h h'; omega)
        clear h1 h2 h3
        go_wp2_with (first | (go_at_call 50; refine HC1.out.mono ?_; rintro e w' ⟨rfl, rfl⟩) | fail)
        go_ret
        exact ⟨ret_bool HX.out.symm, hN ▸ HB.out⟩
      · have h3i : ¬ (16 : Int) < (ns : Int) := by omega
        by_cases h4 : 8 < np
        · have h4i : (8 : Int) < (np : Int) := by omega
          have HX : Hid (F = false) := Lib.hid (by rw [← HF.out, h1]; simp; intro h h' h''; omega)
          clear h1 h2 h3 h4
          go_wp2_with (first | (go_at_call 50; refine HC1.out.mono ?_; rintro e w' ⟨rfl, rfl⟩) | fail)
          go_ret
          exact ⟨ret_bool HX.out.symm, hN ▸ HB.out⟩
        · have h4i : ¬ (8 : Int) < (np : Int) := by omega
          have HF2 : Hid ((sizesB gs sz && (if np = 0 then ov == 0 else ps.all (paOK gs ov) && (ps.any fun p => p.ext) && decide (0 ≤ ov))) = F) := Lib.hid (by
            rw [← HF.out, h1, decide_eq_true (show 1 ≤ ns by omega), decide_eq_true (show ns ≤ 16 by omega), decide_eq_true (show np ≤ 8 by omega)]; rfl)
          clear h1 h2 h3 h4 HF
          go_wp2_with (first | (go_at_call 50; refine HC1.out.mono ?_; rintro e w' ⟨rfl, rfl⟩) | fail)
          have HSO0 : Hid (∀ j, j < 0 → szOK gs sz j = true) := Lib.hid fun j h => by omega
          have HL0 : Hid (0 < 0 → (0 : Int) = hgt gs (nth sz (0 - 1))) := Lib.hid fun h => by omega
          go_loopw [5, 6] (fun a b wr => ∃ (k : Nat) (L : Int), k ≤ ns ∧ b = .int .i64 (k : Int) ∧ a = .int .i64 L ∧ Hid (0 < k → L = hgt gs (nth sz (k - 1))) ∧ Hid (∀ j, j < k → szOK gs sz j = true) ∧ Hid (Below w'.heap.size w' wr))
            (fun _ b _ => ns - (intOf b).toNat)
          case atStart => exact ⟨0, 0, Nat.zero_le _, rfl, rfl, HL0, HSO0, Lib.hid (Below.refl _ _)⟩
          case round =>
            obtain ⟨k, L, hk, rfl, rfl, HLK, HSO, HBR⟩ := hrel
            have t1 := keep_cell HBR.out s1
            have t2 := keep_cell HBR.out s2
            have t3 := keep_cell HBR.out s3
            by_cases hlt : k < ns
            · have hkl : k < sz.length := by rw [HNS.out]; exact hlt
              obtain ⟨b, off, rfl, hb, x0⟩ := (HS1.out.below HBR.out).at hkl
              have hnth := nth_at hkl
              obtain ⟨x, hx⟩ : ∃ x, sz[k] = x := ⟨_, rfl⟩
              rw [hx] at x0 hnth
              have HNT := Lib.hid hnth
              have HRR := Lib.hid (range_below HR.out HBR.out)
              have HLD := load_font (A := A) (B := B) (n := n) (c := c) (m := m) (d := d) (N := N) (p0 := p0) (p1 := p1) (p2 := p2) (p3 := p3) (p4 := p4) (p5 := p5) (p6 := p6) (p7 := p7) (p8 := p8) (p9 := p9) (p10 := p10) (p11 := p11) (p12 := p12) (p13 := p13) (p14 := p14) (p15 := p15) (p16 := p16) (p17 := p17) (p18 := p18) (p19 := p19)
              have hr : (wr.drew).rangeAt N 0 [.slice A n c, .slice B m d, .int .i64 p0, .int .i64 p1, .int .i64 p2, .int .i64 p3, .int .i64 p4, .int .i64 p5, .int .i64 p6, .int .i64 p7, .int .i64 p8, .int .i64 p9, .int .i64 p10, .int .i64 p11, .int .i64 p12, .int .i64 p13, .int .i64 p14, .int .i64 p15, .int .i64 p16, .int .i64 p17, .int .i64 p18, .int .i64 p19] := range_below HRR.out (below_drew wr)
              have hbW := below_drew wr
              clear hnth hx hb
              have mk : ∀ W, Below wr.heap.size wr W → (fun w' : World => w'.rangeAt N 0 [.slice A n c, .slice B m d, .int .i64 p0, .int .i64 p1, .int .i64 p2, .int .i64 p3, .int .i64 p4, .int .i64 p5, .int .i64 p6, .int .i64 p7, .int .i64 p8, .int .i64 p9, .int .i64 p10, .int .i64 p11, .int .i64 p12, .int .i64 p13, .int .i64 p14, .int .i64 p15, .int .i64 p16, .int .i64 p17, .int .i64 p18, .int .i64 p19] ∧ w'.cell? ⟨N + 1, 1, none⟩ = some (.slice (some ⟨b, off, none⟩) ns e1) ∧ w'.cell? ⟨b, off + k, none⟩ = some (.string x) ∧ Below wr.heap.size wr w') W := fun W h => ⟨range_below HRR.out h, keep_cell h t1, keep_cell h x0, h⟩
              cases hf : findG gs x with
              | none =>
                have HC2 : Hid (∀ W, Below wr.heap.size wr W → Calls Try.prog 15 #[.agg #[.slice A n c, .slice B m d, .int .i64 p0, .int .i64 p1, .int .i64 p2, .int .i64 p3, .int .i64 p4, .int .i64 p5, .int .i64 p6, .int .i64 p7, .int .i64 p8, .int .i64 p9, .int .i64 p10, .int .i64 p11, .int .i64 p12, .int .i64 p13, .int .i64 p14, .int .i64 p15, .int .i64 p16, .int .i64 p17, .int .i64 p18, .int .i64 p19], .string x] W fun e w' => e = .returned (.tuple #[.agg #[.string ⟨#[]⟩, .int .i64 0, .int .i64 0, .int .i64 0, .int .i64 0, .int .i64 0], .bool false]) ∧ Below W.heap.size W w') :=
                  Lib.hid fun W hb => rfind_let (g := zeroG) HN.out ((HGA.out.below HBR.out).below hb) (by have := HGL.out; omega) (.inr ⟨rfl, rfl, hf⟩)
                have HX : Hid (F = false) := Lib.hid (by rw [← HF2.out, szOK_false hkl (by unfold szOK; rw [HNT.out, hf]; rfl)]; rfl)
                clear hf
                go_wp2_with fail
                refine wp_region_held_drew (S := fun w' => w'.rangeAt N 0 [.slice A n c, .slice B m d, .int .i64 p0, .int .i64 p1, .int .i64 p2, .int .i64 p3, .int .i64 p4, .int .i64 p5, .int .i64 p6, .int .i64 p7, .int .i64 p8, .int .i64 p9, .int .i64 p10, .int .i64 p11, .int .i64 p12, .int .i64 p13, .int .i64 p14, .int .i64 p15, .int .i64 p16, .int .i64 p17, .int .i64 p18, .int .i64 p19] ∧ w'.cell? ⟨N + 1, 1, none⟩ = some (.slice (some ⟨b, off, none⟩) ns e1) ∧ w'.cell? ⟨b, off + k, none⟩ = some (.string x) ∧ Below wr.heap.size wr w') (by kernel_rfl) (mk _ hbW) (fun hHeld => ?_)
                refine wpAnyH_take (i := 0) (v := .agg #[.slice A n c, .slice B m d, .int .i64 p0, .int .i64 p1, .int .i64 p2, .int .i64 p3, .int .i64 p4, .int .i64 p5, .int .i64 p6, .int .i64 p7, .int .i64 p8, .int .i64 p9, .int .i64 p10, .int .i64 p11, .int .i64 p12, .int .i64 p13, .int .i64 p14, .int .i64 p15, .int .i64 p16, .int .i64 p17, .int .i64 p18, .int .i64 p19]) rfl (by kernel_rfl) (by kernel_rfl) (by kernel_rfl) (fun _ _ _ h => h) (yieldsIf_load_mid (by rfl) 27 (.tmp 2) rfl N 0 rfl [.slice A n c, .slice B m d, .int .i64 p0, .int .i64 p1, .int .i64 p2, .int .i64 p3, .int .i64 p4, .int .i64 p5, .int .i64 p6, .int .i64 p7, .int .i64 p8, .int .i64 p9, .int .i64 p10, .int .i64 p11, .int .i64 p12, .int .i64 p13, .int .i64 p14, .int .i64 p15, .int .i64 p16, .int .i64 p17, .int .i64 p18, .int .i64 p19] _ (fun w h => h.1) Try.underlying27 rfl (by kernel_rfl)) hHeld ?_
                simp only [Act.put]; (try simp only [List.setIfInBounds_toArray, List.set_cons_zero, List.set_cons_succ])
                refine wpAnyH_take (i := 1) (v := ?_) rfl (by kernel_rfl) (by kernel_rfl) (by kernel_rfl) (fun _ _ _ h => h) (Or.inl ⟨by rfl, ?_⟩) hHeld ?_
                rotate_left
                · intro w hSw; (try dsimp only at hSw); go_simp; try with_reducible rfl
                simp only [Act.put]; (try simp only [List.setIfInBounds_toArray, List.set_cons_zero, List.set_cons_succ])
                refine wpAnyH_take (i := 2) (v := ?_) rfl (by kernel_rfl) (by kernel_rfl) (by kernel_rfl) (fun _ _ _ h => h) (Or.inl ⟨by rfl, ?_⟩) hHeld ?_
                rotate_left
                · intro w hSw; (try dsimp only at hSw); go_simp; try with_reducible rfl
                simp only [Act.put]; (try simp only [List.setIfInBounds_toArray, List.set_cons_zero, List.set_cons_succ])
                refine wpAnyH_take (i := 3) (v := ?_) rfl (by kernel_rfl) (by kernel_rfl) (by kernel_rfl) (fun _ _ _ h => h) (Or.inl ⟨by rfl, ?_⟩) hHeld ?_
                rotate_left
                · intro w hSw; (try dsimp only at hSw); go_simp; try with_reducible rfl
                simp only [Act.put]; (try simp only [List.setIfInBounds_toArray, List.set_cons_zero, List.set_cons_succ])
                refine wpAnyH_take (i := 4) (v := ?_) rfl (by kernel_rfl) (by kernel_rfl) (by kernel_rfl) (fun _ _ _ h => h) (Or.inl ⟨by rfl, ?_⟩) hHeld ?_
                rotate_left
                · intro w hSw; (try dsimp only at hSw); go_simp; try with_reducible rfl
                simp only [Act.put]; (try simp only [List.setIfInBounds_toArray, List.set_cons_zero, List.set_cons_succ])
                refine wpAnyH_take (i := 5) (v := ?_) rfl (by kernel_rfl) (by kernel_rfl) (by kernel_rfl) (fun _ _ _ h => h) (Or.inl ⟨by rfl, ?_⟩) hHeld ?_
                rotate_left
                · intro w hSw; (try dsimp only at hSw); go_simp; try with_reducible rfl
                simp only [Act.put]; (try simp only [List.setIfInBounds_toArray, List.set_cons_zero, List.set_cons_succ])
                refine wpAnyH_ready (rs := [6, 10]) (by kernel_rfl) (by simp) ?_
                refine AllReadyH.cons rfl (fun K hK => ?_) ?_
                · obtain ⟨q1, q2, q3, q4⟩ := hHeld
                  go_simp
                  refine (HC2.out _ q4).mono ?_
                  rintro e w6 ⟨rfl, hb6⟩
                  refine hK.out _ _ (mk _ (below_self q4 hb6)) (fun hHeld => ?_)
                  clear hK K q1 q2 q3 q4
                  (try simp only [Act.put]; (try simp only [List.setIfInBounds_toArray, List.set_cons_zero, List.set_cons_succ]))
                  refine wpAnyH_take (i := 7) (v := ?_) rfl (by kernel_rfl) (by kernel_rfl) (by kernel_rfl) (fun _ _ _ h => h) (Or.inl ⟨by rfl, ?_⟩) hHeld ?_
                  rotate_left
                  · intro w hSw; (try dsimp only at hSw); go_simp; try with_reducible rfl
                  simp only [Act.put]; (try simp only [List.setIfInBounds_toArray, List.set_cons_zero, List.set_cons_succ])
                  refine wpAnyH_take (i := 8) (v := ?_) rfl (by kernel_rfl) (by kernel_rfl) (by kernel_rfl) (fun _ _ _ h => h) (Or.inl ⟨by rfl, ?_⟩) hHeld ?_
                  rotate_left
                  · intro w hSw; (try dsimp only at hSw); go_simp; try with_reducible rfl
                  simp only [Act.put]; (try simp only [List.setIfInBounds_toArray, List.set_cons_zero, List.set_cons_succ])
                  refine wpAnyH_take (i := 9) (v := ?_) rfl (by kernel_rfl) (by kernel_rfl) (by kernel_rfl) (fun _ _ _ h => h) (Or.inl ⟨by rfl, ?_⟩) hHeld ?_
                  rotate_left
                  · intro w hSw; (try dsimp only at hSw); go_simp; try with_reducible rfl
                  simp only [Act.put]; (try simp only [List.setIfInBounds_toArray, List.set_cons_zero, List.set_cons_succ])
                  refine wpAnyH_ready (rs := [10]) (by kernel_rfl) (by simp) ?_
                  refine AllReadyH.cons rfl (fun K hK => ?_) AllReadyH.nil
                  obtain ⟨q1, q2, q3, q4⟩ := hHeld
                  go_simp
                  obtain ⟨BK, hBK⟩ : ∃ BK, w6.heap.size = BK := ⟨_, rfl⟩
                  have hle : wr.heap.size ≤ BK := hBK ▸ q4.size
                  obtain ⟨W7, hW7⟩ : ∃ W7, w6.alloc (.cells #[.string ⟨#[]⟩, .int .i64 0, .int .i64 0, .int .i64 0, .int .i64 0, .int .i64 0] 31) = W7 := ⟨_, rfl⟩
                  have hsix := six_new hBK (.string ⟨#[]⟩) (.int .i64 0) (.int .i64 0) (.int .i64 0) (.int .i64 0) (.int .i64 0) 31
                  have hq7 : Below wr.heap.size wr W7 := hW7 ▸ below_self q4 (below_new _ _)
                  rw [hW7] at hsix ⊢
                  rw [hBK]
                  clear hW7 hBK
                  refine hK.out _ _ (mk _ hq7) (fun hHeld => ?_)
                  clear hK K q1 q2 q3 q4
                  (try simp only [Act.put]; (try simp only [List.setIfInBounds_toArray, List.set_cons_zero, List.set_cons_succ]))
                  obtain ⟨⟨c0, c1, c2, c3, c4, c5⟩, g0, g1, g2, g3, g4, g5⟩ := hsix
                  obtain ⟨q1, q2, q3, q4⟩ := hHeld
                  have HQ4 := Lib.hid q4
                  clear q1 q2 q3 q4
                  refine wpAnyH_ready (rs := [11]) (by kernel_rfl) (by simp) ?_
                  refine AllReadyH.cons rfl (fun K hK => ?_) AllReadyH.nil
                  go_simp
                  obtain ⟨W8, hW8⟩ : ∃ W8, W8 = (((((W7.setCell ⟨BK, 0, none⟩ (.string ⟨#[]⟩)).setCell ⟨BK, 1, none⟩ (.int .i64 0)).setCell ⟨BK, 2, none⟩ (.int .i64 0)).setCell ⟨BK, 3, none⟩ (.int .i64 0)).setCell ⟨BK, 4, none⟩ (.int .i64 0)).setCell ⟨BK, 5, none⟩ (.int .i64 0) := ⟨_, rfl⟩
                  have hq8 : Below wr.heap.size wr W8 := hW8 ▸ below_set6 HQ4.out hle _ _ _ _ _ _
                  obtain ⟨d0, d1, d2, d3, d4, d5⟩ := set6_cells c0 c1 c2 c3 c4 c5 (.string ⟨#[]⟩) (.int .i64 0) (.int .i64 0) (.int .i64 0) (.int .i64 0) (.int .i64 0) hW8
                  clear c0 c1 c2 c3 c4 c5 g0 g1 g2 g3 g4 g5 HQ4
                  rw [← hW8]
                  clear hW8
                  refine hK.out _ _ (mk _ hq8) (fun hHeld => ?_)
                  clear hK K
                  (try simp only [Act.put]; (try simp only [List.setIfInBounds_toArray, List.set_cons_zero, List.set_cons_succ]))
                  refine wpAnyH_ready (rs := [12]) (by kernel_rfl) (by simp) ?_
                  refine AllReadyH.cons rfl (fun K hK => ?_) AllReadyH.nil
                  clear hHeld
                  go_simp
                  refine hK.out _ _ (mk _ hq8) (fun hHeld => ?_)
                  clear hK K hHeld mk
                  (try simp only [Act.put]; (try simp only [List.setIfInBounds_toArray, List.set_cons_zero, List.set_cons_succ]))
                  refine wpAnyH_done (by kernel_rfl) ?_ _
                  go_wp2_with fail
                  go_ret
                  exact ⟨ret_bool HX.out.symm, hN ▸ below_self (below_self HB.out HBR.out) hq8⟩

                · refine AllReadyH.cons rfl (fun K hK => ?_) AllReadyH.nil
                  obtain ⟨q1, q2, q3, q4⟩ := hHeld
                  go_simp
                  obtain ⟨BK, hBK⟩ : ∃ BK, wr.heap.size = BK := ⟨_, rfl⟩
                  have hle : wr.heap.size ≤ BK := Nat.le_of_eq hBK
                  obtain ⟨W7, hW7⟩ : ∃ W7, (wr.alloc (.cells #[.string ⟨#[]⟩, .int .i64 0, .int .i64 0, .int .i64 0, .int .i64 0, .int .i64 0] 31)).drew = W7 := ⟨_, rfl⟩
                  have hsix := (six_new hBK (.string ⟨#[]⟩) (.int .i64 0) (.int .i64 0) (.int .i64 0) (.int .i64 0) (.int .i64 0) 31).below (below_drew _)
                  have hq7 : Below wr.heap.size wr W7 := hW7 ▸ below_self (below_new _ _) (below_drew _)
                  rw [hW7] at hsix ⊢
                  rw [hBK]
                  clear hW7
                  refine hK.out _ _ (mk _ hq7) (fun hHeld => ?_)
                  clear hK K q1 q2 q3 q4
                  (try simp only [Act.put]; (try simp only [List.setIfInBounds_toArray, List.set_cons_zero, List.set_cons_succ]))
                  refine wpAnyH_ready (rs := [6]) (by kernel_rfl) (by simp) ?_
                  refine AllReadyH.cons rfl (fun K hK => ?_) AllReadyH.nil
                  obtain ⟨q1, q2, q3, q4⟩ := hHeld
                  go_simp
                  refine (HC2.out _ q4).mono ?_
                  rintro e w6 ⟨rfl, hb6⟩
                  replace hsix := hsix.below hb6
                  refine hK.out _ _ (mk _ (below_self q4 hb6)) (fun hHeld => ?_)
                  clear hK K q1 q2 q3 q4
                  (try simp only [Act.put]; (try simp only [List.setIfInBounds_toArray, List.set_cons_zero, List.set_cons_succ]))
                  refine wpAnyH_take (i := 7) (v := ?_) rfl (by kernel_rfl) (by kernel_rfl) (by kernel_rfl) (fun _ _ _ h => h) (Or.inl ⟨by rfl, ?_⟩) hHeld ?_
                  rotate_left
                  · intro w hSw; (try dsimp only at hSw); go_simp; try with_reducible rfl
                  simp only [Act.put]; (try simp only [List.setIfInBounds_toArray, List.set_cons_zero, List.set_cons_succ])
                  refine wpAnyH_take (i := 8) (v := ?_) rfl (by kernel_rfl) (by kernel_rfl) (by kernel_rfl) (fun _ _ _ h => h) (Or.inl ⟨by rfl, ?_⟩) hHeld ?_
                  rotate_left
                  · intro w hSw; (try dsimp only at hSw); go_simp; try with_reducible rfl
                  simp only [Act.put]; (try simp only [List.setIfInBounds_toArray, List.set_cons_zero, List.set_cons_succ])
                  refine wpAnyH_take (i := 9) (v := ?_) rfl (by kernel_rfl) (by kernel_rfl) (by kernel_rfl) (fun _ _ _ h => h) (Or.inl ⟨by rfl, ?_⟩) hHeld ?_
                  rotate_left
                  · intro w hSw; (try dsimp only at hSw); go_simp; try with_reducible rfl
                  simp only [Act.put]; (try simp only [List.setIfInBounds_toArray, List.set_cons_zero, List.set_cons_succ])
                  obtain ⟨⟨c0, c1, c2, c3, c4, c5⟩, g0, g1, g2, g3, g4, g5⟩ := hsix
                  obtain ⟨q1, q2, q3, q4⟩ := hHeld
                  have HQ4 := Lib.hid q4
                  clear q1 q2 q3 q4
                  refine wpAnyH_ready (rs := [11]) (by kernel_rfl) (by simp) ?_
                  refine AllReadyH.cons rfl (fun K hK => ?_) AllReadyH.nil
                  go_simp
                  obtain ⟨W8, hW8⟩ : ∃ W8, W8 = (((((w6.setCell ⟨BK, 0, none⟩ (.string ⟨#[]⟩)).setCell ⟨BK, 1, none⟩ (.int .i64 0)).setCell ⟨BK, 2, none⟩ (.int .i64 0)).setCell ⟨BK, 3, none⟩ (.int .i64 0)).setCell ⟨BK, 4, none⟩ (.int .i64 0)).setCell ⟨BK, 5, none⟩ (.int .i64 0) := ⟨_, rfl⟩
                  have hq8 : Below wr.heap.size wr W8 := hW8 ▸ below_set6 HQ4.out hle _ _ _ _ _ _
                  obtain ⟨d0, d1, d2, d3, d4, d5⟩ := set6_cells c0 c1 c2 c3 c4 c5 (.string ⟨#[]⟩) (.int .i64 0) (.int .i64 0) (.int .i64 0) (.int .i64 0) (.int .i64 0) hW8
                  clear c0 c1 c2 c3 c4 c5 g0 g1 g2 g3 g4 g5 HQ4
                  rw [← hW8]
                  clear hW8
                  refine hK.out _ _ (mk _ hq8) (fun hHeld => ?_)
                  clear hK K
                  (try simp only [Act.put]; (try simp only [List.setIfInBounds_toArray, List.set_cons_zero, List.set_cons_succ]))
                  refine wpAnyH_ready (rs := [12]) (by kernel_rfl) (by simp) ?_
                  refine AllReadyH.cons rfl (fun K hK => ?_) AllReadyH.nil
                  clear hHeld
                  go_simp
                  refine hK.out _ _ (mk _ hq8) (fun hHeld => ?_)
                  clear hK K hHeld mk
                  (try simp only [Act.put]; (try simp only [List.setIfInBounds_toArray, List.set_cons_zero, List.set_cons_succ]))
                  refine wpAnyH_done (by kernel_rfl) ?_ _
                  go_wp2_with fail
                  go_ret
                  exact ⟨ret_bool HX.out.symm, hN ▸ below_self (below_self HB.out HBR.out) hq8⟩

              | some g =>
                have hgm : metP g := HM.out g (find_mem hf)
                have hgb := hgt_bd hgm
                obtain ⟨Hg, hHg⟩ : ∃ Hg, height g = Hg := ⟨_, rfl⟩
                have HC2 : Hid (∀ W, Below wr.heap.size wr W → Calls Try.prog 15 #[.agg #[.slice A n c, .slice B m d, .int .i64 p0, .int .i64 p1, .int .i64 p2, .int .i64 p3, .int .i64 p4, .int .i64 p5, .int .i64 p6, .int .i64 p7, .int .i64 p8, .int .i64 p9, .int .i64 p10, .int .i64 p11, .int .i64 p12, .int .i64 p13, .int .i64 p14, .int .i64 p15, .int .i64 p16, .int .i64 p17, .int .i64 p18, .int .i64 p19], .string x] W fun e w' => e = .returned (.tuple #[.agg #[.string g.name, .int .i64 g.W, .int .i64 g.H, .int .i64 g.D, .int .i64 g.I, .int .i64 g.A], .bool true]) ∧ Below W.heap.size W w') :=
                  Lib.hid fun W hb => rfind_let (g := g) HN.out ((HGA.out.below HBR.out).below hb) (by have := HGL.out; omega) (.inl ⟨rfl, hf⟩)
                have HH : Hid (∀ W, Calls Try.prog 51 #[.agg #[.string g.name, .int .i64 g.W, .int .i64 g.H, .int .i64 g.D, .int .i64 g.I, .int .i64 g.A]] W fun e w' => e = .returned (.int .i64 Hg) ∧ Below W.heap.size W w') :=
                  Lib.hid fun W => hHg ▸ rheight_any g W (by unfold height at hgb; omega)
                have HGX : Hid (hgt gs x = Hg) := Lib.hid (hHg ▸ hgt_of hf)
                have HFS : Hid ((findG gs x).isSome = true) := Lib.hid (by rw [hf]; rfl)
                clear hf hgm
                rw [hHg] at hgb
                clear hHg
                go_wp2_with fail
                refine wp_region_held_drew (S := fun w' => w'.rangeAt N 0 [.slice A n c, .slice B m d, .int .i64 p0, .int .i64 p1, .int .i64 p2, .int .i64 p3, .int .i64 p4, .int .i64 p5, .int .i64 p6, .int .i64 p7, .int .i64 p8, .int .i64 p9, .int .i64 p10, .int .i64 p11, .int .i64 p12, .int .i64 p13, .int .i64 p14, .int .i64 p15, .int .i64 p16, .int .i64 p17, .int .i64 p18, .int .i64 p19] ∧ w'.cell? ⟨N + 1, 1, none⟩ = some (.slice (some ⟨b, off, none⟩) ns e1) ∧ w'.cell? ⟨b, off + k, none⟩ = some (.string x) ∧ Below wr.heap.size wr w') (by kernel_rfl) (mk _ hbW) (fun hHeld => ?_)
                refine wpAnyH_take (i := 0) (v := .agg #[.slice A n c, .slice B m d, .int .i64 p0, .int .i64 p1, .int .i64 p2, .int .i64 p3, .int .i64 p4, .int .i64 p5, .int .i64 p6, .int .i64 p7, .int .i64 p8, .int .i64 p9, .int .i64 p10, .int .i64 p11, .int .i64 p12, .int .i64 p13, .int .i64 p14, .int .i64 p15, .int .i64 p16, .int .i64 p17, .int .i64 p18, .int .i64 p19]) rfl (by kernel_rfl) (by kernel_rfl) (by kernel_rfl) (fun _ _ _ h => h) (yieldsIf_load_mid (by rfl) 27 (.tmp 2) rfl N 0 rfl [.slice A n c, .slice B m d, .int .i64 p0, .int .i64 p1, .int .i64 p2, .int .i64 p3, .int .i64 p4, .int .i64 p5, .int .i64 p6, .int .i64 p7, .int .i64 p8, .int .i64 p9, .int .i64 p10, .int .i64 p11, .int .i64 p12, .int .i64 p13, .int .i64 p14, .int .i64 p15, .int .i64 p16, .int .i64 p17, .int .i64 p18, .int .i64 p19] _ (fun w h => h.1) Try.underlying27 rfl (by kernel_rfl)) hHeld ?_
                simp only [Act.put]; (try simp only [List.setIfInBounds_toArray, List.set_cons_zero, List.set_cons_succ])
                refine wpAnyH_take (i := 1) (v := ?_) rfl (by kernel_rfl) (by kernel_rfl) (by kernel_rfl) (fun _ _ _ h => h) (Or.inl ⟨by rfl, ?_⟩) hHeld ?_
                rotate_left
                · intro w hSw; (try dsimp only at hSw); go_simp; try with_reducible rfl
                simp only [Act.put]; (try simp only [List.setIfInBounds_toArray, List.set_cons_zero, List.set_cons_succ])
                refine wpAnyH_take (i := 2) (v := ?_) rfl (by kernel_rfl) (by kernel_rfl) (by kernel_rfl) (fun _ _ _ h => h) (Or.inl ⟨by rfl, ?_⟩) hHeld ?_
                rotate_left
                · intro w hSw; (try dsimp only at hSw); go_simp; try with_reducible rfl
                simp only [Act.put]; (try simp only [List.setIfInBounds_toArray, List.set_cons_zero, List.set_cons_succ])
                refine wpAnyH_take (i := 3) (v := ?_) rfl (by kernel_rfl) (by kernel_rfl) (by kernel_rfl) (fun _ _ _ h => h) (Or.inl ⟨by rfl, ?_⟩) hHeld ?_
                rotate_left
                · intro w hSw; (try dsimp only at hSw); go_simp; try with_reducible rfl
                simp only [Act.put]; (try simp only [List.setIfInBounds_toArray, List.set_cons_zero, List.set_cons_succ])
                refine wpAnyH_take (i := 4) (v := ?_) rfl (by kernel_rfl) (by kernel_rfl) (by kernel_rfl) (fun _ _ _ h => h) (Or.inl ⟨by rfl, ?_⟩) hHeld ?_
                rotate_left
                · intro w hSw; (try dsimp only at hSw); go_simp; try with_reducible rfl
                simp only [Act.put]; (try simp only [List.setIfInBounds_toArray, List.set_cons_zero, List.set_cons_succ])
                refine wpAnyH_take (i := 5) (v := ?_) rfl (by kernel_rfl) (by kernel_rfl) (by kernel_rfl) (fun _ _ _ h => h) (Or.inl ⟨by rfl, ?_⟩) hHeld ?_
                rotate_left
                · intro w hSw; (try dsimp only at hSw); go_simp; try with_reducible rfl
                simp only [Act.put]; (try simp only [List.setIfInBounds_toArray, List.set_cons_zero, List.set_cons_succ])
                refine wpAnyH_ready (rs := [6, 10]) (by kernel_rfl) (by simp) ?_
                refine AllReadyH.cons rfl (fun K hK => ?_) ?_
                · obtain ⟨q1, q2, q3, q4⟩ := hHeld
                  go_simp
                  refine (HC2.out _ q4).mono ?_
                  rintro e w6 ⟨rfl, hb6⟩
                  refine hK.out _ _ (mk _ (below_self q4 hb6)) (fun hHeld => ?_)
                  clear hK K q1 q2 q3 q4
                  (try simp only [Act.put]; (try simp only [List.setIfInBounds_toArray, List.set_cons_zero, List.set_cons_succ]))
                  refine wpAnyH_take (i := 7) (v := ?_) rfl (by kernel_rfl) (by kernel_rfl) (by kernel_rfl) (fun _ _ _ h => h) (Or.inl ⟨by rfl, ?_⟩) hHeld ?_
                  rotate_left
                  · intro w hSw; (try dsimp only at hSw); go_simp; try with_reducible rfl
                  simp only [Act.put]; (try simp only [List.setIfInBounds_toArray, List.set_cons_zero, List.set_cons_succ])
                  refine wpAnyH_take (i := 8) (v := ?_) rfl (by kernel_rfl) (by kernel_rfl) (by kernel_rfl) (fun _ _ _ h => h) (Or.inl ⟨by rfl, ?_⟩) hHeld ?_
                  rotate_left
                  · intro w hSw; (try dsimp only at hSw); go_simp; try with_reducible rfl
                  simp only [Act.put]; (try simp only [List.setIfInBounds_toArray, List.set_cons_zero, List.set_cons_succ])
                  refine wpAnyH_take (i := 9) (v := ?_) rfl (by kernel_rfl) (by kernel_rfl) (by kernel_rfl) (fun _ _ _ h => h) (Or.inl ⟨by rfl, ?_⟩) hHeld ?_
                  rotate_left
                  · intro w hSw; (try dsimp only at hSw); go_simp; try with_reducible rfl
                  simp only [Act.put]; (try simp only [List.setIfInBounds_toArray, List.set_cons_zero, List.set_cons_succ])
                  refine wpAnyH_ready (rs := [10]) (by kernel_rfl) (by simp) ?_
                  refine AllReadyH.cons rfl (fun K hK => ?_) AllReadyH.nil
                  obtain ⟨q1, q2, q3, q4⟩ := hHeld
                  go_simp
                  obtain ⟨BK, hBK⟩ : ∃ BK, w6.heap.size = BK := ⟨_, rfl⟩
                  have hle : wr.heap.size ≤ BK := hBK ▸ q4.size
                  obtain ⟨W7, hW7⟩ : ∃ W7, w6.alloc (.cells #[.string ⟨#[]⟩, .int .i64 0, .int .i64 0, .int .i64 0, .int .i64 0, .int .i64 0] 31) = W7 := ⟨_, rfl⟩
                  have hsix := six_new hBK (.string ⟨#[]⟩) (.int .i64 0) (.int .i64 0) (.int .i64 0) (.int .i64 0) (.int .i64 0) 31
                  have hq7 : Below wr.heap.size wr W7 := hW7 ▸ below_self q4 (below_new _ _)
                  rw [hW7] at hsix ⊢
                  rw [hBK]
                  clear hW7 hBK
                  refine hK.out _ _ (mk _ hq7) (fun hHeld => ?_)
                  clear hK K q1 q2 q3 q4
                  (try simp only [Act.put]; (try simp only [List.setIfInBounds_toArray, List.set_cons_zero, List.set_cons_succ]))
                  obtain ⟨⟨c0, c1, c2, c3, c4, c5⟩, g0, g1, g2, g3, g4, g5⟩ := hsix
                  obtain ⟨q1, q2, q3, q4⟩ := hHeld
                  have HQ4 := Lib.hid q4
                  clear q1 q2 q3 q4
                  refine wpAnyH_ready (rs := [11]) (by kernel_rfl) (by simp) ?_
                  refine AllReadyH.cons rfl (fun K hK => ?_) AllReadyH.nil
                  go_simp
                  obtain ⟨W8, hW8⟩ : ∃ W8, W8 = (((((W7.setCell ⟨BK, 0, none⟩ (.string g.name)).setCell ⟨BK, 1, none⟩ (.int .i64 g.W)).setCell ⟨BK, 2, none⟩ (.int .i64 g.H)).setCell ⟨BK, 3, none⟩ (.int .i64 g.D)).setCell ⟨BK, 4, none⟩ (.int .i64 g.I)).setCell ⟨BK, 5, none⟩ (.int .i64 g.A) := ⟨_, rfl⟩
                  have hq8 : Below wr.heap.size wr W8 := hW8 ▸ below_set6 HQ4.out hle _ _ _ _ _ _
                  obtain ⟨d0, d1, d2, d3, d4, d5⟩ := set6_cells c0 c1 c2 c3 c4 c5 (.string g.name) (.int .i64 g.W) (.int .i64 g.H) (.int .i64 g.D) (.int .i64 g.I) (.int .i64 g.A) hW8
                  clear c0 c1 c2 c3 c4 c5 g0 g1 g2 g3 g4 g5 HQ4
                  rw [← hW8]
                  clear hW8
                  refine hK.out _ _ (mk _ hq8) (fun hHeld => ?_)
                  clear hK K
                  (try simp only [Act.put]; (try simp only [List.setIfInBounds_toArray, List.set_cons_zero, List.set_cons_succ]))
                  refine wpAnyH_ready (rs := [12]) (by kernel_rfl) (by simp) ?_
                  refine AllReadyH.cons rfl (fun K hK => ?_) AllReadyH.nil
                  clear hHeld
                  go_simp
                  refine hK.out _ _ (mk _ hq8) (fun hHeld => ?_)
                  clear hK K hHeld mk
                  (try simp only [Act.put]; (try simp only [List.setIfInBounds_toArray, List.set_cons_zero, List.set_cons_succ]))
                  refine wpAnyH_done (by kernel_rfl) ?_ _
                  have HLK2 : Hid (0 < k + 1 → Hg = hgt gs (nth sz (k + 1 - 1))) := Lib.hid fun _ => by rw [Nat.add_sub_cancel, HNT.out, HGX.out]
                  by_cases hk0 : 0 < k
                  · have hk0i : (0 : Int) < (k : Int) := by omega
                    have hLk := HLK.out hk0
                    by_cases hle2 : Hg ≤ L
                    · have HX : Hid (F = false) := Lib.hid (by rw [← HF2.out, szOK_false hkl (szOK_no hk0 (by rw [HNT.out, HGX.out, ← hLk]; exact hle2))]; rfl)
                      clear hLk
                      go_wp2_with (first | (go_at_call 51; refine (HH.out _).mono ?_; rintro e w9 ⟨rfl, hb9⟩; have hq8 := below_self hq8 hb9; have d0 := keep_cell hb9 d0; have d1 := keep_cell hb9 d1; have d2 := keep_cell hb9 d2; have d3 := keep_cell hb9 d3; have d4 := keep_cell hb9 d4; have d5 := keep_cell hb9 d5; clear hb9) | fail)
                      go_ret
                      exact ⟨ret_bool HX.out.symm, hN ▸ below_self (below_self HB.out HBR.out) hq8⟩
                    · have HSO2 : Hid (∀ j, j < k + 1 → szOK gs sz j = true) := Lib.hid fun j h => by
                        rcases Nat.lt_succ_iff_lt_or_eq.1 h with h' | rfl
                        · exact HSO.out j h'
                        · exact szOK_of (by rw [HNT.out]; exact HFS.out) (.inr (by rw [HNT.out, HGX.out, ← hLk]; omega))
                      clear hLk
                      go_wp2_with (first | (go_at_call 51; refine (HH.out _).mono ?_; rintro e w9 ⟨rfl, hb9⟩; have hq8 := below_self hq8 hb9; have d0 := keep_cell hb9 d0; have d1 := keep_cell hb9 d1; have d2 := keep_cell hb9 d2; have d3 := keep_cell hb9 d3; have d4 := keep_cell hb9 d4; have d5 := keep_cell hb9 d5; clear hb9) | fail)
                      refine ⟨⟨k + 1, Hg, by omega, by go_num, rfl, HLK2, HSO2, Lib.hid (below_self HBR.out hq8)⟩, by simp [intOf]; omega⟩
                  · have hk0i : ¬ (0 : Int) < (k : Int) := by omega
                    have HSO2 : Hid (∀ j, j < k + 1 → szOK gs sz j = true) := Lib.hid fun j h => by
                      rcases Nat.lt_succ_iff_lt_or_eq.1 h with h' | rfl
                      · exact HSO.out j h'
                      · exact szOK_of (by rw [HNT.out]; exact HFS.out) (.inl (by omega))
                    go_wp2_with (first | (go_at_call 51; refine (HH.out _).mono ?_; rintro e w9 ⟨rfl, hb9⟩; have hq8 := below_self hq8 hb9; have d0 := keep_cell hb9 d0; have d1 := keep_cell hb9 d1; have d2 := keep_cell hb9 d2; have d3 := keep_cell hb9 d3; have d4 := keep_cell hb9 d4; have d5 := keep_cell hb9 d5; clear hb9) | fail)
                    refine ⟨⟨k + 1, Hg, by omega, by go_num, rfl, HLK2, HSO2, Lib.hid (below_self HBR.out hq8)⟩, by simp [intOf]; omega⟩

                · refine AllReadyH.cons rfl (fun K hK => ?_) AllReadyH.nil
                  obtain ⟨q1, q2, q3, q4⟩ := hHeld
                  go_simp
                  obtain ⟨BK, hBK⟩ : ∃ BK, wr.heap.size = BK := ⟨_, rfl⟩
                  have hle : wr.heap.size ≤ BK := Nat.le_of_eq hBK
                  obtain ⟨W7, hW7⟩ : ∃ W7, (wr.alloc (.cells #[.string ⟨#[]⟩, .int .i64 0, .int .i64 0, .int .i64 0, .int .i64 0, .int .i64 0] 31)).drew = W7 := ⟨_, rfl⟩
                  have hsix := (six_new hBK (.string ⟨#[]⟩) (.int .i64 0) (.int .i64 0) (.int .i64 0) (.int .i64 0) (.int .i64 0) 31).below (below_drew _)
                  have hq7 : Below wr.heap.size wr W7 := hW7 ▸ below_self (below_new _ _) (below_drew _)
                  rw [hW7] at hsix ⊢
                  rw [hBK]
                  clear hW7
                  refine hK.out _ _ (mk _ hq7) (fun hHeld => ?_)
                  clear hK K q1 q2 q3 q4
                  (try simp only [Act.put]; (try simp only [List.setIfInBounds_toArray, List.set_cons_zero, List.set_cons_succ]))
                  refine wpAnyH_ready (rs := [6]) (by kernel_rfl) (by simp) ?_
                  refine AllReadyH.cons rfl (fun K hK => ?_) AllReadyH.nil
                  obtain ⟨q1, q2, q3, q4⟩ := hHeld
                  go_simp
                  refine (HC2.out _ q4).mono ?_
                  rintro e w6 ⟨rfl, hb6⟩
                  replace hsix := hsix.below hb6
                  refine hK.out _ _ (mk _ (below_self q4 hb6)) (fun hHeld => ?_)
                  clear hK K q1 q2 q3 q4
                  (try simp only [Act.put]; (try simp only [List.setIfInBounds_toArray, List.set_cons_zero, List.set_cons_succ]))
                  refine wpAnyH_take (i := 7) (v := ?_) rfl (by kernel_rfl) (by kernel_rfl) (by kernel_rfl) (fun _ _ _ h => h) (Or.inl ⟨by rfl, ?_⟩) hHeld ?_
                  rotate_left
                  · intro w hSw; (try dsimp only at hSw); go_simp; try with_reducible rfl
                  simp only [Act.put]; (try simp only [List.setIfInBounds_toArray, List.set_cons_zero, List.set_cons_succ])
                  refine wpAnyH_take (i := 8) (v := ?_) rfl (by kernel_rfl) (by kernel_rfl) (by kernel_rfl) (fun _ _ _ h => h) (Or.inl ⟨by rfl, ?_⟩) hHeld ?_
                  rotate_left
                  · intro w hSw; (try dsimp only at hSw); go_simp; try with_reducible rfl
                  simp only [Act.put]; (try simp only [List.setIfInBounds_toArray, List.set_cons_zero, List.set_cons_succ])
                  refine wpAnyH_take (i := 9) (v := ?_) rfl (by kernel_rfl) (by kernel_rfl) (by kernel_rfl) (fun _ _ _ h => h) (Or.inl ⟨by rfl, ?_⟩) hHeld ?_
                  rotate_left
                  · intro w hSw; (try dsimp only at hSw); go_simp; try with_reducible rfl
                  simp only [Act.put]; (try simp only [List.setIfInBounds_toArray, List.set_cons_zero, List.set_cons_succ])
                  obtain ⟨⟨c0, c1, c2, c3, c4, c5⟩, g0, g1, g2, g3, g4, g5⟩ := hsix
                  obtain ⟨q1, q2, q3, q4⟩ := hHeld
                  have HQ4 := Lib.hid q4
                  clear q1 q2 q3 q4
                  refine wpAnyH_ready (rs := [11]) (by kernel_rfl) (by simp) ?_
                  refine AllReadyH.cons rfl (fun K hK => ?_) AllReadyH.nil
                  go_simp
                  obtain ⟨W8, hW8⟩ : ∃ W8, W8 = (((((w6.setCell ⟨BK, 0, none⟩ (.string g.name)).setCell ⟨BK, 1, none⟩ (.int .i64 g.W)).setCell ⟨BK, 2, none⟩ (.int .i64 g.H)).setCell ⟨BK, 3, none⟩ (.int .i64 g.D)).setCell ⟨BK, 4, none⟩ (.int .i64 g.I)).setCell ⟨BK, 5, none⟩ (.int .i64 g.A) := ⟨_, rfl⟩
                  have hq8 : Below wr.heap.size wr W8 := hW8 ▸ below_set6 HQ4.out hle _ _ _ _ _ _
                  obtain ⟨d0, d1, d2, d3, d4, d5⟩ := set6_cells c0 c1 c2 c3 c4 c5 (.string g.name) (.int .i64 g.W) (.int .i64 g.H) (.int .i64 g.D) (.int .i64 g.I) (.int .i64 g.A) hW8
                  clear c0 c1 c2 c3 c4 c5 g0 g1 g2 g3 g4 g5 HQ4
                  rw [← hW8]
                  clear hW8
                  refine hK.out _ _ (mk _ hq8) (fun hHeld => ?_)
                  clear hK K
                  (try simp only [Act.put]; (try simp only [List.setIfInBounds_toArray, List.set_cons_zero, List.set_cons_succ]))
                  refine wpAnyH_ready (rs := [12]) (by kernel_rfl) (by simp) ?_
                  refine AllReadyH.cons rfl (fun K hK => ?_) AllReadyH.nil
                  clear hHeld
                  go_simp
                  refine hK.out _ _ (mk _ hq8) (fun hHeld => ?_)
                  clear hK K hHeld mk
                  (try simp only [Act.put]; (try simp only [List.setIfInBounds_toArray, List.set_cons_zero, List.set_cons_succ]))
                  refine wpAnyH_done (by kernel_rfl) ?_ _
                  have HLK2 : Hid (0 < k + 1 → Hg = hgt gs (nth sz (k + 1 - 1))) := Lib.hid fun _ => by rw [Nat.add_sub_cancel, HNT.out, HGX.out]
                  by_cases hk0 : 0 < k
                  · have hk0i : (0 : Int) < (k : Int) := by omega
                    have hLk := HLK.out hk0
                    by_cases hle2 : Hg ≤ L
                    · have HX : Hid (F = false) := Lib.hid (by rw [← HF2.out, szOK_false hkl (szOK_no hk0 (by rw [HNT.out, HGX.out, ← hLk]; exact hle2))]; rfl)
                      clear hLk
                      go_wp2_with (first | (go_at_call 51; refine (HH.out _).mono ?_; rintro e w9 ⟨rfl, hb9⟩; have hq8 := below_self hq8 hb9; have d0 := keep_cell hb9 d0; have d1 := keep_cell hb9 d1; have d2 := keep_cell hb9 d2; have d3 := keep_cell hb9 d3; have d4 := keep_cell hb9 d4; have d5 := keep_cell hb9 d5; clear hb9) | fail)
                      go_ret
                      exact ⟨ret_bool HX.out.symm, hN ▸ below_self (below_self HB.out HBR.out) hq8⟩
                    · have HSO2 : Hid (∀ j, j < k + 1 → szOK gs sz j = true) := Lib.hid fun j h => by
                        rcases Nat.lt_succ_iff_lt_or_eq.1 h with h' | rfl
                        · exact HSO.out j h'
                        · exact szOK_of (by rw [HNT.out]; exact HFS.out) (.inr (by rw [HNT.out, HGX.out, ← hLk]; omega))
                      clear hLk
                      go_wp2_with (first | (go_at_call 51; refine (HH.out _).mono ?_; rintro e w9 ⟨rfl, hb9⟩; have hq8 := below_self hq8 hb9; have d0 := keep_cell hb9 d0; have d1 := keep_cell hb9 d1; have d2 := keep_cell hb9 d2; have d3 := keep_cell hb9 d3; have d4 := keep_cell hb9 d4; have d5 := keep_cell hb9 d5; clear hb9) | fail)
                      refine ⟨⟨k + 1, Hg, by omega, by go_num, rfl, HLK2, HSO2, Lib.hid (below_self HBR.out hq8)⟩, by simp [intOf]; omega⟩
                  · have hk0i : ¬ (0 : Int) < (k : Int) := by omega
                    have HSO2 : Hid (∀ j, j < k + 1 → szOK gs sz j = true) := Lib.hid fun j h => by
                      rcases Nat.lt_succ_iff_lt_or_eq.1 h with h' | rfl
                      · exact HSO.out j h'
                      · exact szOK_of (by rw [HNT.out]; exact HFS.out) (.inl (by omega))
                    go_wp2_with (first | (go_at_call 51; refine (HH.out _).mono ?_; rintro e w9 ⟨rfl, hb9⟩; have hq8 := below_self hq8 hb9; have d0 := keep_cell hb9 d0; have d1 := keep_cell hb9 d1; have d2 := keep_cell hb9 d2; have d3 := keep_cell hb9 d3; have d4 := keep_cell hb9 d4; have d5 := keep_cell hb9 d5; clear hb9) | fail)
                    refine ⟨⟨k + 1, Hg, by omega, by go_num, rfl, HLK2, HSO2, Lib.hid (below_self HBR.out hq8)⟩, by simp [intOf]; omega⟩

            · have HSZ : sizesB gs sz = true := szOK_true fun j hj => HSO.out j (by have := HNS.out; omega)
              have HF3 : Hid ((if np = 0 then ov == 0 else ps.all (paOK gs ov) && (ps.any fun p => p.ext) && decide (0 ≤ ov)) = F) := Lib.hid (by rw [← HF2.out, HSZ, Bool.true_and])
              clear HSZ HF2
              by_cases hn0 : np = 0
              · have hn0i : (np : Int) = 0 := by omega
                have HX : Hid ((ov == 0) = F) := Lib.hid (by rw [← HF3.out, if_pos hn0])
                clear hn0
                go_wp2_with fail
                go_ret
                exact ⟨ret_bool HX.out, hN ▸ below_self HB.out HBR.out⟩
              · have hn0i : ¬ (np : Int) = 0 := by omega
                have HF3 : Hid ((ps.all (paOK gs ov) && (ps.any fun p => p.ext) && decide (0 ≤ ov)) = F) := Lib.hid (by rw [← HF3.out, if_neg hn0])
                have HP0 : Hid (∀ j (h : j < ps.length), j < 0 → paOK gs ov ps[j] = true) := Lib.hid fun j _ h => by omega
                have HZ0 : Hid (false = (ps.take 0).any fun p => p.ext) := Lib.hid rfl
                have HRR := Lib.hid (range_below HR.out HBR.out)
                have HGAR := Lib.hid (HGA.out.below HBR.out)
                have HS2R := Lib.hid (HS2.out.below HBR.out)
                clear s0 s1 s2 s3
                go_wp2_with fail
                rw [show ((np : Int) == 0) = false from beq_eq_false_iff_ne.2 hn0i]
                clear hn0i hn0
                obtain ⟨w5, rfl⟩ : ∃ w5, w5 = wr := ⟨_, rfl⟩
                go_loopw [9, 10] (fun a b wr => ∃ (k2 : Nat) (E : Bool), k2 ≤ np ∧ b = .int .i64 (k2 : Int) ∧ a = .bool E ∧ Hid (E = (ps.take k2).any fun p => p.ext) ∧ Hid (∀ j (h : j < ps.length), j < k2 → paOK gs ov ps[j] = true) ∧ Hid (Below w5.heap.size w5 wr))
                  (fun _ b _ => np - (intOf b).toNat)
                case atStart => exact ⟨0, false, Nat.zero_le _, rfl, rfl, HZ0, HP0, Lib.hid (Below.refl _ _)⟩
                case round =>
                  obtain ⟨k2, E, hk2, rfl, rfl, HXE, HP, HBX⟩ := hrel
                  have t2 := keep_cell HBX.out t2
                  have t3 := keep_cell HBX.out t3
                  by_cases hlt2 : k2 < np
                  · have hpl : k2 < ps.length := by rw [HNP.out]; exact hlt2
                    obtain ⟨b, off, rfl, hb, y0, y1⟩ := (HS2R.out.below HBX.out).at hpl
                    obtain ⟨p, hp⟩ : ∃ p, ps[k2] = p := ⟨_, rfl⟩
                    rw [hp] at y0 y1
                    have HRX := Lib.hid (range_below HRR.out HBX.out)
                    have hbW := below_drew wr
                    clear hb
                    have mk : ∀ W, Below wr.heap.size wr W → (fun w' : World => w'.rangeAt N 0 [.slice A n c, .slice B m d, .int .i64 p0, .int .i64 p1, .int .i64 p2, .int .i64 p3, .int .i64 p4, .int .i64 p5, .int .i64 p6, .int .i64 p7, .int .i64 p8, .int .i64 p9, .int .i64 p10, .int .i64 p11, .int .i64 p12, .int .i64 p13, .int .i64 p14, .int .i64 p15, .int .i64 p16, .int .i64 p17, .int .i64 p18, .int .i64 p19] ∧ w'.cell? ⟨N + 1, 2, none⟩ = some (.slice (some ⟨b, off, none⟩) np e2) ∧ w'.cell? ⟨b, off + k2 * 2, none⟩ = some (.string p.name) ∧ Below wr.heap.size wr w') W := fun W h => ⟨range_below HRX.out h, keep_cell h t2, keep_cell h y0, h⟩
                    cases hf : findG gs p.name with
                    | none =>
                      have HC2 : Hid (∀ W, Below wr.heap.size wr W → Calls Try.prog 15 #[.agg #[.slice A n c, .slice B m d, .int .i64 p0, .int .i64 p1, .int .i64 p2, .int .i64 p3, .int .i64 p4, .int .i64 p5, .int .i64 p6, .int .i64 p7, .int .i64 p8, .int .i64 p9, .int .i64 p10, .int .i64 p11, .int .i64 p12, .int .i64 p13, .int .i64 p14, .int .i64 p15, .int .i64 p16, .int .i64 p17, .int .i64 p18, .int .i64 p19], .string p.name] W fun e w' => e = .returned (.tuple #[.agg #[.string ⟨#[]⟩, .int .i64 0, .int .i64 0, .int .i64 0, .int .i64 0, .int .i64 0], .bool false]) ∧ Below W.heap.size W w') :=
                        Lib.hid fun W hb => rfind_let (g := zeroG) HN.out ((HGAR.out.below HBX.out).below hb) (by have := HGL.out; omega) (.inr ⟨rfl, rfl, hf⟩)
                      have HX : Hid (F = false) := Lib.hid (by rw [← HF3.out, all_no hpl (by rw [hp]; unfold paOK; rw [hf]; rfl)]; rfl)
                      clear hf hp
                      go_wp2_with fail
                      refine wp_region_held_drew (S := fun w' => w'.rangeAt N 0 [.slice A n c, .slice B m d, .int .i64 p0, .int .i64 p1, .int .i64 p2, .int .i64 p3, .int .i64 p4, .int .i64 p5, .int .i64 p6, .int .i64 p7, .int .i64 p8, .int .i64 p9, .int .i64 p10, .int .i64 p11, .int .i64 p12, .int .i64 p13, .int .i64 p14, .int .i64 p15, .int .i64 p16, .int .i64 p17, .int .i64 p18, .int .i64 p19] ∧ w'.cell? ⟨N + 1, 2, none⟩ = some (.slice (some ⟨b, off, none⟩) np e2) ∧ w'.cell? ⟨b, off + k2 * 2, none⟩ = some (.string p.name) ∧ Below wr.heap.size wr w') (by kernel_rfl) (mk _ hbW) (fun hHeld => ?_)
                      refine wpAnyH_take (i := 0) (v := .agg #[.slice A n c, .slice B m d, .int .i64 p0, .int .i64 p1, .int .i64 p2, .int .i64 p3, .int .i64 p4, .int .i64 p5, .int .i64 p6, .int .i64 p7, .int .i64 p8, .int .i64 p9, .int .i64 p10, .int .i64 p11, .int .i64 p12, .int .i64 p13, .int .i64 p14, .int .i64 p15, .int .i64 p16, .int .i64 p17, .int .i64 p18, .int .i64 p19]) rfl (by kernel_rfl) (by kernel_rfl) (by kernel_rfl) (fun _ _ _ h => h) (yieldsIf_load_mid (by rfl) 27 (.tmp 2) rfl N 0 rfl [.slice A n c, .slice B m d, .int .i64 p0, .int .i64 p1, .int .i64 p2, .int .i64 p3, .int .i64 p4, .int .i64 p5, .int .i64 p6, .int .i64 p7, .int .i64 p8, .int .i64 p9, .int .i64 p10, .int .i64 p11, .int .i64 p12, .int .i64 p13, .int .i64 p14, .int .i64 p15, .int .i64 p16, .int .i64 p17, .int .i64 p18, .int .i64 p19] _ (fun w h => h.1) Try.underlying27 rfl (by kernel_rfl)) hHeld ?_
                      simp only [Act.put]; (try simp only [List.setIfInBounds_toArray, List.set_cons_zero, List.set_cons_succ])
                      refine wpAnyH_take (i := 1) (v := ?_) rfl (by kernel_rfl) (by kernel_rfl) (by kernel_rfl) (fun _ _ _ h => h) (Or.inl ⟨by rfl, ?_⟩) hHeld ?_
                      rotate_left
                      · intro w hSw; (try dsimp only at hSw); go_simp; try with_reducible rfl
                      simp only [Act.put]; (try simp only [List.setIfInBounds_toArray, List.set_cons_zero, List.set_cons_succ])
                      refine wpAnyH_take (i := 2) (v := ?_) rfl (by kernel_rfl) (by kernel_rfl) (by kernel_rfl) (fun _ _ _ h => h) (Or.inl ⟨by rfl, ?_⟩) hHeld ?_
                      rotate_left
                      · intro w hSw; (try dsimp only at hSw); go_simp; try with_reducible rfl
                      simp only [Act.put]; (try simp only [List.setIfInBounds_toArray, List.set_cons_zero, List.set_cons_succ])
                      refine wpAnyH_take (i := 3) (v := ?_) rfl (by kernel_rfl) (by kernel_rfl) (by kernel_rfl) (fun _ _ _ h => h) (Or.inl ⟨by rfl, ?_⟩) hHeld ?_
                      rotate_left
                      · intro w hSw; (try dsimp only at hSw); go_simp; try with_reducible rfl
                      simp only [Act.put]; (try simp only [List.setIfInBounds_toArray, List.set_cons_zero, List.set_cons_succ])
                      refine wpAnyH_take (i := 4) (v := ?_) rfl (by kernel_rfl) (by kernel_rfl) (by kernel_rfl) (fun _ _ _ h => h) (Or.inl ⟨by rfl, ?_⟩) hHeld ?_
                      rotate_left
                      · intro w hSw; (try dsimp only at hSw); go_simp; try with_reducible rfl
                      simp only [Act.put]; (try simp only [List.setIfInBounds_toArray, List.set_cons_zero, List.set_cons_succ])
                      refine wpAnyH_take (i := 5) (v := ?_) rfl (by kernel_rfl) (by kernel_rfl) (by kernel_rfl) (fun _ _ _ h => h) (Or.inl ⟨by rfl, ?_⟩) hHeld ?_
                      rotate_left
                      · intro w hSw; (try dsimp only at hSw); go_simp; try with_reducible rfl
                      simp only [Act.put]; (try simp only [List.setIfInBounds_toArray, List.set_cons_zero, List.set_cons_succ])
                      refine wpAnyH_take (i := 6) (v := ?_) rfl (by kernel_rfl) (by kernel_rfl) (by kernel_rfl) (fun _ _ _ h => h) (Or.inl ⟨by rfl, ?_⟩) hHeld ?_
                      rotate_left
                      · intro w hSw; (try dsimp only at hSw); go_simp; try with_reducible rfl
                      simp only [Act.put]; (try simp only [List.setIfInBounds_toArray, List.set_cons_zero, List.set_cons_succ])
                      refine wpAnyH_ready (rs := [7, 11]) (by kernel_rfl) (by simp) ?_
                      refine AllReadyH.cons rfl (fun K hK => ?_) ?_
                      · obtain ⟨q1, q2, q3, q4⟩ := hHeld
                        go_simp
                        refine (HC2.out _ q4).mono ?_
                        rintro e w6 ⟨rfl, hb6⟩
                        refine hK.out _ _ (mk _ (below_self q4 hb6)) (fun hHeld => ?_)
                        clear hK K q1 q2 q3 q4
                        (try simp only [Act.put]; (try simp only [List.setIfInBounds_toArray, List.set_cons_zero, List.set_cons_succ]))
                        refine wpAnyH_take (i := 8) (v := ?_) rfl (by kernel_rfl) (by kernel_rfl) (by kernel_rfl) (fun _ _ _ h => h) (Or.inl ⟨by rfl, ?_⟩) hHeld ?_
                        rotate_left
                        · intro w hSw; (try dsimp only at hSw); go_simp; try with_reducible rfl
                        simp only [Act.put]; (try simp only [List.setIfInBounds_toArray, List.set_cons_zero, List.set_cons_succ])
                        refine wpAnyH_take (i := 9) (v := ?_) rfl (by kernel_rfl) (by kernel_rfl) (by kernel_rfl) (fun _ _ _ h => h) (Or.inl ⟨by rfl, ?_⟩) hHeld ?_
                        rotate_left
                        · intro w hSw; (try dsimp only at hSw); go_simp; try with_reducible rfl
                        simp only [Act.put]; (try simp only [List.setIfInBounds_toArray, List.set_cons_zero, List.set_cons_succ])
                        refine wpAnyH_take (i := 10) (v := ?_) rfl (by kernel_rfl) (by kernel_rfl) (by kernel_rfl) (fun _ _ _ h => h) (Or.inl ⟨by rfl, ?_⟩) hHeld ?_
                        rotate_left
                        · intro w hSw; (try dsimp only at hSw); go_simp; try with_reducible rfl
                        simp only [Act.put]; (try simp only [List.setIfInBounds_toArray, List.set_cons_zero, List.set_cons_succ])
                        refine wpAnyH_ready (rs := [11]) (by kernel_rfl) (by simp) ?_
                        refine AllReadyH.cons rfl (fun K hK => ?_) AllReadyH.nil
                        obtain ⟨q1, q2, q3, q4⟩ := hHeld
                        go_simp
                        obtain ⟨BK, hBK⟩ : ∃ BK, w6.heap.size = BK := ⟨_, rfl⟩
                        have hle : wr.heap.size ≤ BK := hBK ▸ q4.size
                        obtain ⟨W7, hW7⟩ : ∃ W7, w6.alloc (.cells #[.string ⟨#[]⟩, .int .i64 0, .int .i64 0, .int .i64 0, .int .i64 0, .int .i64 0] 31) = W7 := ⟨_, rfl⟩
                        have hsix := six_new hBK (.string ⟨#[]⟩) (.int .i64 0) (.int .i64 0) (.int .i64 0) (.int .i64 0) (.int .i64 0) 31
                        have hq7 : Below wr.heap.size wr W7 := hW7 ▸ below_self q4 (below_new _ _)
                        rw [hW7] at hsix ⊢
                        rw [hBK]
                        clear hW7 hBK
                        refine hK.out _ _ (mk _ hq7) (fun hHeld => ?_)
                        clear hK K q1 q2 q3 q4
                        (try simp only [Act.put]; (try simp only [List.setIfInBounds_toArray, List.set_cons_zero, List.set_cons_succ]))
                        obtain ⟨⟨c0, c1, c2, c3, c4, c5⟩, g0, g1, g2, g3, g4, g5⟩ := hsix
                        obtain ⟨q1, q2, q3, q4⟩ := hHeld
                        have HQ4 := Lib.hid q4
                        clear q1 q2 q3 q4
                        refine wpAnyH_ready (rs := [12]) (by kernel_rfl) (by simp) ?_
                        refine AllReadyH.cons rfl (fun K hK => ?_) AllReadyH.nil
                        go_simp
                        obtain ⟨W8, hW8⟩ : ∃ W8, W8 = (((((W7.setCell ⟨BK, 0, none⟩ (.string ⟨#[]⟩)).setCell ⟨BK, 1, none⟩ (.int .i64 0)).setCell ⟨BK, 2, none⟩ (.int .i64 0)).setCell ⟨BK, 3, none⟩ (.int .i64 0)).setCell ⟨BK, 4, none⟩ (.int .i64 0)).setCell ⟨BK, 5, none⟩ (.int .i64 0) := ⟨_, rfl⟩
                        have hq8 : Below wr.heap.size wr W8 := hW8 ▸ below_set6 HQ4.out hle _ _ _ _ _ _
                        obtain ⟨d0, d1, d2, d3, d4, d5⟩ := set6_cells c0 c1 c2 c3 c4 c5 (.string ⟨#[]⟩) (.int .i64 0) (.int .i64 0) (.int .i64 0) (.int .i64 0) (.int .i64 0) hW8
                        clear c0 c1 c2 c3 c4 c5 g0 g1 g2 g3 g4 g5 HQ4
                        rw [← hW8]
                        clear hW8
                        refine hK.out _ _ (mk _ hq8) (fun hHeld => ?_)
                        clear hK K
                        (try simp only [Act.put]; (try simp only [List.setIfInBounds_toArray, List.set_cons_zero, List.set_cons_succ]))
                        refine wpAnyH_ready (rs := [13]) (by kernel_rfl) (by simp) ?_
                        refine AllReadyH.cons rfl (fun K hK => ?_) AllReadyH.nil
                        clear hHeld
                        go_simp
                        refine hK.out _ _ (mk _ hq8) (fun hHeld => ?_)
                        clear hK K hHeld mk
                        (try simp only [Act.put]; (try simp only [List.setIfInBounds_toArray, List.set_cons_zero, List.set_cons_succ]))
                        refine wpAnyH_done (by kernel_rfl) ?_ _
                        go_wp2_with fail
                        go_quiet (fail)
                        go_wp2
                        go_ret
                        exact ⟨ret_bool HX.out.symm, hN ▸ below_self (below_self (below_self (below_self HB.out HBR.out) HBX.out) hq8) (below_drewN _ _)⟩

                      · refine AllReadyH.cons rfl (fun K hK => ?_) AllReadyH.nil
                        obtain ⟨q1, q2, q3, q4⟩ := hHeld
                        go_simp
                        obtain ⟨BK, hBK⟩ : ∃ BK, wr.heap.size = BK := ⟨_, rfl⟩
                        have hle : wr.heap.size ≤ BK := Nat.le_of_eq hBK
                        obtain ⟨W7, hW7⟩ : ∃ W7, (wr.alloc (.cells #[.string ⟨#[]⟩, .int .i64 0, .int .i64 0, .int .i64 0, .int .i64 0, .int .i64 0] 31)).drew = W7 := ⟨_, rfl⟩
                        have hsix := (six_new hBK (.string ⟨#[]⟩) (.int .i64 0) (.int .i64 0) (.int .i64 0) (.int .i64 0) (.int .i64 0) 31).below (below_drew _)
                        have hq7 : Below wr.heap.size wr W7 := hW7 ▸ below_self (below_new _ _) (below_drew _)
                        rw [hW7] at hsix ⊢
                        rw [hBK]
                        clear hW7
                        refine hK.out _ _ (mk _ hq7) (fun hHeld => ?_)
                        clear hK K q1 q2 q3 q4
                        (try simp only [Act.put]; (try simp only [List.setIfInBounds_toArray, List.set_cons_zero, List.set_cons_succ]))
                        refine wpAnyH_ready (rs := [7]) (by kernel_rfl) (by simp) ?_
                        refine AllReadyH.cons rfl (fun K hK => ?_) AllReadyH.nil
                        obtain ⟨q1, q2, q3, q4⟩ := hHeld
                        go_simp
                        refine (HC2.out _ q4).mono ?_
                        rintro e w6 ⟨rfl, hb6⟩
                        replace hsix := hsix.below hb6
                        refine hK.out _ _ (mk _ (below_self q4 hb6)) (fun hHeld => ?_)
                        clear hK K q1 q2 q3 q4
                        (try simp only [Act.put]; (try simp only [List.setIfInBounds_toArray, List.set_cons_zero, List.set_cons_succ]))
                        refine wpAnyH_take (i := 8) (v := ?_) rfl (by kernel_rfl) (by kernel_rfl) (by kernel_rfl) (fun _ _ _ h => h) (Or.inl ⟨by rfl, ?_⟩) hHeld ?_
                        rotate_left
                        · intro w hSw; (try dsimp only at hSw); go_simp; try with_reducible rfl
                        simp only [Act.put]; (try simp only [List.setIfInBounds_toArray, List.set_cons_zero, List.set_cons_succ])
                        refine wpAnyH_take (i := 9) (v := ?_) rfl (by kernel_rfl) (by kernel_rfl) (by kernel_rfl) (fun _ _ _ h => h) (Or.inl ⟨by rfl, ?_⟩) hHeld ?_
                        rotate_left
                        · intro w hSw; (try dsimp only at hSw); go_simp; try with_reducible rfl
                        simp only [Act.put]; (try simp only [List.setIfInBounds_toArray, List.set_cons_zero, List.set_cons_succ])
                        refine wpAnyH_take (i := 10) (v := ?_) rfl (by kernel_rfl) (by kernel_rfl) (by kernel_rfl) (fun _ _ _ h => h) (Or.inl ⟨by rfl, ?_⟩) hHeld ?_
                        rotate_left
                        · intro w hSw; (try dsimp only at hSw); go_simp; try with_reducible rfl
                        simp only [Act.put]; (try simp only [List.setIfInBounds_toArray, List.set_cons_zero, List.set_cons_succ])
                        obtain ⟨⟨c0, c1, c2, c3, c4, c5⟩, g0, g1, g2, g3, g4, g5⟩ := hsix
                        obtain ⟨q1, q2, q3, q4⟩ := hHeld
                        have HQ4 := Lib.hid q4
                        clear q1 q2 q3 q4
                        refine wpAnyH_ready (rs := [12]) (by kernel_rfl) (by simp) ?_
                        refine AllReadyH.cons rfl (fun K hK => ?_) AllReadyH.nil
                        go_simp
                        obtain ⟨W8, hW8⟩ : ∃ W8, W8 = (((((w6.setCell ⟨BK, 0, none⟩ (.string ⟨#[]⟩)).setCell ⟨BK, 1, none⟩ (.int .i64 0)).setCell ⟨BK, 2, none⟩ (.int .i64 0)).setCell ⟨BK, 3, none⟩ (.int .i64 0)).setCell ⟨BK, 4, none⟩ (.int .i64 0)).setCell ⟨BK, 5, none⟩ (.int .i64 0) := ⟨_, rfl⟩
                        have hq8 : Below wr.heap.size wr W8 := hW8 ▸ below_set6 HQ4.out hle _ _ _ _ _ _
                        obtain ⟨d0, d1, d2, d3, d4, d5⟩ := set6_cells c0 c1 c2 c3 c4 c5 (.string ⟨#[]⟩) (.int .i64 0) (.int .i64 0) (.int .i64 0) (.int .i64 0) (.int .i64 0) hW8
                        clear c0 c1 c2 c3 c4 c5 g0 g1 g2 g3 g4 g5 HQ4
                        rw [← hW8]
                        clear hW8
                        refine hK.out _ _ (mk _ hq8) (fun hHeld => ?_)
                        clear hK K
                        (try simp only [Act.put]; (try simp only [List.setIfInBounds_toArray, List.set_cons_zero, List.set_cons_succ]))
                        refine wpAnyH_ready (rs := [13]) (by kernel_rfl) (by simp) ?_
                        refine AllReadyH.cons rfl (fun K hK => ?_) AllReadyH.nil
                        clear hHeld
                        go_simp
                        refine hK.out _ _ (mk _ hq8) (fun hHeld => ?_)
                        clear hK K hHeld mk
                        (try simp only [Act.put]; (try simp only [List.setIfInBounds_toArray, List.set_cons_zero, List.set_cons_succ]))
                        refine wpAnyH_done (by kernel_rfl) ?_ _
                        go_wp2_with fail
                        go_quiet (fail)
                        go_wp2
                        go_ret
                        exact ⟨ret_bool HX.out.symm, hN ▸ below_self (below_self (below_self (below_self HB.out HBR.out) HBX.out) hq8) (below_drewN _ _)⟩

                    | some g =>
                      have hgm : metP g := HM.out g (find_mem hf)
                      have hgb := hgt_bd hgm
                      obtain ⟨Hg, hHg⟩ : ∃ Hg, height g = Hg := ⟨_, rfl⟩
                      have HC2 : Hid (∀ W, Below wr.heap.size wr W → Calls Try.prog 15 #[.agg #[.slice A n c, .slice B m d, .int .i64 p0, .int .i64 p1, .int .i64 p2, .int .i64 p3, .int .i64 p4, .int .i64 p5, .int .i64 p6, .int .i64 p7, .int .i64 p8, .int .i64 p9, .int .i64 p10, .int .i64 p11, .int .i64 p12, .int .i64 p13, .int .i64 p14, .int .i64 p15, .int .i64 p16, .int .i64 p17, .int .i64 p18, .int .i64 p19], .string p.name] W fun e w' => e = .returned (.tuple #[.agg #[.string g.name, .int .i64 g.W, .int .i64 g.H, .int .i64 g.D, .int .i64 g.I, .int .i64 g.A], .bool true]) ∧ Below W.heap.size W w') :=
                        Lib.hid fun W hb => rfind_let (g := g) HN.out ((HGAR.out.below HBX.out).below hb) (by have := HGL.out; omega) (.inl ⟨rfl, hf⟩)
                      have HH : Hid (∀ W, Calls Try.prog 51 #[.agg #[.string g.name, .int .i64 g.W, .int .i64 g.H, .int .i64 g.D, .int .i64 g.I, .int .i64 g.A]] W fun e w' => e = .returned (.int .i64 Hg) ∧ Below W.heap.size W w') :=
                        Lib.hid fun W => hHg ▸ rheight_any g W (by unfold height at hgb; omega)
                      have HGX : Hid (hgt gs p.name = Hg) := Lib.hid (hHg ▸ hgt_of hf)
                      have HFS : Hid ((findG gs p.name).isSome = true) := Lib.hid (by rw [hf]; rfl)
                      clear hf hgm
                      rw [hHg] at hgb
                      clear hHg
                      go_wp2_with fail
                      refine wp_region_held_drew (S := fun w' => w'.rangeAt N 0 [.slice A n c, .slice B m d, .int .i64 p0, .int .i64 p1, .int .i64 p2, .int .i64 p3, .int .i64 p4, .int .i64 p5, .int .i64 p6, .int .i64 p7, .int .i64 p8, .int .i64 p9, .int .i64 p10, .int .i64 p11, .int .i64 p12, .int .i64 p13, .int .i64 p14, .int .i64 p15, .int .i64 p16, .int .i64 p17, .int .i64 p18, .int .i64 p19] ∧ w'.cell? ⟨N + 1, 2, none⟩ = some (.slice (some ⟨b, off, none⟩) np e2) ∧ w'.cell? ⟨b, off + k2 * 2, none⟩ = some (.string p.name) ∧ Below wr.heap.size wr w') (by kernel_rfl) (mk _ hbW) (fun hHeld => ?_)
                      refine wpAnyH_take (i := 0) (v := .agg #[.slice A n c, .slice B m d, .int .i64 p0, .int .i64 p1, .int .i64 p2, .int .i64 p3, .int .i64 p4, .int .i64 p5, .int .i64 p6, .int .i64 p7, .int .i64 p8, .int .i64 p9, .int .i64 p10, .int .i64 p11, .int .i64 p12, .int .i64 p13, .int .i64 p14, .int .i64 p15, .int .i64 p16, .int .i64 p17, .int .i64 p18, .int .i64 p19]) rfl (by kernel_rfl) (by kernel_rfl) (by kernel_rfl) (fun _ _ _ h => h) (yieldsIf_load_mid (by rfl) 27 (.tmp 2) rfl N 0 rfl [.slice A n c, .slice B m d, .int .i64 p0, .int .i64 p1, .int .i64 p2, .int .i64 p3, .int .i64 p4, .int .i64 p5, .int .i64 p6, .int .i64 p7, .int .i64 p8, .int .i64 p9, .int .i64 p10, .int .i64 p11, .int .i64 p12, .int .i64 p13, .int .i64 p14, .int .i64 p15, .int .i64 p16, .int .i64 p17, .int .i64 p18, .int .i64 p19] _ (fun w h => h.1) Try.underlying27 rfl (by kernel_rfl)) hHeld ?_
                      simp only [Act.put]; (try simp only [List.setIfInBounds_toArray, List.set_cons_zero, List.set_cons_succ])
                      refine wpAnyH_take (i := 1) (v := ?_) rfl (by kernel_rfl) (by kernel_rfl) (by kernel_rfl) (fun _ _ _ h => h) (Or.inl ⟨by rfl, ?_⟩) hHeld ?_
                      rotate_left
                      · intro w hSw; (try dsimp only at hSw); go_simp; try with_reducible rfl
                      simp only [Act.put]; (try simp only [List.setIfInBounds_toArray, List.set_cons_zero, List.set_cons_succ])
                      refine wpAnyH_take (i := 2) (v := ?_) rfl (by kernel_rfl) (by kernel_rfl) (by kernel_rfl) (fun _ _ _ h => h) (Or.inl ⟨by rfl, ?_⟩) hHeld ?_
                      rotate_left
                      · intro w hSw; (try dsimp only at hSw); go_simp; try with_reducible rfl
                      simp only [Act.put]; (try simp only [List.setIfInBounds_toArray, List.set_cons_zero, List.set_cons_succ])
                      refine wpAnyH_take (i := 3) (v := ?_) rfl (by kernel_rfl) (by kernel_rfl) (by kernel_rfl) (fun _ _ _ h => h) (Or.inl ⟨by rfl, ?_⟩) hHeld ?_
                      rotate_left
                      · intro w hSw; (try dsimp only at hSw); go_simp; try with_reducible rfl
                      simp only [Act.put]; (try simp only [List.setIfInBounds_toArray, List.set_cons_zero, List.set_cons_succ])
                      refine wpAnyH_take (i := 4) (v := ?_) rfl (by kernel_rfl) (by kernel_rfl) (by kernel_rfl) (fun _ _ _ h => h) (Or.inl ⟨by rfl, ?_⟩) hHeld ?_
                      rotate_left
                      · intro w hSw; (try dsimp only at hSw); go_simp; try with_reducible rfl
                      simp only [Act.put]; (try simp only [List.setIfInBounds_toArray, List.set_cons_zero, List.set_cons_succ])
                      refine wpAnyH_take (i := 5) (v := ?_) rfl (by kernel_rfl) (by kernel_rfl) (by kernel_rfl) (fun _ _ _ h => h) (Or.inl ⟨by rfl, ?_⟩) hHeld ?_
                      rotate_left
                      · intro w hSw; (try dsimp only at hSw); go_simp; try with_reducible rfl
                      simp only [Act.put]; (try simp only [List.setIfInBounds_toArray, List.set_cons_zero, List.set_cons_succ])
                      refine wpAnyH_take (i := 6) (v := ?_) rfl (by kernel_rfl) (by kernel_rfl) (by kernel_rfl) (fun _ _ _ h => h) (Or.inl ⟨by rfl, ?_⟩) hHeld ?_
                      rotate_left
                      · intro w hSw; (try dsimp only at hSw); go_simp; try with_reducible rfl
                      simp only [Act.put]; (try simp only [List.setIfInBounds_toArray, List.set_cons_zero, List.set_cons_succ])
                      refine wpAnyH_ready (rs := [7, 11]) (by kernel_rfl) (by simp) ?_
                      refine AllReadyH.cons rfl (fun K hK => ?_) ?_
                      · obtain ⟨q1, q2, q3, q4⟩ := hHeld
                        go_simp
                        refine (HC2.out _ q4).mono ?_
                        rintro e w6 ⟨rfl, hb6⟩
                        refine hK.out _ _ (mk _ (below_self q4 hb6)) (fun hHeld => ?_)
                        clear hK K q1 q2 q3 q4
                        (try simp only [Act.put]; (try simp only [List.setIfInBounds_toArray, List.set_cons_zero, List.set_cons_succ]))
                        refine wpAnyH_take (i := 8) (v := ?_) rfl (by kernel_rfl) (by kernel_rfl) (by kernel_rfl) (fun _ _ _ h => h) (Or.inl ⟨by rfl, ?_⟩) hHeld ?_
                        rotate_left
                        · intro w hSw; (try dsimp only at hSw); go_simp; try with_reducible rfl
                        simp only [Act.put]; (try simp only [List.setIfInBounds_toArray, List.set_cons_zero, List.set_cons_succ])
                        refine wpAnyH_take (i := 9) (v := ?_) rfl (by kernel_rfl) (by kernel_rfl) (by kernel_rfl) (fun _ _ _ h => h) (Or.inl ⟨by rfl, ?_⟩) hHeld ?_
                        rotate_left
                        · intro w hSw; (try dsimp only at hSw); go_simp; try with_reducible rfl
                        simp only [Act.put]; (try simp only [List.setIfInBounds_toArray, List.set_cons_zero, List.set_cons_succ])
                        refine wpAnyH_take (i := 10) (v := ?_) rfl (by kernel_rfl) (by kernel_rfl) (by kernel_rfl) (fun _ _ _ h => h) (Or.inl ⟨by rfl, ?_⟩) hHeld ?_
                        rotate_left
                        · intro w hSw; (try dsimp only at hSw); go_simp; try with_reducible rfl
                        simp only [Act.put]; (try simp only [List.setIfInBounds_toArray, List.set_cons_zero, List.set_cons_succ])
                        refine wpAnyH_ready (rs := [11]) (by kernel_rfl) (by simp) ?_
                        refine AllReadyH.cons rfl (fun K hK => ?_) AllReadyH.nil
                        obtain ⟨q1, q2, q3, q4⟩ := hHeld
                        go_simp
                        obtain ⟨BK, hBK⟩ : ∃ BK, w6.heap.size = BK := ⟨_, rfl⟩
                        have hle : wr.heap.size ≤ BK := hBK ▸ q4.size
                        obtain ⟨W7, hW7⟩ : ∃ W7, w6.alloc (.cells #[.string ⟨#[]⟩, .int .i64 0, .int .i64 0, .int .i64 0, .int .i64 0, .int .i64 0] 31) = W7 := ⟨_, rfl⟩
                        have hsix := six_new hBK (.string ⟨#[]⟩) (.int .i64 0) (.int .i64 0) (.int .i64 0) (.int .i64 0) (.int .i64 0) 31
                        have hq7 : Below wr.heap.size wr W7 := hW7 ▸ below_self q4 (below_new _ _)
                        rw [hW7] at hsix ⊢
                        rw [hBK]
                        clear hW7 hBK
                        refine hK.out _ _ (mk _ hq7) (fun hHeld => ?_)
                        clear hK K q1 q2 q3 q4
                        (try simp only [Act.put]; (try simp only [List.setIfInBounds_toArray, List.set_cons_zero, List.set_cons_succ]))
                        obtain ⟨⟨c0, c1, c2, c3, c4, c5⟩, g0, g1, g2, g3, g4, g5⟩ := hsix
                        obtain ⟨q1, q2, q3, q4⟩ := hHeld
                        have HQ4 := Lib.hid q4
                        clear q1 q2 q3 q4
                        refine wpAnyH_ready (rs := [12]) (by kernel_rfl) (by simp) ?_
                        refine AllReadyH.cons rfl (fun K hK => ?_) AllReadyH.nil
                        go_simp
                        obtain ⟨W8, hW8⟩ : ∃ W8, W8 = (((((W7.setCell ⟨BK, 0, none⟩ (.string g.name)).setCell ⟨BK, 1, none⟩ (.int .i64 g.W)).setCell ⟨BK, 2, none⟩ (.int .i64 g.H)).setCell ⟨BK, 3, none⟩ (.int .i64 g.D)).setCell ⟨BK, 4, none⟩ (.int .i64 g.I)).setCell ⟨BK, 5, none⟩ (.int .i64 g.A) := ⟨_, rfl⟩
                        have hq8 : Below wr.heap.size wr W8 := hW8 ▸ below_set6 HQ4.out hle _ _ _ _ _ _
                        obtain ⟨d0, d1, d2, d3, d4, d5⟩ := set6_cells c0 c1 c2 c3 c4 c5 (.string g.name) (.int .i64 g.W) (.int .i64 g.H) (.int .i64 g.D) (.int .i64 g.I) (.int .i64 g.A) hW8
                        clear c0 c1 c2 c3 c4 c5 g0 g1 g2 g3 g4 g5 HQ4
                        rw [← hW8]
                        clear hW8
                        refine hK.out _ _ (mk _ hq8) (fun hHeld => ?_)
                        clear hK K
                        (try simp only [Act.put]; (try simp only [List.setIfInBounds_toArray, List.set_cons_zero, List.set_cons_succ]))
                        refine wpAnyH_ready (rs := [13]) (by kernel_rfl) (by simp) ?_
                        refine AllReadyH.cons rfl (fun K hK => ?_) AllReadyH.nil
                        clear hHeld
                        go_simp
                        refine hK.out _ _ (mk _ hq8) (fun hHeld => ?_)
                        clear hK K hHeld mk
                        (try simp only [Act.put]; (try simp only [List.setIfInBounds_toArray, List.set_cons_zero, List.set_cons_succ]))
                        refine wpAnyH_done (by kernel_rfl) ?_ _
                        by_cases ho : Hg ≤ ov
                        · have HX : Hid (F = false) := Lib.hid (by rw [← HF3.out, all_no hpl (by rw [hp]; exact paOK_no (by rw [HGX.out]; exact ho))]; rfl)
                          go_wp2_with fail
                          have t3 := keep_cell hq8 t3
                          go_region_held3 (fun w' => w'.cell? ⟨N + 1, 3, none⟩ = some (.int .i64 ov) ∧ w'.cell? ⟨BK, 0, none⟩ = some (.string g.name) ∧ w'.cell? ⟨BK, 1, none⟩ = some (.int .i64 g.W) ∧ w'.cell? ⟨BK, 2, none⟩ = some (.int .i64 g.H) ∧ w'.cell? ⟨BK, 3, none⟩ = some (.int .i64 g.D) ∧ w'.cell? ⟨BK, 4, none⟩ = some (.int .i64 g.I) ∧ w'.cell? ⟨BK, 5, none⟩ = some (.int .i64 g.A))
                            (first
                              | (go_keep; done)
                              | (go_split_ands
                                 refine ⟨?_, ?_, ?_, ?_, ?_, ?_, ?_⟩
                                 all_goals ((rw [hb9.cell (World.block_lt_of_cell? _ _ (by assumption))]; assumption))))
                            (first
                              | (go_at_call 51; refine (HH.out _).mono ?_; rintro e w9 ⟨rfl, hb9⟩)
                              | fail)
                          have hq9 := below_self (below_self hq8 (below_drew _)) hb9
                          clear hb9
                          go_wp2_with fail
                          go_ret
                          exact ⟨ret_bool HX.out.symm, hN ▸ below_self (below_self (below_self HB.out HBR.out) HBX.out) hq9⟩
                        · have HP2 : Hid (∀ j (h : j < ps.length), j < k2 + 1 → paOK gs ov ps[j] = true) := Lib.hid fun j hj h => by
                            rcases Nat.lt_succ_iff_lt_or_eq.1 h with h' | rfl
                            · exact HP.out j hj h'
                            · rw [hp]; exact paOK_of HFS.out (by rw [HGX.out]; omega)
                          go_wp2_with fail
                          have t3 := keep_cell hq8 t3
                          go_region_held3 (fun w' => w'.cell? ⟨N + 1, 3, none⟩ = some (.int .i64 ov) ∧ w'.cell? ⟨BK, 0, none⟩ = some (.string g.name) ∧ w'.cell? ⟨BK, 1, none⟩ = some (.int .i64 g.W) ∧ w'.cell? ⟨BK, 2, none⟩ = some (.int .i64 g.H) ∧ w'.cell? ⟨BK, 3, none⟩ = some (.int .i64 g.D) ∧ w'.cell? ⟨BK, 4, none⟩ = some (.int .i64 g.I) ∧ w'.cell? ⟨BK, 5, none⟩ = some (.int .i64 g.A))
                            (first
                              | (go_keep; done)
                              | (go_split_ands
                                 refine ⟨?_, ?_, ?_, ?_, ?_, ?_, ?_⟩
                                 all_goals ((rw [hb9.cell (World.block_lt_of_cell? _ _ (by assumption))]; assumption))))
                            (first
                              | (go_at_call 51; refine (HH.out _).mono ?_; rintro e w9 ⟨rfl, hb9⟩)
                              | fail)
                          have hq9 := below_self (below_self hq8 (below_drew _)) hb9
                          clear hb9
                          have t2 := keep_cell hq9 t2
                          have y1 := keep_cell hq9 y1
                          cases E with
                          | true =>
                            have HZ2 : Hid (true = (ps.take (k2 + 1)).any fun p => p.ext) := Lib.hid (by rw [any_next hpl, ← HXE.out]; rfl)
                            go_wp2_with fail
                            go_roundw
                            case rel => exact ⟨k2 + 1, true, by omega, by go_num, rfl, HZ2, HP2, Lib.hid (below_self HBX.out hq9)⟩
                            case measure => simp [intOf]; omega
                          | false =>
                            have HZ2 : Hid (p.ext = (ps.take (k2 + 1)).any fun p => p.ext) := Lib.hid (by rw [any_next hpl, ← HXE.out, Bool.false_or, hp])
                            go_wp2_with fail
                            go_roundw
                            case rel => exact ⟨k2 + 1, p.ext, by omega, by go_num, rfl, HZ2, HP2, Lib.hid (below_self HBX.out hq9)⟩
                            case measure => simp [intOf]; omega

                      · refine AllReadyH.cons rfl (fun K hK => ?_) AllReadyH.nil
                        obtain ⟨q1, q2, q3, q4⟩ := hHeld
                        go_simp
                        obtain ⟨BK, hBK⟩ : ∃ BK, wr.heap.size = BK := ⟨_, rfl⟩
                        have hle : wr.heap.size ≤ BK := Nat.le_of_eq hBK
                        obtain ⟨W7, hW7⟩ : ∃ W7, (wr.alloc (.cells #[.string ⟨#[]⟩, .int .i64 0, .int .i64 0, .int .i64 0, .int .i64 0, .int .i64 0] 31)).drew = W7 := ⟨_, rfl⟩
                        have hsix := (six_new hBK (.string ⟨#[]⟩) (.int .i64 0) (.int .i64 0) (.int .i64 0) (.int .i64 0) (.int .i64 0) 31).below (below_drew _)
                        have hq7 : Below wr.heap.size wr W7 := hW7 ▸ below_self (below_new _ _) (below_drew _)
                        rw [hW7] at hsix ⊢
                        rw [hBK]
                        clear hW7
                        refine hK.out _ _ (mk _ hq7) (fun hHeld => ?_)
                        clear hK K q1 q2 q3 q4
                        (try simp only [Act.put]; (try simp only [List.setIfInBounds_toArray, List.set_cons_zero, List.set_cons_succ]))
                        refine wpAnyH_ready (rs := [7]) (by kernel_rfl) (by simp) ?_
                        refine AllReadyH.cons rfl (fun K hK => ?_) AllReadyH.nil
                        obtain ⟨q1, q2, q3, q4⟩ := hHeld
                        go_simp
                        refine (HC2.out _ q4).mono ?_
                        rintro e w6 ⟨rfl, hb6⟩
                        replace hsix := hsix.below hb6
                        refine hK.out _ _ (mk _ (below_self q4 hb6)) (fun hHeld => ?_)
                        clear hK K q1 q2 q3 q4
                        (try simp only [Act.put]; (try simp only [List.setIfInBounds_toArray, List.set_cons_zero, List.set_cons_succ]))
                        refine wpAnyH_take (i := 8) (v := ?_) rfl (by kernel_rfl) (by kernel_rfl) (by kernel_rfl) (fun _ _ _ h => h) (Or.inl ⟨by rfl, ?_⟩) hHeld ?_
                        rotate_left
                        · intro w hSw; (try dsimp only at hSw); go_simp; try with_reducible rfl
                        simp only [Act.put]; (try simp only [List.setIfInBounds_toArray, List.set_cons_zero, List.set_cons_succ])
                        refine wpAnyH_take (i := 9) (v := ?_) rfl (by kernel_rfl) (by kernel_rfl) (by kernel_rfl) (fun _ _ _ h => h) (Or.inl ⟨by rfl, ?_⟩) hHeld ?_
                        rotate_left
                        · intro w hSw; (try dsimp only at hSw); go_simp; try with_reducible rfl
                        simp only [Act.put]; (try simp only [List.setIfInBounds_toArray, List.set_cons_zero, List.set_cons_succ])
                        refine wpAnyH_take (i := 10) (v := ?_) rfl (by kernel_rfl) (by kernel_rfl) (by kernel_rfl) (fun _ _ _ h => h) (Or.inl ⟨by rfl, ?_⟩) hHeld ?_
                        rotate_left
                        · intro w hSw; (try dsimp only at hSw); go_simp; try with_reducible rfl
                        simp only [Act.put]; (try simp only [List.setIfInBounds_toArray, List.set_cons_zero, List.set_cons_succ])
                        obtain ⟨⟨c0, c1, c2, c3, c4, c5⟩, g0, g1, g2, g3, g4, g5⟩ := hsix
                        obtain ⟨q1, q2, q3, q4⟩ := hHeld
                        have HQ4 := Lib.hid q4
                        clear q1 q2 q3 q4
                        refine wpAnyH_ready (rs := [12]) (by kernel_rfl) (by simp) ?_
                        refine AllReadyH.cons rfl (fun K hK => ?_) AllReadyH.nil
                        go_simp
                        obtain ⟨W8, hW8⟩ : ∃ W8, W8 = (((((w6.setCell ⟨BK, 0, none⟩ (.string g.name)).setCell ⟨BK, 1, none⟩ (.int .i64 g.W)).setCell ⟨BK, 2, none⟩ (.int .i64 g.H)).setCell ⟨BK, 3, none⟩ (.int .i64 g.D)).setCell ⟨BK, 4, none⟩ (.int .i64 g.I)).setCell ⟨BK, 5, none⟩ (.int .i64 g.A) := ⟨_, rfl⟩
                        have hq8 : Below wr.heap.size wr W8 := hW8 ▸ below_set6 HQ4.out hle _ _ _ _ _ _
                        obtain ⟨d0, d1, d2, d3, d4, d5⟩ := set6_cells c0 c1 c2 c3 c4 c5 (.string g.name) (.int .i64 g.W) (.int .i64 g.H) (.int .i64 g.D) (.int .i64 g.I) (.int .i64 g.A) hW8
                        clear c0 c1 c2 c3 c4 c5 g0 g1 g2 g3 g4 g5 HQ4
                        rw [← hW8]
                        clear hW8
                        refine hK.out _ _ (mk _ hq8) (fun hHeld => ?_)
                        clear hK K
                        (try simp only [Act.put]; (try simp only [List.setIfInBounds_toArray, List.set_cons_zero, List.set_cons_succ]))
                        refine wpAnyH_ready (rs := [13]) (by kernel_rfl) (by simp) ?_
                        refine AllReadyH.cons rfl (fun K hK => ?_) AllReadyH.nil
                        clear hHeld
                        go_simp
                        refine hK.out _ _ (mk _ hq8) (fun hHeld => ?_)
                        clear hK K hHeld mk
                        (try simp only [Act.put]; (try simp only [List.setIfInBounds_toArray, List.set_cons_zero, List.set_cons_succ]))
                        refine wpAnyH_done (by kernel_rfl) ?_ _
                        by_cases ho : Hg ≤ ov
                        · have HX : Hid (F = false) := Lib.hid (by rw [← HF3.out, all_no hpl (by rw [hp]; exact paOK_no (by rw [HGX.out]; exact ho))]; rfl)
                          go_wp2_with fail
                          have t3 := keep_cell hq8 t3
                          go_region_held3 (fun w' => w'.cell? ⟨N + 1, 3, none⟩ = some (.int .i64 ov) ∧ w'.cell? ⟨BK, 0, none⟩ = some (.string g.name) ∧ w'.cell? ⟨BK, 1, none⟩ = some (.int .i64 g.W) ∧ w'.cell? ⟨BK, 2, none⟩ = some (.int .i64 g.H) ∧ w'.cell? ⟨BK, 3, none⟩ = some (.int .i64 g.D) ∧ w'.cell? ⟨BK, 4, none⟩ = some (.int .i64 g.I) ∧ w'.cell? ⟨BK, 5, none⟩ = some (.int .i64 g.A))
                            (first
                              | (go_keep; done)
                              | (go_split_ands
                                 refine ⟨?_, ?_, ?_, ?_, ?_, ?_, ?_⟩
                                 all_goals ((rw [hb9.cell (World.block_lt_of_cell? _ _ (by assumption))]; assumption))))
                            (first
                              | (go_at_call 51; refine (HH.out _).mono ?_; rintro e w9 ⟨rfl, hb9⟩)
                              | fail)
                          have hq9 := below_self (below_self hq8 (below_drew _)) hb9
                          clear hb9
                          go_wp2_with fail
                          go_ret
                          exact ⟨ret_bool HX.out.symm, hN ▸ below_self (below_self (below_self HB.out HBR.out) HBX.out) hq9⟩
                        · have HP2 : Hid (∀ j (h : j < ps.length), j < k2 + 1 → paOK gs ov ps[j] = true) := Lib.hid fun j hj h => by
                            rcases Nat.lt_succ_iff_lt_or_eq.1 h with h' | rfl
                            · exact HP.out j hj h'
                            · rw [hp]; exact paOK_of HFS.out (by rw [HGX.out]; omega)
                          go_wp2_with fail
                          have t3 := keep_cell hq8 t3
                          go_region_held3 (fun w' => w'.cell? ⟨N + 1, 3, none⟩ = some (.int .i64 ov) ∧ w'.cell? ⟨BK, 0, none⟩ = some (.string g.name) ∧ w'.cell? ⟨BK, 1, none⟩ = some (.int .i64 g.W) ∧ w'.cell? ⟨BK, 2, none⟩ = some (.int .i64 g.H) ∧ w'.cell? ⟨BK, 3, none⟩ = some (.int .i64 g.D) ∧ w'.cell? ⟨BK, 4, none⟩ = some (.int .i64 g.I) ∧ w'.cell? ⟨BK, 5, none⟩ = some (.int .i64 g.A))
                            (first
                              | (go_keep; done)
                              | (go_split_ands
                                 refine ⟨?_, ?_, ?_, ?_, ?_, ?_, ?_⟩
                                 all_goals ((rw [hb9.cell (World.block_lt_of_cell? _ _ (by assumption))]; assumption))))
                            (first
                              | (go_at_call 51; refine (HH.out _).mono ?_; rintro e w9 ⟨rfl, hb9⟩)
                              | fail)
                          have hq9 := below_self (below_self hq8 (below_drew _)) hb9
                          clear hb9
                          have t2 := keep_cell hq9 t2
                          have y1 := keep_cell hq9 y1
                          cases E with
                          | true =>
                            have HZ2 : Hid (true = (ps.take (k2 + 1)).any fun p => p.ext) := Lib.hid (by rw [any_next hpl, ← HXE.out]; rfl)
                            go_wp2_with fail
                            go_roundw
                            case rel => exact ⟨k2 + 1, true, by omega, by go_num, rfl, HZ2, HP2, Lib.hid (below_self HBX.out hq9)⟩
                            case measure => simp [intOf]; omega
                          | false =>
                            have HZ2 : Hid (p.ext = (ps.take (k2 + 1)).any fun p => p.ext) := Lib.hid (by rw [any_next hpl, ← HXE.out, Bool.false_or, hp])
                            go_wp2_with fail
                            go_roundw
                            case rel => exact ⟨k2 + 1, p.ext, by omega, by go_num, rfl, HZ2, HP2, Lib.hid (below_self HBX.out hq9)⟩
                            case measure => simp [intOf]; omega

                  · have hAll : ps.all (paOK gs ov) = true := all_yes fun j hj => HP.out j hj (by have := HNP.out; omega)
                    have hAny : E = ps.any fun p => p.ext := by rw [HXE.out, List.take_of_length_le (by have := HNP.out; omega)]
                    have HX : Hid ((E && decide (0 ≤ ov)) = F) := Lib.hid (by rw [← HF3.out, hAll, hAny, Bool.true_and])
                    clear hAll hAny HXE
                    cases E with
                    | false =>
                      go_wp2_with fail
                      go_ret
                      exact ⟨ret_bool HX.out, hN ▸ below_self (below_self HB.out HBR.out) HBX.out⟩
                    | true =>
                      go_wp2_with fail
                      go_ret
                      exact ⟨ret_bool HX.out, hN ▸ below_self (below_self HB.out HBR.out) HBX.out⟩
end Go.Proofs.Ytjhpajdkklklhaa.Fon
