/- The program's package font: Pick. -/
import Derived.Test.YtjhpajdkklklhaaFntFind
import Derived.Test.YtjhpajdkklklhaaFonPick
namespace Go.Proofs.Ytjhpajdkklklhaa.Fon
open Go Go.RowKit By

theorem find_two (gs : List Gl) (nm : ByteArray) : (∃ g, findG gs nm = some g) ∨ findG gs nm = none := by
  cases findG gs nm with
  | none => exact .inr rfl
  | some g => exact .inl ⟨g, rfl⟩
set_option maxRecDepth 100000 in
set_option maxHeartbeats 4000000 in
theorem pick_any {w : World} {A B : Option Addr} {n c m d : Nat} {p0 p1 p2 p3 p4 p5 p6 p7 p8 p9 p10 p11 p12 p13 p14 p15 p16 p17 p18 p19 : Int} {gs : List Gl} {nm : ByteArray} (hn : n = gs.length) (hg : GlsAt w w.heap.size A gs) (hl : gs.length ≤ 9223372036854775807) :
    Calls Try.prog 18 #[.agg #[.slice A n c, .slice B m d, .int .i64 p0, .int .i64 p1, .int .i64 p2, .int .i64 p3, .int .i64 p4, .int .i64 p5, .int .i64 p6, .int .i64 p7, .int .i64 p8, .int .i64 p9, .int .i64 p10, .int .i64 p11, .int .i64 p12, .int .i64 p13, .int .i64 p14, .int .i64 p15, .int .i64 p16, .int .i64 p17, .int .i64 p18, .int .i64 p19], .string nm] w fun e w' => e = .returned (.agg #[.string (pick gs nm).name, .int .i64 (pick gs nm).W, .int .i64 (pick gs nm).H, .int .i64 (pick gs nm).D, .int .i64 (pick gs nm).I, .int .i64 (pick gs nm).A]) ∧ Below w.heap.size w w' := by
  obtain ⟨G, hG⟩ : ∃ G, pick gs nm = G := ⟨_, rfl⟩
  have HG := Lib.hid hG
  rw [hG]
  obtain ⟨N, hN⟩ : ∃ N, w.heap.size = N := ⟨_, rfl⟩
  obtain ⟨Wa, hWa⟩ : ∃ W', W' = w.alloc (.cells #[.slice A n c, .slice B m d, .int .i64 p0, .int .i64 p1, .int .i64 p2, .int .i64 p3, .int .i64 p4, .int .i64 p5, .int .i64 p6, .int .i64 p7, .int .i64 p8, .int .i64 p9, .int .i64 p10, .int .i64 p11, .int .i64 p12, .int .i64 p13, .int .i64 p14, .int .i64 p15, .int .i64 p16, .int .i64 p17, .int .i64 p18, .int .i64 p19] 27) := ⟨_, rfl⟩
  obtain ⟨W1, hW1⟩ : ∃ W', W' = Wa.alloc (.cells #[.string ⟨#[]⟩, .int .i64 0, .int .i64 0, .int .i64 0, .int .i64 0, .int .i64 0] 31) := ⟨_, rfl⟩
  have sa : Wa.heap.size = N + 1 := by rw [hWa]; exact size_new hN _
  have ba : Below w.heap.size w Wa := by rw [hWa]; exact below_new _ _
  have bb : Below Wa.heap.size Wa W1 := by rw [hW1]; exact below_new _ _
  have hB1 := below_self ba bb
  have HR : Hid (W1.rangeAt N 0 [.slice A n c, .slice B m d, .int .i64 p0, .int .i64 p1, .int .i64 p2, .int .i64 p3, .int .i64 p4, .int .i64 p5, .int .i64 p6, .int .i64 p7, .int .i64 p8, .int .i64 p9, .int .i64 p10, .int .i64 p11, .int .i64 p12, .int .i64 p13, .int .i64 p14, .int .i64 p15, .int .i64 p16, .int .i64 p17, .int .i64 p18, .int .i64 p19]) := Lib.hid (range_below (by rw [hWa]; exact range_new hN _ _) bb)
  have HS : Hid (Six W1 (N + 1) (.string ⟨#[]⟩) (.int .i64 0) (.int .i64 0) (.int .i64 0) (.int .i64 0) (.int .i64 0)) := Lib.hid (by rw [hW1]; exact six_new sa _ _ _ _ _ _ _)
  have HGL := Lib.hid (hg.below hB1)
  have HB := Lib.hid hB1
  have HNN : Hid (w.heap.size ≤ N + 1) := Lib.hid (by omega)
  have HW : Hid (W1 = (w.alloc (.cells #[.slice A n c, .slice B m d, .int .i64 p0, .int .i64 p1, .int .i64 p2, .int .i64 p3, .int .i64 p4, .int .i64 p5, .int .i64 p6, .int .i64 p7, .int .i64 p8, .int .i64 p9, .int .i64 p10, .int .i64 p11, .int .i64 p12, .int .i64 p13, .int .i64 p14, .int .i64 p15, .int .i64 p16, .int .i64 p17, .int .i64 p18, .int .i64 p19] 27)).alloc (.cells #[.string ⟨#[]⟩, .int .i64 0, .int .i64 0, .int .i64 0, .int .i64 0, .int .i64 0] 31)) := Lib.hid (by rw [hW1, hWa])
  have HF : Hid (∀ (W : World) (x : ByteArray) (g : Gl) (ok : Bool), Below W1.heap.size W1 W → ((ok = true ∧ findG gs x = some g) ∨ (ok = false ∧ g = zeroG ∧ findG gs x = none)) →
      Calls Try.prog 14 #[.agg #[.slice A n c, .slice B m d, .int .i64 p0, .int .i64 p1, .int .i64 p2, .int .i64 p3, .int .i64 p4, .int .i64 p5, .int .i64 p6, .int .i64 p7, .int .i64 p8, .int .i64 p9, .int .i64 p10, .int .i64 p11, .int .i64 p12, .int .i64 p13, .int .i64 p14, .int .i64 p15, .int .i64 p16, .int .i64 p17, .int .i64 p18, .int .i64 p19], .string x] W fun e w' => e = .returned (.tuple #[.agg #[.string g.name, .int .i64 g.W, .int .i64 g.H, .int .i64 g.D, .int .i64 g.I, .int .i64 g.A], .bool ok]) ∧ Below W.heap.size W w') := Lib.hid fun W x g ok hb hf => find_let hn (HGL.out.below hb) hl hf
  have H0 : Hid (1 ≤ 0 → findG gs nm = none) := Lib.hid fun h => by omega
  have H1 : Hid (2 ≤ 0 → findG gs ⟨#[63]⟩ = none) := Lib.hid fun h => by omega
  have HBR0 := Lib.hid (Below.refl W1.heap.size W1)
  clear sa ba bb hB1 hWa hW1 hg hn hl hG
  go_enter Try.func18, Try.ntmps18
  go_wp2_with fail
  rw [← HW.out]
  go_loopw [11] (fun i wr => ∃ k : Nat, k ≤ 2 ∧ i = .int .i64 k ∧ Hid (1 ≤ k → findG gs nm = none) ∧ Hid (2 ≤ k → findG gs ⟨#[63]⟩ = none) ∧ Hid (Below W1.heap.size W1 wr)) (fun i _ => 2 - (intOf i).toNat)
  case atStart => exact ⟨0, by omega, rfl, H0, H1, HBR0⟩
  case round =>
    obtain ⟨k, hk, rfl, HK1, HK2, HBR⟩ := hrel
    have HRR := Lib.hid (range_below HR.out HBR.out)
    by_cases hk2 : k = 2
    · subst hk2
      have HX : Hid (G = { zeroG with name := nm }) := Lib.hid (by
        rw [← HG.out]; unfold pick; rw [HK1.out (by omega), HK2.out (by omega)])
      obtain ⟨⟨d0, d1, d2, d3, d4, d5⟩, f0, f1, f2, f3, f4, f5⟩ := HS.out.below HBR.out
      have HB2 := Lib.hid (below_self HB.out HBR.out)
      go_wp2_with fail
      obtain ⟨W4, hW4⟩ : ∃ W4, W4 = ((((((wr.setCell ⟨N + 1, 0, none⟩ (.string nm)).setCell ⟨N + 1, 1, none⟩ (.int .i64 0)).setCell ⟨N + 1, 2, none⟩ (.int .i64 0)).setCell ⟨N + 1, 3, none⟩ (.int .i64 0)).setCell ⟨N + 1, 4, none⟩ (.int .i64 0)).setCell ⟨N + 1, 5, none⟩ (.int .i64 0)) := ⟨_, rfl⟩
      rw [← hW4]
      obtain ⟨k0, k1, k2, k3, k4, k5⟩ := set6_cells d0 d1 d2 d3 d4 d5 _ _ _ _ _ _ hW4
      have hB4 : Below w.heap.size w W4 := by rw [hW4]; exact below_set6 HB2.out HNN.out _ _ _ _ _ _
      clear hW4
      exact bodyPost_ret (v := .agg #[.string nm, .int .i64 0, .int .i64 0, .int .i64 0, .int .i64 0, .int .i64 0]) (by simp [results, Try.results18, go_sem, k0, k1, k2, k3, k4, k5]) rfl ⟨by rw [HX.out]; rfl, hN ▸ hB4⟩
    · obtain ⟨x, HX⟩ : ∃ x : ByteArray, Hid ((k = 0 ∧ x = nm) ∨ (k = 1 ∧ x = ⟨#[63]⟩)) := by
        rcases (show k = 0 ∨ k = 1 by omega) with h | h
        · exact ⟨nm, .inl ⟨h, rfl⟩⟩
        · exact ⟨⟨#[63]⟩, .inr ⟨h, rfl⟩⟩
      rcases find_two gs x with ⟨g, hf⟩ | hf
      · have HC := Lib.hid (HF.out wr x g true HBR.out (.inl ⟨rfl, hf⟩))
        have HGG : Hid (G = g) := Lib.hid (by
          rw [← HG.out]; unfold pick
          rcases HX.out with ⟨_, rfl⟩ | ⟨h1, rfl⟩
          · rw [hf]
          · rw [HK1.out (by omega), hf])
        clear hf hk2
        have hix : ∀ w, (Instr.index 76 (.agg #[.string nm, .string ⟨#[63]⟩]) (.int .i64 (k : Int))).run Try.prog w = .ok (.string x) w := by
          rcases HX.out with ⟨rfl, rfl⟩ | ⟨rfl, rfl⟩ <;> exact fun w => by kernel_rfl
        have hkk : (k : Int) < 2 := by have := HX.out; omega
        have hk1 : k + 1 ≤ 2 := by omega
        all_goals
          clear HX
          go_wp2_with (first
            | (refine wpList_load_mid rfl 27 (.tmp 2) rfl N 0 rfl [.slice A n c, .slice B m d, .int .i64 p0, .int .i64 p1, .int .i64 p2, .int .i64 p3, .int .i64 p4, .int .i64 p5, .int .i64 p6, .int .i64 p7, .int .i64 p8, .int .i64 p9, .int .i64 p10, .int .i64 p11, .int .i64 p12, .int .i64 p13, .int .i64 p14, .int .i64 p15, .int .i64 p16, .int .i64 p17, .int .i64 p18, .int .i64 p19] _ HRR.out Try.underlying27 rfl (by kernel_rfl) ?_)
            | (go_at_call 14; refine HC.out.mono ?_; rintro e w6 ⟨rfl, hb6⟩
               have hb7 := below_self hb6 (below_new w6 (.cells #[.string g.name, .int .i64 g.W, .int .i64 g.H, .int .i64 g.D, .int .i64 g.I, .int .i64 g.A] 31))
               have HB6 := Lib.hid (below_self (below_self HB.out HBR.out) hb7)
               obtain ⟨⟨d0, d1, d2, d3, d4, d5⟩, f0, f1, f2, f3, f4, f5⟩ := (HS.out.below HBR.out).below hb7
               clear hb6 hb7)
            | fail)
          obtain ⟨W4, hW4⟩ : ∃ W4, W4 = (((((((w6.alloc (.cells #[.string g.name, .int .i64 g.W, .int .i64 g.H, .int .i64 g.D, .int .i64 g.I, .int .i64 g.A] 31)).setCell ⟨N + 1, 0, none⟩ (.string g.name)).setCell ⟨N + 1, 1, none⟩ (.int .i64 g.W)).setCell ⟨N + 1, 2, none⟩ (.int .i64 g.H)).setCell ⟨N + 1, 3, none⟩ (.int .i64 g.D)).setCell ⟨N + 1, 4, none⟩ (.int .i64 g.I)).setCell ⟨N + 1, 5, none⟩ (.int .i64 g.A)) := ⟨_, rfl⟩
          rw [← hW4]
          obtain ⟨k0, k1, k2, k3, k4, k5⟩ := set6_cells d0 d1 d2 d3 d4 d5 _ _ _ _ _ _ hW4
          have hB4 : Below w.heap.size w W4 := by rw [hW4]; exact below_set6 HB6.out HNN.out _ _ _ _ _ _
          clear hW4
          exact bodyPost_ret (v := .agg #[.string g.name, .int .i64 g.W, .int .i64 g.H, .int .i64 g.D, .int .i64 g.I, .int .i64 g.A]) (by simp [results, Try.results18, go_sem, k0, k1, k2, k3, k4, k5]) rfl ⟨by rw [HGG.out], hN ▸ hB4⟩
      · have HC := Lib.hid (HF.out wr x zeroG false HBR.out (.inr ⟨rfl, rfl, hf⟩))
        have HK1' : Hid (1 ≤ k + 1 → findG gs nm = none) := Lib.hid fun _ => by
          rcases HX.out with ⟨_, rfl⟩ | ⟨h1, _⟩
          · exact hf
          · exact HK1.out (by omega)
        have HK2' : Hid (2 ≤ k + 1 → findG gs ⟨#[63]⟩ = none) := Lib.hid fun h => by
          rcases HX.out with ⟨h1, _⟩ | ⟨_, rfl⟩
          · omega
          · exact hf
        clear hf hk2
        have hix : ∀ w, (Instr.index 76 (.agg #[.string nm, .string ⟨#[63]⟩]) (.int .i64 (k : Int))).run Try.prog w = .ok (.string x) w := by
          rcases HX.out with ⟨rfl, rfl⟩ | ⟨rfl, rfl⟩ <;> exact fun w => by kernel_rfl
        have hkk : (k : Int) < 2 := by have := HX.out; omega
        have hk1 : k + 1 ≤ 2 := by omega
        all_goals
          clear HX
          go_wp2_with (first
            | (refine wpList_load_mid rfl 27 (.tmp 2) rfl N 0 rfl [.slice A n c, .slice B m d, .int .i64 p0, .int .i64 p1, .int .i64 p2, .int .i64 p3, .int .i64 p4, .int .i64 p5, .int .i64 p6, .int .i64 p7, .int .i64 p8, .int .i64 p9, .int .i64 p10, .int .i64 p11, .int .i64 p12, .int .i64 p13, .int .i64 p14, .int .i64 p15, .int .i64 p16, .int .i64 p17, .int .i64 p18, .int .i64 p19] _ HRR.out Try.underlying27 rfl (by kernel_rfl) ?_)
            | (go_at_call 14; refine HC.out.mono ?_; rintro e w6 ⟨rfl, hb6⟩
               have HB6 := Lib.hid (below_self HBR.out (below_self hb6 (below_new w6 (.cells #[.string zeroG.name, .int .i64 zeroG.W, .int .i64 zeroG.H, .int .i64 zeroG.D, .int .i64 zeroG.I, .int .i64 zeroG.A] 31))))
               clear hb6)
            | fail)
          go_roundw
          case rel => exact ⟨_, by omega, by go_num, HK1', HK2', HB6⟩
          case measure => simp [intOf]; omega
end Go.Proofs.Ytjhpajdkklklhaa.Fon
