/- The reference of layer 5: Find. (Written by wip/tools/genfon.py.) -/
import Derived.Test.YtjhpajdkklklhaaFonRef2
namespace Go.Proofs.Ytjhpajdkklklhaa.Fon
open Go Go.RowKit By

theorem find_take {gs : List Gl} {nm : ByteArray} {k : Nat} (h : k < gs.length) (h0 : findG (gs.take k) nm = none) : findG (gs.take (k + 1)) nm = if (gs[k].name.toList == nm.toList) = true then some gs[k] else none := by
  unfold findG at *
  rw [List.take_succ_eq_append_getElem h, List.find?_append, h0]
  by_cases hx : (gs[k].name.toList == nm.toList) = true
  · rw [if_pos hx]; simp [hx]
  · rw [if_neg hx]; simp [hx]
theorem find_of_take {gs : List Gl} {nm : ByteArray} {k : Nat} {g : Gl} (h : findG (gs.take k) nm = some g) : findG gs nm = some g := by
  unfold findG at *
  rw [← List.take_append_drop k gs, List.find?_append, h]; rfl
set_option maxRecDepth 100000 in
set_option maxHeartbeats 2000000 in
theorem rfind_let {w : World} {A B : Option Addr} {n c m d : Nat} {p0 p1 p2 p3 p4 p5 p6 p7 p8 p9 p10 p11 p12 p13 p14 p15 p16 p17 p18 p19 : Int} {gs : List Gl} {nm : ByteArray} {g : Gl} {ok : Bool} (hn : n = gs.length) (hg : GlsAt w w.heap.size A gs) (hl : gs.length ≤ 9223372036854775807)
    (hf : (ok = true ∧ findG gs nm = some g) ∨ (ok = false ∧ g = zeroG ∧ findG gs nm = none)) :
    Calls Try.prog 15 #[.agg #[.slice A n c, .slice B m d, .int .i64 p0, .int .i64 p1, .int .i64 p2, .int .i64 p3, .int .i64 p4, .int .i64 p5, .int .i64 p6, .int .i64 p7, .int .i64 p8, .int .i64 p9, .int .i64 p10, .int .i64 p11, .int .i64 p12, .int .i64 p13, .int .i64 p14, .int .i64 p15, .int .i64 p16, .int .i64 p17, .int .i64 p18, .int .i64 p19], .string nm] w fun e w' => e = .returned (.tuple #[.agg #[.string g.name, .int .i64 g.W, .int .i64 g.H, .int .i64 g.D, .int .i64 g.I, .int .i64 g.A], .bool ok]) ∧ Below w.heap.size w w' := by
  subst hn
  have HF := Lib.hid hf
  obtain ⟨q, hq⟩ : ∃ q, gs.length = q := ⟨_, rfl⟩
  have HQ := Lib.hid hq
  rw [hq] at hl ⊢
  obtain ⟨N, hN⟩ : ∃ N, w.heap.size = N := ⟨_, rfl⟩
  obtain ⟨Wa, hWa⟩ : ∃ W', W' = w.alloc (.cells #[.slice A q c, .slice B m d, .int .i64 p0, .int .i64 p1, .int .i64 p2, .int .i64 p3, .int .i64 p4, .int .i64 p5, .int .i64 p6, .int .i64 p7, .int .i64 p8, .int .i64 p9, .int .i64 p10, .int .i64 p11, .int .i64 p12, .int .i64 p13, .int .i64 p14, .int .i64 p15, .int .i64 p16, .int .i64 p17, .int .i64 p18, .int .i64 p19] 27) := ⟨_, rfl⟩
  obtain ⟨W1, hW1⟩ : ∃ W', W' = Wa.alloc (.cells #[.string ⟨#[]⟩, .int .i64 0, .int .i64 0, .int .i64 0, .int .i64 0, .int .i64 0] 31) := ⟨_, rfl⟩
  have sa : Wa.heap.size = N + 1 := by rw [hWa]; exact size_new hN _
  have ba : Below w.heap.size w Wa := by rw [hWa]; exact below_new _ _
  have bb : Below Wa.heap.size Wa W1 := by rw [hW1]; exact below_new _ _
  have hB1 := below_self ba bb
  have c0 := keep_cell bb (show Wa.cell? ⟨N, 0, none⟩ = some (.slice A q c) by rw [hWa]; exact new_cell hN _ _ 0 rfl)
  have HW : Hid (W1 = (w.alloc (.cells #[.slice A q c, .slice B m d, .int .i64 p0, .int .i64 p1, .int .i64 p2, .int .i64 p3, .int .i64 p4, .int .i64 p5, .int .i64 p6, .int .i64 p7, .int .i64 p8, .int .i64 p9, .int .i64 p10, .int .i64 p11, .int .i64 p12, .int .i64 p13, .int .i64 p14, .int .i64 p15, .int .i64 p16, .int .i64 p17, .int .i64 p18, .int .i64 p19] 27)).alloc (.cells #[.string ⟨#[]⟩, .int .i64 0, .int .i64 0, .int .i64 0, .int .i64 0, .int .i64 0] 31)) := Lib.hid (by rw [hW1, hWa])
  have d0 : W1.cell? ⟨N + 1, 0, none⟩ = some (.string ⟨#[]⟩) := by rw [hW1]; exact new_cell sa _ _ 0 rfl
  have d1 : W1.cell? ⟨N + 1, 1, none⟩ = some (.int .i64 0) := by rw [hW1]; exact new_cell sa _ _ 1 rfl
  have d2 : W1.cell? ⟨N + 1, 2, none⟩ = some (.int .i64 0) := by rw [hW1]; exact new_cell sa _ _ 2 rfl
  have d3 : W1.cell? ⟨N + 1, 3, none⟩ = some (.int .i64 0) := by rw [hW1]; exact new_cell sa _ _ 3 rfl
  have d4 : W1.cell? ⟨N + 1, 4, none⟩ = some (.int .i64 0) := by rw [hW1]; exact new_cell sa _ _ 4 rfl
  have d5 : W1.cell? ⟨N + 1, 5, none⟩ = some (.int .i64 0) := by rw [hW1]; exact new_cell sa _ _ 5 rfl
  have FZ : Hid (∀ j, W1.frozen? ⟨N + 1, j, none⟩ = false) := Lib.hid fun j => by rw [hW1]; exact new_frozen sa _ _ j
  have f0 := FZ.out 0
  have f1 := FZ.out 1
  have f2 := FZ.out 2
  have f3 := FZ.out 3
  have f4 := FZ.out 4
  have f5 := FZ.out 5
  have HB := Lib.hid hB1
  have HGA := Lib.hid (hg.below hB1)
  have H0 : Hid (findG (gs.take 0) nm = none) := Lib.hid rfl
  have hq1 : (q : Int) ≤ 9223372036854775807 := by omega
  clear ba bb hB1 sa hWa hW1 hg hf hq
  go_enter Try.func15, Try.ntmps15
  go_wp2_with fail
  rw [← HW.out]
  go_loop [6] (fun i => ∃ k : Nat, k ≤ q ∧ i = .int .i64 k ∧ Hid (findG (gs.take k) nm = none)) (fun i => q - (intOf i).toNat)
  case atStart => exact ⟨0, Nat.zero_le _, rfl, H0⟩
  case round =>
    obtain ⟨k, hk, rfl, HK⟩ := hrel
    by_cases hlt : k < q
    · have hkl : k < gs.length := by rw [HQ.out]; exact hlt
      obtain ⟨b, off, rfl, hb, x0, x1, x2, x3, x4, x5⟩ := HGA.out.at hkl
      have hfk := find_take hkl HK.out
      obtain ⟨y, hy⟩ : ∃ y, gs[k] = y := ⟨_, rfl⟩
      rw [hy] at x0 x1 x2 x3 x4 x5 hfk
      cases he : (y.name.toList == nm.toList) with
      | true =>
        rw [if_pos he] at hfk
        have hgy : ok = true ∧ g = y := by
          rcases HF.out with ⟨h1, h2⟩ | ⟨_, _, h2⟩
          · rw [find_of_take hfk] at h2; exact ⟨h1, (Option.some.inj h2).symm⟩
          · rw [find_of_take hfk] at h2; cases h2
        obtain ⟨rfl, rfl⟩ := hgy
        clear hfk hy hb
        go_wp2_with fail
        obtain ⟨W4, hW4⟩ : ∃ W4, W4 = ((((((W1.setCell ⟨N + 1, 0, none⟩ (.string g.name)).setCell ⟨N + 1, 1, none⟩ (.int .i64 g.W)).setCell ⟨N + 1, 2, none⟩ (.int .i64 g.H)).setCell ⟨N + 1, 3, none⟩ (.int .i64 g.D)).setCell ⟨N + 1, 4, none⟩ (.int .i64 g.I)).setCell ⟨N + 1, 5, none⟩ (.int .i64 g.A)) := ⟨_, rfl⟩
        rw [← hW4]
        obtain ⟨k0, k1, k2, k3, k4, k5⟩ := set6_cells d0 d1 d2 d3 d4 d5 _ _ _ _ _ _ hW4
        have hB4 : Below w.heap.size w W4 := by rw [hW4]; exact below_set6 HB.out (by omega) _ _ _ _ _ _
        clear hW4
        exact bodyPost_ret (v := .tuple #[.agg #[.string g.name, .int .i64 g.W, .int .i64 g.H, .int .i64 g.D, .int .i64 g.I, .int .i64 g.A], .bool true]) (by simp [results, Try.results15, go_sem, k0, k1, k2, k3, k4, k5]) rfl ⟨rfl, hN ▸ hB4⟩
      | false =>
        rw [if_neg (by rw [he]; decide)] at hfk
        have HN := Lib.hid hfk
        clear hfk hy hb
        go_wp2_with fail
        go_round
        case rel => exact ⟨k + 1, by omega, by go_num, HN⟩
        case measure => simp [intOf]; omega
    · have hgz : ok = false ∧ g = zeroG := by
        have := HK.out
        rw [List.take_of_length_le (by rw [HQ.out]; omega)] at this
        rcases HF.out with ⟨_, h2⟩ | ⟨h1, h2, _⟩
        · rw [this] at h2; cases h2
        · exact ⟨h1, h2⟩
      obtain ⟨rfl, rfl⟩ := hgz
      go_wp2_with fail
      obtain ⟨W4, hW4⟩ : ∃ W4, W4 = ((((((W1.setCell ⟨N + 1, 0, none⟩ (.string ⟨#[]⟩)).setCell ⟨N + 1, 1, none⟩ (.int .i64 0)).setCell ⟨N + 1, 2, none⟩ (.int .i64 0)).setCell ⟨N + 1, 3, none⟩ (.int .i64 0)).setCell ⟨N + 1, 4, none⟩ (.int .i64 0)).setCell ⟨N + 1, 5, none⟩ (.int .i64 0)) := ⟨_, rfl⟩
      rw [← hW4]
      obtain ⟨k0, k1, k2, k3, k4, k5⟩ := set6_cells d0 d1 d2 d3 d4 d5 _ _ _ _ _ _ hW4
      have hB4 : Below w.heap.size w W4 := by rw [hW4]; exact below_set6 HB.out (by omega) _ _ _ _ _ _
      clear hW4
      exact bodyPost_ret (v := .tuple #[.agg #[.string ⟨#[]⟩, .int .i64 0, .int .i64 0, .int .i64 0, .int .i64 0, .int .i64 0], .bool false]) (by simp [results, Try.results15, go_sem, k0, k1, k2, k3, k4, k5]) rfl ⟨rfl, hN ▸ hB4⟩
end Go.Proofs.Ytjhpajdkklklhaa.Fon
