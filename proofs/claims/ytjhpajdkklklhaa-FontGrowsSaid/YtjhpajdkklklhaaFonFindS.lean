/- The reference of layer 5: Stretch. (Written by wip/tools/genfon.py.) -/
import Derived.Test.YtjhpajdkklklhaaFonFind
namespace Go.Proofs.Ytjhpajdkklklhaa.Fon
open Go Go.RowKit By

/-- what Stretch answers -/
def StretchR (w : World) (g : St) (ok : Bool) (e : Ending) (w' : World) : Prop := ∃ (C1 : Option Addr) (d1 : Nat) (C2 : Option Addr) (d2 : Nat), e = .returned (.tuple #[.agg #[.string g.name, .slice C1 g.sizes.length d1, .slice C2 g.parts.length d2, .int .i64 g.ov], .bool ok]) ∧ StIn w' w'.heap.size g C1 C2 ∧ Below w.heap.size w w'
theorem finds_take {gs : List St} {nm : ByteArray} {k : Nat} (h : k < gs.length) (h0 : findS (gs.take k) nm = none) : findS (gs.take (k + 1)) nm = if (gs[k].name.toList == nm.toList) = true then some gs[k] else none := by
  unfold findS at *
  rw [List.take_succ_eq_append_getElem h, List.find?_append, h0]
  by_cases hx : (gs[k].name.toList == nm.toList) = true
  · rw [if_pos hx]; simp [hx]
  · rw [if_neg hx]; simp [hx]
theorem finds_of_take {gs : List St} {nm : ByteArray} {k : Nat} {g : St} (h : findS (gs.take k) nm = some g) : findS gs nm = some g := by
  unfold findS at *
  rw [← List.take_append_drop k gs, List.find?_append, h]; rfl
set_option maxRecDepth 100000 in
set_option maxHeartbeats 2000000 in
theorem rstretch_let {w : World} {A B : Option Addr} {n c m d : Nat} {p0 p1 p2 p3 p4 p5 p6 p7 p8 p9 p10 p11 p12 p13 p14 p15 p16 p17 p18 p19 : Int} {gs : List St} {nm : ByteArray} {g : St} {ok : Bool} (hm : m = gs.length) (hg : StsAt w w.heap.size B gs) (hl : gs.length ≤ 9223372036854775807)
    (hf : (ok = true ∧ findS gs nm = some g) ∨ (ok = false ∧ g = zeroS ∧ findS gs nm = none)) :
    Calls Try.prog 17 #[.agg #[.slice A n c, .slice B m d, .int .i64 p0, .int .i64 p1, .int .i64 p2, .int .i64 p3, .int .i64 p4, .int .i64 p5, .int .i64 p6, .int .i64 p7, .int .i64 p8, .int .i64 p9, .int .i64 p10, .int .i64 p11, .int .i64 p12, .int .i64 p13, .int .i64 p14, .int .i64 p15, .int .i64 p16, .int .i64 p17, .int .i64 p18, .int .i64 p19], .string nm] w (StretchR w g ok) := by
  subst hm
  have HF := Lib.hid hf
  obtain ⟨q, hq⟩ : ∃ q, gs.length = q := ⟨_, rfl⟩
  have HQ := Lib.hid hq
  rw [hq] at hl ⊢
  obtain ⟨N, hN⟩ : ∃ N, w.heap.size = N := ⟨_, rfl⟩
  obtain ⟨Wa, hWa⟩ : ∃ W', W' = w.alloc (.cells #[.slice A n c, .slice B q d, .int .i64 p0, .int .i64 p1, .int .i64 p2, .int .i64 p3, .int .i64 p4, .int .i64 p5, .int .i64 p6, .int .i64 p7, .int .i64 p8, .int .i64 p9, .int .i64 p10, .int .i64 p11, .int .i64 p12, .int .i64 p13, .int .i64 p14, .int .i64 p15, .int .i64 p16, .int .i64 p17, .int .i64 p18, .int .i64 p19] 27) := ⟨_, rfl⟩
  obtain ⟨W1, hW1⟩ : ∃ W', W' = Wa.alloc (.cells #[.string ⟨#[]⟩, .slice none 0 0, .slice none 0 0, .int .i64 0] 37) := ⟨_, rfl⟩
  have sa : Wa.heap.size = N + 1 := by rw [hWa]; exact size_new hN _
  have ba : Below w.heap.size w Wa := by rw [hWa]; exact below_new _ _
  have bb : Below Wa.heap.size Wa W1 := by rw [hW1]; exact below_new _ _
  have hB1 := below_self ba bb
  have c0 := keep_cell bb (show Wa.cell? ⟨N, 1, none⟩ = some (.slice B q d) by rw [hWa]; exact new_cell hN _ _ 1 rfl)
  have HW : Hid (W1 = (w.alloc (.cells #[.slice A n c, .slice B q d, .int .i64 p0, .int .i64 p1, .int .i64 p2, .int .i64 p3, .int .i64 p4, .int .i64 p5, .int .i64 p6, .int .i64 p7, .int .i64 p8, .int .i64 p9, .int .i64 p10, .int .i64 p11, .int .i64 p12, .int .i64 p13, .int .i64 p14, .int .i64 p15, .int .i64 p16, .int .i64 p17, .int .i64 p18, .int .i64 p19] 27)).alloc (.cells #[.string ⟨#[]⟩, .slice none 0 0, .slice none 0 0, .int .i64 0] 37)) := Lib.hid (by rw [hW1, hWa])
  have d0 : W1.cell? ⟨N + 1, 0, none⟩ = some (.string ⟨#[]⟩) := by rw [hW1]; exact new_cell sa _ _ 0 rfl
  have d1' : W1.cell? ⟨N + 1, 1, none⟩ = some (.slice none 0 0) := by rw [hW1]; exact new_cell sa _ _ 1 rfl
  have d2' : W1.cell? ⟨N + 1, 2, none⟩ = some (.slice none 0 0) := by rw [hW1]; exact new_cell sa _ _ 2 rfl
  have d3 : W1.cell? ⟨N + 1, 3, none⟩ = some (.int .i64 0) := by rw [hW1]; exact new_cell sa _ _ 3 rfl
  have FZ : Hid (∀ j, W1.frozen? ⟨N + 1, j, none⟩ = false) := Lib.hid fun j => by rw [hW1]; exact new_frozen sa _ _ j
  have f0 := FZ.out 0
  have f1 := FZ.out 1
  have f2 := FZ.out 2
  have f3 := FZ.out 3
  have HB := Lib.hid hB1
  have HN1 : Hid (N + 1 < W1.heap.size) := Lib.hid (by rw [hW1, size_new sa]; omega)
  have HWS : Hid (w.heap.size ≤ N) := Lib.hid (Nat.le_of_eq hN)
  have HGA := Lib.hid (hg.keep (w' := W1) fun b o x hlt hx => (hB1.cell (p := ⟨b, o, none⟩) hlt).trans hx)
  have H0 : Hid (findS (gs.take 0) nm = none) := Lib.hid rfl
  have hq1 : (q : Int) ≤ 9223372036854775807 := by omega
  clear ba bb hB1 sa hWa hW1 hg hf hq
  go_enter Try.func17, Try.ntmps17
  go_wp2_with fail
  rw [← HW.out]
  go_loop [6] (fun i => ∃ k : Nat, k ≤ q ∧ i = .int .i64 k ∧ Hid (findS (gs.take k) nm = none)) (fun i => q - (intOf i).toNat)
  case atStart => exact ⟨0, Nat.zero_le _, rfl, H0⟩
  case round =>
    obtain ⟨k, hk, rfl, HK⟩ := hrel
    by_cases hlt : k < q
    · have hkl : k < gs.length := by rw [HQ.out]; exact hlt
      obtain ⟨b, off, C1, d1, C2, d2, rfl, hb, x0, x1, x2, x3, hin⟩ := HGA.out.at hkl
      have HIN := Lib.hid hin
      have hfk := finds_take hkl HK.out
      obtain ⟨y, hy⟩ : ∃ y, gs[k] = y := ⟨_, rfl⟩
      rw [hy] at x0 x1 x2 x3 HIN hfk
      cases he : (y.name.toList == nm.toList) with
      | true =>
        rw [if_pos he] at hfk
        have hgy : ok = true ∧ g = y := by
          rcases HF.out with ⟨h1, h2⟩ | ⟨_, _, h2⟩
          · rw [finds_of_take hfk] at h2; exact ⟨h1, (Option.some.inj h2).symm⟩
          · rw [finds_of_take hfk] at h2; cases h2
        obtain ⟨rfl, rfl⟩ := hgy
        clear hfk hy hb hin
        go_wp2_with fail
        obtain ⟨W4, hW4⟩ : ∃ W4, W4 = ((((W1.setCell ⟨N + 1, 0, none⟩ (.string g.name)).setCell ⟨N + 1, 1, none⟩ (.slice C1 g.sizes.length d1)).setCell ⟨N + 1, 2, none⟩ (.slice C2 g.parts.length d2)).setCell ⟨N + 1, 3, none⟩ (.int .i64 g.ov)) := ⟨_, rfl⟩
        rw [← hW4]
        obtain ⟨k0, k1, k2, k3⟩ := set4_cells d0 d1' d2' d3 _ _ _ _ hW4
        have hB4 : Below w.heap.size w W4 := by rw [hW4]; exact below_set4 HB.out (by omega) _ _ _ _
        have hst : StIn W4 W4.heap.size g C1 C2 := by
          rw [hW4]
          refine ⟨(HIN.out.1.keep fun b o x hlt hx => cell_set4 (by omega) hx _ _ _ _).mono ?_, (HIN.out.2.keep fun b o x hlt hx => cell_set4 (by omega) hx _ _ _ _).mono ?_⟩
          all_goals (have := HB.out.size; have := HN1.out; simp; omega)
        clear hW4
        exact bodyPost_ret (v := .tuple #[.agg #[.string g.name, .slice C1 g.sizes.length d1, .slice C2 g.parts.length d2, .int .i64 g.ov], .bool true]) (by simp [results, Try.results17, go_sem, k0, k1, k2, k3]) rfl ⟨_, _, _, _, rfl, hst, hB4⟩
      | false =>
        rw [if_neg (by rw [he]; decide)] at hfk
        have HN := Lib.hid hfk
        clear hfk hy hb hin
        go_wp2_with fail
        go_round
        case rel => exact ⟨k + 1, by omega, by go_num, HN⟩
        case measure => simp [intOf]; omega
    · have hgz : ok = false ∧ g = zeroS := by
        have := HK.out
        rw [List.take_of_length_le (by rw [HQ.out]; omega)] at this
        rcases HF.out with ⟨_, h2⟩ | ⟨h1, h2, _⟩
        · rw [this] at h2; cases h2
        · exact ⟨h1, h2⟩
      obtain ⟨rfl, rfl⟩ := hgz
      go_wp2_with fail
      obtain ⟨W4, hW4⟩ : ∃ W4, W4 = ((((W1.setCell ⟨N + 1, 0, none⟩ (.string ⟨#[]⟩)).setCell ⟨N + 1, 1, none⟩ (.slice none 0 0)).setCell ⟨N + 1, 2, none⟩ (.slice none 0 0)).setCell ⟨N + 1, 3, none⟩ (.int .i64 0)) := ⟨_, rfl⟩
      rw [← hW4]
      obtain ⟨k0, k1, k2, k3⟩ := set4_cells d0 d1' d2' d3 _ _ _ _ hW4
      have hB4 : Below w.heap.size w W4 := by rw [hW4]; exact below_set4 HB.out (by omega) _ _ _ _
      have hst : StIn W4 W4.heap.size zeroS none none := ⟨.inl rfl, .inl rfl⟩
      clear hW4
      exact bodyPost_ret (v := .tuple #[.agg #[.string ⟨#[]⟩, .slice none 0 0, .slice none 0 0, .int .i64 0], .bool false]) (by simp [results, Try.results17, go_sem, k0, k1, k2, k3]) rfl ⟨_, _, _, _, rfl, hst, hB4⟩
end Go.Proofs.Ytjhpajdkklklhaa.Fon
