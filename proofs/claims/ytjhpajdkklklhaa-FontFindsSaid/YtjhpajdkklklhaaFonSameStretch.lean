/- The reference of layer 5: SameStretch, of two stretches that read alike. (Written by wip/tools/gensamestretch.py.) -/
import Derived.Test.YtjhpajdkklklhaaFonValid
namespace Go.Proofs.Ytjhpajdkklklhaa.Fon
open Go Go.RowKit By

set_option maxRecDepth 100000 in
set_option maxHeartbeats 4000000 in
theorem rsamestretch_any {w : World} {s : St} {C1 C2 D1 D2 : Option Addr} {e1 e2 f1 f2 : Nat} (hs : StIn w w.heap.size s C1 C2) (ht : StIn w w.heap.size s D1 D2) (hl1 : s.sizes.length ≤ 9223372036854775807) (hl2 : s.parts.length ≤ 9223372036854775807) :
    Calls Try.prog 20 #[.agg #[.string s.name, .slice C1 s.sizes.length e1, .slice C2 s.parts.length e2, .int .i64 s.ov], .agg #[.string s.name, .slice D1 s.sizes.length f1, .slice D2 s.parts.length f2, .int .i64 s.ov]] w
      fun e w' => e = .returned (.bool true) ∧ Below w.heap.size w w' := by
  obtain ⟨nm, sz, ps, ov⟩ := s
  obtain ⟨hs1, hs2⟩ := hs
  obtain ⟨ht1, ht2⟩ := ht
  simp only [] at hs1 hs2 ht1 ht2 hl1 hl2 ⊢
  obtain ⟨ns, hns⟩ : ∃ ns, sz.length = ns := ⟨_, rfl⟩
  obtain ⟨np, hnp⟩ : ∃ np, ps.length = np := ⟨_, rfl⟩
  rw [hns] at hl1 ⊢
  rw [hnp] at hl2 ⊢
  have HNS := Lib.hid hns
  have HNP := Lib.hid hnp
  have hns1 : (ns : Int) ≤ 9223372036854775807 := by omega
  have hnp1 : (np : Int) ≤ 9223372036854775807 := by omega
  obtain ⟨N, hN⟩ : ∃ N, w.heap.size = N := ⟨_, rfl⟩
  obtain ⟨Wa, hWa⟩ : ∃ W', W' = w.alloc (.cells #[.string nm, .slice C1 ns e1, .slice C2 np e2, .int .i64 ov] 37) := ⟨_, rfl⟩
  obtain ⟨W1, hW1⟩ : ∃ W', W' = Wa.alloc (.cells #[.string nm, .slice D1 ns f1, .slice D2 np f2, .int .i64 ov] 37) := ⟨_, rfl⟩
  have sa : Wa.heap.size = N + 1 := by rw [hWa]; exact size_new hN _
  have ba : Below w.heap.size w Wa := by rw [hWa]; exact below_new _ _
  have bb : Below Wa.heap.size Wa W1 := by rw [hW1]; exact below_new _ _
  have hB1 := below_self ba bb
  have a0 : W1.cell? ⟨N, 0, none⟩ = some (.string nm) := keep_cell bb (by rw [hWa]; exact new_cell hN _ _ 0 rfl)
  have a1 : W1.cell? ⟨N, 1, none⟩ = some (.slice C1 ns e1) := keep_cell bb (by rw [hWa]; exact new_cell hN _ _ 1 rfl)
  have a2 : W1.cell? ⟨N, 2, none⟩ = some (.slice C2 np e2) := keep_cell bb (by rw [hWa]; exact new_cell hN _ _ 2 rfl)
  have a3 : W1.cell? ⟨N, 3, none⟩ = some (.int .i64 ov) := keep_cell bb (by rw [hWa]; exact new_cell hN _ _ 3 rfl)
  have c0 : W1.cell? ⟨N + 1, 0, none⟩ = some (.string nm) := by rw [hW1]; exact new_cell sa _ _ 0 rfl
  have c1 : W1.cell? ⟨N + 1, 1, none⟩ = some (.slice D1 ns f1) := by rw [hW1]; exact new_cell sa _ _ 1 rfl
  have c2 : W1.cell? ⟨N + 1, 2, none⟩ = some (.slice D2 np f2) := by rw [hW1]; exact new_cell sa _ _ 2 rfl
  have c3 : W1.cell? ⟨N + 1, 3, none⟩ = some (.int .i64 ov) := by rw [hW1]; exact new_cell sa _ _ 3 rfl
  have HW : Hid (W1 = (w.alloc (.cells #[.string nm, .slice C1 ns e1, .slice C2 np e2, .int .i64 ov] 37)).alloc (.cells #[.string nm, .slice D1 ns f1, .slice D2 np f2, .int .i64 ov] 37)) := Lib.hid (by rw [hW1, hWa])
  have HB := Lib.hid hB1
  have HS1 := Lib.hid (hs1.below hB1)
  have HS2 := Lib.hid (hs2.below hB1)
  have HT1 := Lib.hid (ht1.below hB1)
  have HT2 := Lib.hid (ht2.below hB1)
  clear hW1 hWa sa ba bb hB1 hs1 hs2 ht1 ht2 hns hnp
  go_enter Try.func20, Try.ntmps20
  go_wp2_with fail
  rw [← HW.out]
  go_wp2_with fail
  go_loopw [5] (fun i wr => ∃ k : Nat, k ≤ ns ∧ i = .int .i64 (k : Int) ∧ Hid (Below W1.heap.size W1 wr)) (fun i _ => ns - (intOf i).toNat)
  case atStart => exact ⟨0, Nat.zero_le _, rfl, Lib.hid (Below.refl _ _)⟩
  case round =>
    obtain ⟨k, hk, rfl, HBR⟩ := hrel
    have a1 := keep_cell HBR.out a1
    have a2 := keep_cell HBR.out a2
    have c1 := keep_cell HBR.out c1
    have c2 := keep_cell HBR.out c2
    by_cases hlt : k < ns
    · have hkl : k < sz.length := by rw [HNS.out]; exact hlt
      obtain ⟨b, off, rfl, hb, x0⟩ := (HS1.out.below HBR.out).at hkl
      obtain ⟨b2, off2, rfl, hb2, y0⟩ := (HT1.out.below HBR.out).at hkl
      obtain ⟨x, hx⟩ : ∃ x, sz[k] = x := ⟨_, rfl⟩
      rw [hx] at x0 y0
      clear hx hb hb2
      go_wp2_with fail
      go_quiet (fail)
      go_wp2
      go_roundw
      case rel => exact ⟨k + 1, by omega, by go_num, Lib.hid (below_self HBR.out (below_drewN _ _))⟩
      case measure => simp [intOf]; omega
    · go_wp2_with fail
      obtain ⟨w5, rfl⟩ : ∃ w5, w5 = wr := ⟨_, rfl⟩
      go_loopw [6] (fun i wr => ∃ k : Nat, k ≤ np ∧ i = .int .i64 (k : Int) ∧ Hid (Below w5.heap.size w5 wr)) (fun i _ => np - (intOf i).toNat)
      case atStart => exact ⟨0, Nat.zero_le _, rfl, Lib.hid (Below.refl _ _)⟩
      case round =>
        obtain ⟨k2, hk2, rfl, HBX⟩ := hrel
        have a2 := keep_cell HBX.out a2
        have c2 := keep_cell HBX.out c2
        by_cases hlt2 : k2 < np
        · have hpl : k2 < ps.length := by rw [HNP.out]; exact hlt2
          obtain ⟨b, off, rfl, hb, x0, x1⟩ := ((HS2.out.below HBR.out).below HBX.out).at hpl
          obtain ⟨b2, off2, rfl, hb2, y0, y1⟩ := ((HT2.out.below HBR.out).below HBX.out).at hpl
          obtain ⟨x, hx⟩ : ∃ x, ps[k2] = x := ⟨_, rfl⟩
          rw [hx] at x0 x1 y0 y1
          obtain ⟨xn, xe⟩ := x
          simp only [] at x0 x1 y0 y1
          clear hx hb hb2
          go_wp2_with fail
          go_quiet (fail)
          go_wp2
          go_roundw
          case rel => exact ⟨k2 + 1, by omega, by go_num, Lib.hid (below_self HBX.out (below_drewN _ _))⟩
          case measure => simp [intOf]; omega
        · go_wp2_with fail
          go_ret
          exact ⟨rfl, hN ▸ below_self (below_self HB.out HBR.out) HBX.out⟩
end Go.Proofs.Ytjhpajdkklklhaa.Fon
