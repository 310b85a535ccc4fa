/- The contract of fraction of package rational. -/
import Derived.Test.YtggiljlndenjoaaDoorRatParse
import Derived.Test.YtggiljlndenjoaaDoorStillAny
import Derived.StillTailTactics
namespace Go.Proofs.YtggiljlndenjoaaDoor.RatM
open Go Go.RowKit Len

set_option maxRecDepth 100000 in
set_option maxHeartbeats 4000000 in
/-- rational.fraction, of digits -/
theorem fraction_any (s : ByteArray) (w : World) (hs : s.size ≤ 40) (hd : s.data.toList.all isD = true) :
    Calls Tryd.prog 28 #[.string s] w (Ret (fracZ s.data.toList) w) := by
  have HD := Lib.hid hd
  clear hd
  go_enter Tryd.func28, Tryd.ntmps28
  go_wp2_with fail
  go_loopw [5] (fun i wr => ∃ (m : Nat) (r : Res), i = .int .i64 ((m : Int) - 1) ∧ m ≤ s.size ∧ FrS w wr r ∧ Hid (fracZ (s.data.toList.drop m) = r) ∧ r.2.2 = 0) (fun i _ => (intOf i + 1).toNat)
  case atStart =>
    refine ⟨s.size, (0, 1, 0), rfl, Nat.le_refl _, ?_, Lib.hid ?_, rfl⟩
    · exact ⟨(Blk.fresh _ _ _).alloc _, by simpa using Blk.fresh (w.alloc _) _ _, ((Below.refl _ _).alloc (Nat.le_refl _) _).alloc (by simp) _⟩
    · rw [List.drop_eq_nil_of_le (by simp), frac_nil]
  case round =>
    obtain ⟨m, r, rfl, hm, hS, HR, hr0⟩ := hrel
    by_cases h0 : m = 0
    · have fin : Hid (fracZ s.data.toList = (r.1, r.2.1, 0)) := Lib.hid (by have := HR.out; rw [h0, List.drop_zero] at this; rw [this, ← hr0])
      have y0 := hS.y.cellv 0 (.int .i64 r.1) rfl
      have y1 := hS.y.cellv 1 (.int .i64 r.2.1) rfl
      have z0 := hS.z.cellv 0 (.int .i64 0) rfl
      have z1 := hS.z.cellv 1 (.int .i64 0) rfl
      have f0 := hS.z.free 0
      have f1 := hS.z.free 1
      have hB := below_setAt hS.below w.heap.size (Nat.le_refl _) (.int .i64 r.1) (.int .i64 r.2.1)
      clear hr0
      subst h0
      go_wp2
      exact bodyPost_ret (v := .tuple #[.agg #[.int .i64 r.1, .int .i64 r.2.1], .int .i64 0]) (by simp [results, Tryd.results28, go_sem, z0, z1]) rfl (ret_of fin.out hB)
    · have h1 : 1 ≤ m := by omega
      have hlt : m - 1 < s.size := by omega
      obtain ⟨c, hc⟩ : ∃ c, s[m - 1]'hlt = c := ⟨_, rfl⟩
      obtain ⟨c1, c2⟩ := byte_dig s (m - 1) hlt HD.out
      rw [hc] at c1 c2
      have hdrop : s.data.toList.drop (m - 1) = c :: s.data.toList.drop m := by rw [drop_byte s (m - 1) hlt, hc, show m - 1 + 1 = m by omega]
      have vr : validR r.1 r.2.1 = true := by have := HR.out; rw [← this]; exact (repr_ok (by show (fracZ _).2.2 = 0; rw [this]; exact hr0)).1
      obtain ⟨v1, v2, v3, v4, _⟩ := valid_parts vr
      obtain ⟨u, hu⟩ : ∃ u, fracZ (s.data.toList.drop (m - 1)) = u := ⟨_, rfl⟩
      have E1 : Hid (repr (Rat.divInt (((c.toNat : Int) - 48) * r.2.1 + r.1) (10 * r.2.1)) = u) := Lib.hid (by
        have h := frac_next (c := c) (r := s.data.toList.drop m) (by rw [HR.out]; exact hr0)
        rw [HR.out] at h
        rw [← hu, hdrop, ← h, show ((c.toNat - 48 : Nat) : Int) = (c.toNat : Int) - 48 by omega])
      have HU : Hid (fracZ (s.data.toList.drop (m - 1)) = u) := Lib.hid hu
      have b1 : 0 ≤ ((c.toNat : Int) - 48) * r.2.1 := Int.mul_nonneg (by omega) (by omega)
      have b2 : ((c.toNat : Int) - 48) * r.2.1 ≤ 9 * 2147483647 := by
        have := Int.mul_le_mul (show (c.toNat : Int) - 48 ≤ 9 by omega) v2 (by omega) (by omega)
        omega
      have p0 : IntKind.u8.wrap ((c.toNat : Int) - 48) = (c.toNat : Int) - 48 := IntWalk.u8_in _ (by omega)
      have p1 : IntKind.i64.wrap (((c.toNat : Int) - 48) * r.2.1) = ((c.toNat : Int) - 48) * r.2.1 := IntWalk.i64_in _ (by omega)
      have p2 : IntKind.i64.wrap (((c.toNat : Int) - 48) * r.2.1 + r.1) = ((c.toNat : Int) - 48) * r.2.1 + r.1 := IntWalk.i64_in _ (by omega)
      have p3 : IntKind.i64.wrap (10 * r.2.1) = 10 * r.2.1 := IntWalk.i64_in _ (by omega)
      have p4 : ((m : Int) - 1).toNat = m - 1 := by omega
      have p5 : 0 ≤ (m : Int) - 1 := by omega
      have p6 : (m : Int) - 1 < (s.size : Int) := by omega
      have hne : 10 * r.2.1 ≠ 0 := by omega
      have HRED : Hid (∀ W : World, Calls Tryd.prog 30 #[.int .i64 (((c.toNat : Int) - 48) * r.2.1 + r.1), .int .i64 (10 * r.2.1)] W (Ret u W)) := Lib.hid fun W => reduce_ret E1 W (by omega) (by omega) (by omega) (by omega) hne
      have hu0 := frac_errs (s.data.toList.drop (m - 1))
      rw [hu] at hu0
      have HU0 := Lib.hid hu0
      have HST : Hid (u.2.2 ≠ 0 → fracZ s.data.toList = (0, 0, 2)) := Lib.hid fun h => by
        have e := frac_stop (a := s.data.toList.take (m - 1)) (r := s.data.toList.drop (m - 1)) (drop_all HD.out _) (by rw [hu]; exact h)
        rwa [List.take_append_drop] at e
      have P0 := Lib.hid p0
      have P0B : Hid (IntKind.i64.wrap ((c.toNat : Int) - 48) = (c.toNat : Int) - 48) := Lib.hid (IntWalk.i64_in _ (by omega))
      have P1 := Lib.hid p1
      have P2 := Lib.hid p2
      have P3 := Lib.hid p3
      have P4 := Lib.hid p4
      have HC := Lib.hid hc
      clear hu hr0 p0 p1 p2 p3 p4 hne hc hdrop vr hu0 E1 HR h0 v1 v2 v3 v4 b1 b2 c1 c2
      have y0 := hS.y.cellv 0 (.int .i64 r.1) rfl
      have y1 := hS.y.cellv 1 (.int .i64 r.2.1) rfl
      have yl := hS.y.lt
      have g0 := hS.y.free 0
      have g1 := hS.y.free 1
      go_upto_region 6 with fail
      have p0 := P0.out
      have p1 := P1.out
      have p2 := P2.out
      have p3 := P3.out
      have p4 := P4.out
      have hc := HC.out
      go_cut [6] from 11 to 36 (fun s6 wx => s6 = .int .i64 u.2.2 ∧ FrS w wx u)
      case first =>
        clear P0 P1 P2 P3 P4 HC HU HU0 HST HD
        have p0b : IntKind.i64.wrap ((c.toNat : Int) - 48) = (c.toNat : Int) - 48 := P0B.out
        clear P0B
        refine Mix.wp_region_mix 14 (by kernel_rfl) (by kernel_rfl) ?_
        simp only [List.take_succ_cons, List.take_zero]
        repeat still_step
        refine wpStill_nil ?_
        change wpAny _ _ _ _ _ _ _ (World.drew _)
        refine wpAny_ready (rs := [14]) (by kernel_rfl) (by simp) ?_
        refine AllReady.cons rfl (fun K hK => ?_) AllReady.nil
        go_simp
        refine (HRED.out _).mono ?_
        rintro e w2 ⟨rfl, hb2⟩
        have k0 : w2.cell? ⟨w.heap.size + 1, 0, none⟩ = some (.int .i64 r.1) := (hb2.cell (p := ⟨w.heap.size + 1, 0, none⟩) yl).trans y0
        have k1 : w2.cell? ⟨w.heap.size + 1, 1, none⟩ = some (.int .i64 r.2.1) := (hb2.cell (p := ⟨w.heap.size + 1, 1, none⟩) yl).trans y1
        have j0 : w2.frozen? ⟨w.heap.size + 1, 0, none⟩ = false := (hb2.frozen (p := ⟨w.heap.size + 1, 0, none⟩) yl).trans g0
        have j1 : w2.frozen? ⟨w.heap.size + 1, 1, none⟩ = false := (hb2.frozen (p := ⟨w.heap.size + 1, 1, none⟩) yl).trans g1
        refine hK _ _ ?_
        clear hK K
        refine wpAny_take (i := 15) (v := ?_) rfl (by kernel_rfl) (by kernel_rfl) (by kernel_rfl) (fun _ _ _ h => h) (Or.inl ⟨by rfl, ?_⟩) ?_
        rotate_left
        · intro w; go_simp; try with_reducible rfl
        refine wpAny_take (i := 16) (v := ?_) rfl (by kernel_rfl) (by kernel_rfl) (by kernel_rfl) (fun _ _ _ h => h) (Or.inl ⟨by rfl, ?_⟩) ?_
        rotate_left
        · intro w; go_simp; try with_reducible rfl
        refine wpAny_take (i := 17) (v := ?_) rfl (by kernel_rfl) (by kernel_rfl) (by kernel_rfl) (fun _ _ _ h => h) (Or.inl ⟨by rfl, ?_⟩) ?_
        rotate_left
        · intro w; go_simp; try with_reducible rfl
        refine wpAny_ready (rs := [18]) (by kernel_rfl) (by simp) ?_
        refine AllReady.cons rfl (fun K hK => ?_) AllReady.nil
        go_simp
        refine hK _ _ ?_
        clear hK K
        refine wpAny_ready (rs := [19]) (by kernel_rfl) (by simp) ?_
        refine AllReady.cons rfl (fun K hK => ?_) AllReady.nil
        go_simp
        refine hK _ _ ?_
        clear hK K
        refine wpAny_done (by kernel_rfl) ?_ _
        go_wp2_with fail
        go_meet
        exact ⟨rfl, (hS.drew.go hb2).set⟩
      case rest =>
        obtain ⟨rfl, hS2⟩ := hcut
        clear p0 p1 p2 p3 p4 hc P0 P0B P1 P2 P3 P4 HC y0 y1 g0 g1 hS yl HRED
        rcases HU0.out with hz | hz
        · have hx : (u.2.2 != 0) = false := by simp [hz]
          have HZ := Lib.hid hz
          have hm1 : ((m : Int) - 1 - 1) = (((m - 1 : Nat) : Int) - 1) := by omega
          have HM := Lib.hid hm1
          clear hm1 hz
          go_wp2_with fail
          go_roundw
          case rel => exact ⟨m - 1, u, by rw [HM.out], by omega, hS2, HU, HZ.out⟩
          case measure => simp [intOf]; omega
        · have fin := Lib.hid (HST.out (by rw [hz]; decide))
          subst hz
          have z0 := hS2.z.cellv 0 (.int .i64 0) rfl
          have z1 := hS2.z.cellv 1 (.int .i64 0) rfl
          have f0 := hS2.z.free 0
          have f1 := hS2.z.free 1
          have hB := below_setAt hS2.below w.heap.size (Nat.le_refl _) (.int .i64 0) (.int .i64 0)
          go_wp2
          exact bodyPost_ret (v := .tuple #[.agg #[.int .i64 0, .int .i64 0], .int .i64 2]) (by simp [results, Tryd.results28, go_sem, z0, z1]) rfl (ret_of fin.out hB)
end Go.Proofs.YtggiljlndenjoaaDoor.RatM
