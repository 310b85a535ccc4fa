/- The contract of Pow of package rational. -/
import Derived.Test.YtimkgbjgdelkeaaDoorRatPower
import Derived.Deep.RegionWith
namespace Go.Proofs.YtimkgbjgdelkeaaDoor.RatM
open Go Go.RowKit Len

theorem power_at {a b : Int} {n : Nat} {r : Res} (hr : Hid (powN a b n = r)) (w : World) (hv : validR a b = true) (hn : n ≤ 9223372036854775808) :
    Calls Tryd.prog 59 #[.agg #[.int .i64 a, .int .i64 b], .int .u64 n] w (Ret r w) := hr.out ▸ power_any a b n w hv hn

theorem powc_arg (a b n : Int) (w : World) (ha : I64 a) (hb : I64 b) (h : validR a b = false) :
    Calls Tryd.prog 36 #[.agg #[.int .i64 a, .int .i64 b], .int .i64 n] w (Ret (powZ a b n) w) := by
  obtain ⟨a1, a2⟩ := ha
  obtain ⟨b1, b2⟩ := hb
  have fin := Lib.hid (powZ_arg (n := n) h)
  go_enter Tryd.func36, Tryd.ntmps36
  go_wp2_with fail
  refine (valid_any a b _ (by omega) (by omega) (by omega) (by omega)).mono ?_
  rintro e w1 ⟨rfl, hb1⟩
  obtain ⟨hc1, hf1⟩ := bcell hb1
  obtain ⟨hz1, hz2⟩ := size_alloc2 hb1
  have hB := Lib.hid (below_alloc2 hb1)
  clear hb1
  go_wp2
  exact bodyPost_ret (v := .tuple #[.agg #[.int .i64 0, .int .i64 0], .int .i64 1]) (by simp [results, Tryd.results36, go_sem, hc1]) rfl (ret_of fin.out (below_set1 hB.out))

set_option maxRecDepth 100000 in
set_option maxHeartbeats 1000000 in
theorem powc_pos (a b n : Int) (w : World) (h : validR a b = true) (hn : 0 ≤ n) (hn2 : n ≤ 9223372036854775807) :
    Calls Tryd.prog 36 #[.agg #[.int .i64 a, .int .i64 b], .int .i64 n] w (Ret (powZ a b n) w) := by
  obtain ⟨a1, a2, a3, a4, _⟩ := valid_parts h
  obtain ⟨r, hr⟩ : ∃ r, powZ a b n = r := ⟨_, rfl⟩
  rw [hr]
  have HR : Hid (powN a b n.natAbs = r) := Lib.hid (by rw [← hr, powZ_nonneg h hn]; congr 1; omega)
  clear hr
  go_enter Tryd.func36, Tryd.ntmps36
  go_wp2_with fail
  refine (valid_any a b _ (by omega) (by omega) (by omega) (by omega)).mono ?_
  rintro e w1 ⟨rfl, hb1⟩
  obtain ⟨hc1, hf1⟩ := bcell hb1
  obtain ⟨hz1, hz2⟩ := size_alloc2 hb1
  have k0 : w1.cell? ⟨w.heap.size, 0, none⟩ = some (.int .i64 a) := by rw [hc1 _ _ (by simp; omega)]; simp
  have k1 : w1.cell? ⟨w.heap.size, 1, none⟩ = some (.int .i64 b) := by rw [hc1 _ _ (by simp; omega)]; simp
  have z0 : w1.cell? ⟨w.heap.size + 1, 0, none⟩ = some (.int .i64 0) := by rw [hc1 _ _ (by simp)]; simp
  have z1 : w1.cell? ⟨w.heap.size + 1, 1, none⟩ = some (.int .i64 0) := by rw [hc1 _ _ (by simp)]; simp
  have f0 : w1.frozen? ⟨w.heap.size + 1, 0, none⟩ = false := by rw [hf1 _ _ (by simp)]; simp
  have f1 : w1.frozen? ⟨w.heap.size + 1, 1, none⟩ = false := by rw [hf1 _ _ (by simp)]; simp
  have hY : Blk w1 (w.heap.size + 1) #[.int .i64 0, .int .i64 0] 24 := Blk.go (by simpa using Blk.fresh (w.alloc _) _ _) hb1
  have hB := Lib.hid (below_alloc2 hb1)
  clear hb1 hc1 hf1
  go_upto_region 4 with fail
  go_cut [5] (fun s5 wx => s5 = .int .i64 r.2.2 ∧ Blk wx (w.heap.size + 1) #[.int .i64 r.1, .int .i64 r.2.1] 24 ∧ Below w.heap.size w wx)
  case first =>
    go_region_with (first
      | (go_at_call 47; refine (mag_any _ _ (by omega) (by omega)).mono ?_; rintro e w' ⟨rfl, rfl⟩)
      | (go_at_call 59; refine (power_at HR _ h (by omega)).mono ?_; rintro e w2 ⟨rfl, hb2⟩; have y0 : w2.cell? ⟨w.heap.size + 1, 0, none⟩ = some (.int .i64 0) := (hb2.cell (p := ⟨w.heap.size + 1, 0, none⟩) hz2).trans z0; have y1 : w2.cell? ⟨w.heap.size + 1, 1, none⟩ = some (.int .i64 0) := (hb2.cell (p := ⟨w.heap.size + 1, 1, none⟩) hz2).trans z1; have g0 : w2.frozen? ⟨w.heap.size + 1, 0, none⟩ = false := (hb2.frozen (p := ⟨w.heap.size + 1, 0, none⟩) hz2).trans f0; have g1 : w2.frozen? ⟨w.heap.size + 1, 1, none⟩ = false := (hb2.frozen (p := ⟨w.heap.size + 1, 1, none⟩) hz2).trans f1))
    all_goals go_wp2_with fail
    all_goals go_meet
    all_goals exact ⟨rfl, (((hY.drew.go hb2).set 0 _).set 1 _ : Blk _ (w.heap.size + 1) _ _), (((hB.out.trans ((below_drewN (Below.refl _ _) 1).mono hB.out.size)).trans (hb2.mono hB.out.size)).setCell (by simp) _).setCell (by simp) _⟩
  case rest =>
    obtain ⟨rfl, hR, hBx⟩ := hcut
    have r0 := hR.cellv 0 (.int .i64 r.1) rfl
    have r1 := hR.cellv 1 (.int .i64 r.2.1) rfl
    go_wp2
    exact bodyPost_ret (v := .tuple #[.agg #[.int .i64 r.1, .int .i64 r.2.1], .int .i64 r.2.2]) (by simp [results, Tryd.results36, go_sem, r0, r1]) rfl ⟨rfl, hBx⟩

theorem powc_zero (a b n : Int) (w : World) (h : validR a b = true) (hn : n < 0) (hz : a = 0) :
    Calls Tryd.prog 36 #[.agg #[.int .i64 a, .int .i64 b], .int .i64 n] w (Ret (powZ a b n) w) := by
  obtain ⟨a1, a2, a3, a4, _⟩ := valid_parts h
  have fin : Hid (powZ a b n = (0, 0, 10)) := Lib.hid (by subst hz; exact powZ_zero h hn)
  have hx : (a == 0) = true := by simp [hz]
  clear hz
  go_enter Tryd.func36, Tryd.ntmps36
  go_wp2_with fail
  refine (valid_any a b _ (by omega) (by omega) (by omega) (by omega)).mono ?_
  rintro e w1 ⟨rfl, hb1⟩
  obtain ⟨hc1, hf1⟩ := bcell hb1
  obtain ⟨hz1, hz2⟩ := size_alloc2 hb1
  have hB := Lib.hid (below_alloc2 hb1)
  clear hb1
  go_wp2
  exact bodyPost_ret (v := .tuple #[.agg #[.int .i64 0, .int .i64 0], .int .i64 10]) (by simp [results, Tryd.results36, go_sem, hc1]) rfl (ret_of fin.out (below_set1 hB.out))

set_option maxRecDepth 100000 in
set_option maxHeartbeats 2000000 in
theorem powc_neg (a b n : Int) (w : World) (h : validR a b = true) (hn : n < 0) (hn2 : -9223372036854775808 ≤ n) (hz : a ≠ 0) :
    Calls Tryd.prog 36 #[.agg #[.int .i64 a, .int .i64 b], .int .i64 n] w (Ret (powZ a b n) w) := by
  obtain ⟨a1, a2, a3, a4, _⟩ := valid_parts h
  obtain ⟨r, hr⟩ : ∃ r, powZ a b n = r := ⟨_, rfl⟩
  rw [hr]
  obtain ⟨q, hq⟩ : ∃ q, invZ a b = q := ⟨_, rfl⟩
  have hi := inv_ok h hz
  rw [hq] at hi
  obtain ⟨q0, vq, _⟩ := hi
  have HR : Hid (powN q.1 q.2.1 n.natAbs = r) := Lib.hid (by rw [← hr, powZ_neg h hn hz, hq]; congr 1; omega)
  have HQ : Hid (repr (Rat.divInt b a) = q) := Lib.hid hq
  have hx : (a == 0) = false := by simp [hz]
  have hy : (q.2.2 != 0) = false := by simp [q0]
  clear hr hq q0
  go_enter Tryd.func36, Tryd.ntmps36
  go_wp2_with fail
  refine (valid_any a b _ (by omega) (by omega) (by omega) (by omega)).mono ?_
  rintro e w1 ⟨rfl, hb1⟩
  obtain ⟨hc1, hf1⟩ := bcell hb1
  obtain ⟨hz1, hz2⟩ := size_alloc2 hb1
  have k0 : w1.cell? ⟨w.heap.size, 0, none⟩ = some (.int .i64 a) := by rw [hc1 _ _ (by simp; omega)]; simp
  have k1 : w1.cell? ⟨w.heap.size, 1, none⟩ = some (.int .i64 b) := by rw [hc1 _ _ (by simp; omega)]; simp
  have hY : Blk w1 (w.heap.size + 1) #[.int .i64 0, .int .i64 0] 24 := Blk.go (by simpa using Blk.fresh (w.alloc _) _ _) hb1
  have hB := Lib.hid (below_alloc2 hb1)
  clear hb1 hc1 hf1
  go_wp2_with fail
  refine (reduce_ret HQ _ (by omega) (by omega) (by omega) (by omega) hz).mono ?_
  rintro e w2 ⟨rfl, hb2⟩
  have hY2 := hY.go hb2
  have hs2 := hb2.size
  have hB2 := Lib.hid (hB.out.trans (hb2.mono hB.out.size))
  clear hb2 hY k0 k1
  go_upto_region 10 with fail
  have hYA := (hY2.alloc (.cells #[.int .i64 q.1, .int .i64 q.2.1] 24)).drew
  have z0 := hYA.cellv 0 (.int .i64 0) rfl
  have z1 := hYA.cellv 1 (.int .i64 0) rfl
  have f0 := hYA.free 0
  have f1 := hYA.free 1
  have hzA := hYA.lt
  have hBA := Lib.hid (hB2.out.alloc (o := .cells #[.int .i64 q.1, .int .i64 q.2.1] 24) hB2.out.size)
  go_cut [5] (fun s5 wx => s5 = .int .i64 r.2.2 ∧ Blk wx (w.heap.size + 1) #[.int .i64 r.1, .int .i64 r.2.1] 24 ∧ Below w.heap.size w wx)
  case first =>
    go_region_with (first
      | (go_at_call 47; refine (mag_any _ _ (by omega) (by omega)).mono ?_; rintro e w' ⟨rfl, rfl⟩)
      | (go_at_call 59; refine (power_at HR _ vq (by omega)).mono ?_; rintro e w3 ⟨rfl, hb3⟩; have y0 : w3.cell? ⟨w.heap.size + 1, 0, none⟩ = some (.int .i64 0) := (hb3.cell (p := ⟨w.heap.size + 1, 0, none⟩) hzA).trans z0; have y1 : w3.cell? ⟨w.heap.size + 1, 1, none⟩ = some (.int .i64 0) := (hb3.cell (p := ⟨w.heap.size + 1, 1, none⟩) hzA).trans z1; have g0 : w3.frozen? ⟨w.heap.size + 1, 0, none⟩ = false := (hb3.frozen (p := ⟨w.heap.size + 1, 0, none⟩) hzA).trans f0; have g1 : w3.frozen? ⟨w.heap.size + 1, 1, none⟩ = false := (hb3.frozen (p := ⟨w.heap.size + 1, 1, none⟩) hzA).trans f1))
    all_goals go_wp2_with fail
    all_goals go_meet
    all_goals exact ⟨rfl, (((hYA.go hb3).set 0 _).set 1 _ : Blk _ (w.heap.size + 1) _ _), (((hBA.out.trans ((below_drewN (Below.refl _ _) 1).mono hBA.out.size)).trans (hb3.mono hBA.out.size)).setCell (by simp) _).setCell (by simp) _⟩
  case rest =>
    obtain ⟨rfl, hR, hBx⟩ := hcut
    have r0 := hR.cellv 0 (.int .i64 r.1) rfl
    have r1 := hR.cellv 1 (.int .i64 r.2.1) rfl
    go_wp2
    exact bodyPost_ret (v := .tuple #[.agg #[.int .i64 r.1, .int .i64 r.2.1], .int .i64 r.2.2]) (by simp [results, Tryd.results36, go_sem, r0, r1]) rfl ⟨rfl, hBx⟩

/-- rational.Pow -/
theorem pow_any (a b n : Int) (w : World) (ha : I64 a) (hb : I64 b) (hn : I64 n) :
    Calls Tryd.prog 36 #[.agg #[.int .i64 a, .int .i64 b], .int .i64 n] w (Ret (powZ a b n) w) := by
  cases h : validR a b
  · exact powc_arg a b n w ha hb h
  · by_cases h0 : 0 ≤ n
    · exact powc_pos a b n w h h0 hn.hi
    · by_cases hz : a = 0
      · exact powc_zero a b n w h (by omega) hz
      · exact powc_neg a b n w h (by omega) hn.lo hz
end Go.Proofs.YtimkgbjgdelkeaaDoor.RatM
