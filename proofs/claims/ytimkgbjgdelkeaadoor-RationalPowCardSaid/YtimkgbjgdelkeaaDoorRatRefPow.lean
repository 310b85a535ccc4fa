/- The contract of the reference's Pow. -/
import Derived.Test.YtimkgbjgdelkeaaDoorRatBlk
namespace Go.Proofs.YtimkgbjgdelkeaaDoor.RatM
open Go Go.RowKit Len

/-- The memory at the head of a round: the number, the result's place, the product so far in block O. -/
structure RefS (w wr : World) (O : Nat) (a b : Int) (r : Res) : Prop where
  x : Blk wr w.heap.size #[.int .i64 a, .int .i64 b] 28
  z : Blk wr (w.heap.size + 1) #[.int .i64 0, .int .i64 0] 28
  y : Blk wr O #[.int .i64 r.1, .int .i64 r.2.1] 28
  below : Below w.heap.size w wr
  far : w.heap.size + 1 < O
theorem RefS.go {w wr w' : World} {O : Nat} {a b : Int} {r : Res} (h : RefS w wr O a b r) (hb : Below wr.heap.size wr w') : RefS w w' O a b r :=
  ⟨h.x.go hb, h.z.go hb, h.y.go hb, h.below.trans (hb.mono h.below.size), h.far⟩
theorem RefS.alloc {w wr : World} {O : Nat} {a b : Int} {r : Res} (h : RefS w wr O a b r) (o : Obj) : RefS w (wr.alloc o) O a b r := h.go ((Below.refl _ _).alloc (Nat.le_refl _) _)
theorem RefS.set {w wr : World} {O : Nat} {a b : Int} {r s : Res} (h : RefS w wr O a b r) : RefS w ((wr.setCell ⟨O, 0, none⟩ (.int .i64 s.1)).setCell ⟨O, 1, none⟩ (.int .i64 s.2.1)) O a b s :=
  have := h.far
  ⟨(h.x.other (by omega) _ _).other (by omega) _ _, (h.z.other (by omega) _ _).other (by omega) _ _, (h.y.set 0 _).set 1 _, (h.below.setCell (by show _ ≤ O; omega) _).setCell (by show _ ≤ O; omega) _, h.far⟩

theorem refmul_ret {a b c d : Int} {r : Res} (hr : Hid (mulZ a b c d = r)) (w : World) (ha : validR a b = true) (hc : validR c d = true) :
    Calls Tryd.prog 31 #[.agg #[.int .i64 a, .int .i64 b], .agg #[.int .i64 c, .int .i64 d]] w (Ret r w) := by
  obtain ⟨a1, a2, a3, a4, _⟩ := valid_parts ha
  obtain ⟨b1, b2, b3, b4, _⟩ := valid_parts hc
  exact ret_at (refmul_any a b c d w ⟨by omega, by omega⟩ ⟨by omega, by omega⟩ ⟨by omega, by omega⟩ ⟨by omega, by omega⟩) hr

set_option maxRecDepth 100000 in
set_option maxHeartbeats 2000000 in
theorem refpow_loop_a (a b : Int) (n : Nat) (w : World) (h : validR a b = true) (hn : 1 ≤ n) (hn2 : n ≤ 31) (hz : a ≠ 0) (e1 : ¬ a = 1) (e2 : ¬ a = -1) :
    Calls Tryd.prog 37 #[.agg #[.int .i64 a, .int .i64 b], .int .i64 n] w (Ret (powN a b n) w) := by
  obtain ⟨a1, a2, a3, a4, _⟩ := valid_parts h
  have hn0 : ((n : Int) == 0) = false := by rw [beq_eq_false_iff_ne]; omega
  have hn1 : (1 : Int) ≤ (n : Int) := by omega
  have hn3 : (n : Int) ≤ 31 := by omega
  have ha0 : (a == 0) = false := by simp [hz]
  clear hz
  go_enter Tryd.func37, Tryd.ntmps37
  go_wp2_with fail
  refine (refvalid_any a b _ (by omega) (by omega) (by omega) (by omega)).mono ?_
  rintro e w1 ⟨rfl, hb1⟩
  obtain ⟨hz1, hz2, hz3⟩ := size_alloc3 hb1
  have tx := Blk.go (((Blk.fresh w _ 28).alloc _).alloc _) hb1
  have tz := Blk.go (show Blk _ (w.heap.size + 1) #[.int .i64 0, .int .i64 0] 28 by simpa using (Blk.fresh (w.alloc _) _ _).alloc _) hb1
  have ty := Blk.go (show Blk _ (w.heap.size + 2) #[.int .i64 1, .int .i64 1] 28 by simpa using Blk.fresh ((w.alloc _).alloc _) _ _) hb1
  have hB := below_alloc3 hb1
  have x0 := tx.cellv 0 _ rfl
  have x1 := tx.cellv 1 _ rfl
  have y0 := ty.cellv 0 (.int .i64 1) rfl
  have y1 := ty.cellv 1 (.int .i64 1) rfl
  clear hb1
  have hS0 : RefS w (w1.alloc (.cells #[.int .i64 1, .int .i64 1] 28)) w1.heap.size a b (1, 1, 0) := ⟨tx.alloc _, tz.alloc _, Blk.fresh _ _ _, hB.alloc hB.size _, by omega⟩
  have HS0 := Lib.hid hS0
  obtain ⟨O, hO⟩ : ∃ O, w1.heap.size = O := ⟨_, rfl⟩
  have HO := Lib.hid hO
  clear hS0 hO tx tz ty hB
  go_wp2_with fail
  go_loopw [8] (fun i wr => ∃ (k : Nat) (r : Res), i = .int .i64 k ∧ k ≤ n ∧ RefS w wr O a b r ∧ Hid (powN a b k = r) ∧ r.2.2 = 0) (fun i _ => n - (intOf i).toNat)
  case atStart => exact ⟨0, (1, 1, 0), rfl, by omega, HO.out ▸ HS0.out, Lib.hid (powN_zero a b), rfl⟩
  case round =>
    obtain ⟨k, r, rfl, hk, hS, HR, hr0⟩ := hrel
    have R0 := Lib.hid hr0
    clear hr0
    clear x0 x1 y0 y1
    rw [HO.out]
    by_cases hlt : k < n
    · obtain ⟨s, hs⟩ : ∃ s, powN a b (k + 1) = s := ⟨_, rfl⟩
      have vr := powN_ok (a := a) (b := b) (k := k) (by rw [HR.out]; exact R0.out)
      rw [HR.out] at vr
      have V := Lib.hid vr.1
      have E1 : Hid (mulZ r.1 r.2.1 a b = s) := Lib.hid (by rw [← hs, ← HR.out]; exact pow_step h (by rw [HR.out]; exact R0.out))
      have hklt : (k : Int) < (n : Int) := by omega
      have x0 := hS.x.cellv 0 (.int .i64 a) rfl
      have x1 := hS.x.cellv 1 (.int .i64 b) rfl
      have y0 := hS.y.cellv 0 (.int .i64 r.1) rfl
      have y1 := hS.y.cellv 1 (.int .i64 r.2.1) rfl
      clear vr
      rcases hs ▸ powN_errs a b (k + 1) with hse | hse
      · have S0 := Lib.hid hse
        have HSs := Lib.hid hs
        have hx : (s.2.2 != 0) = false := by simp [hse]
        clear hse hs
        go_wp2_with fail
        refine (refmul_ret E1 _ V.out h).mono ?_
        rintro e w2 ⟨rfl, hb⟩
        have hS1 := hS.go hb
        have hne : O < w2.heap.size := hS1.y.lt
        clear x0 x1 y0 y1 hS hb
        have y0 := hS1.y.cellv 0 (.int .i64 r.1) rfl
        have y1 := hS1.y.cellv 1 (.int .i64 r.2.1) rfl
        have g0 := hS1.y.free 0
        have g1 := hS1.y.free 1
        go_wp2_with fail
        go_roundw
        case rel => exact ⟨k + 1, s, by go_num, by omega, hS1.set.alloc _, HSs, S0.out⟩
        case measure => simp [intOf]; omega
      · have fin : Hid (powN a b n = (0, 0, 2)) := Lib.hid (pow_stop (m := k + 1) (by omega) (by rw [hs, hse]; decide))
        subst hse
        clear hs
        go_wp2_with fail
        refine (refmul_ret E1 _ V.out h).mono ?_
        rintro e w2 ⟨rfl, hb⟩
        have hS1 := hS.go hb
        have hne : w.heap.size + 1 < w2.heap.size := hS1.z.lt
        clear x0 x1 y0 y1 hS hb
        have z0 := hS1.z.cellv 0 (.int .i64 0) rfl
        have z1 := hS1.z.cellv 1 (.int .i64 0) rfl
        have f0 := hS1.z.free 0
        have f1 := hS1.z.free 1
        have hB := below_set1 (x := .int .i64 0) (y := .int .i64 0) hS1.below
        go_wp2
        exact bodyPost_ret (v := .tuple #[.agg #[.int .i64 0, .int .i64 0], .int .i64 2]) (by simp [results, Tryd.results37, go_sem, z0, z1, hne]) rfl (ret_of fin.out (hB.alloc hB.size _))
    · obtain rfl : k = n := by omega
      have fin : Hid (powN a b k = (r.1, r.2.1, 0)) := Lib.hid (by rw [HR.out, ← R0.out])
      have y0 := hS.y.cellv 0 (.int .i64 r.1) rfl
      have y1 := hS.y.cellv 1 (.int .i64 r.2.1) rfl
      have z0 := hS.z.cellv 0 (.int .i64 0) rfl
      have z1 := hS.z.cellv 1 (.int .i64 0) rfl
      have f0 := hS.z.free 0
      have f1 := hS.z.free 1
      have hB := hS.below
      go_wp2
      exact bodyPost_ret (v := .tuple #[.agg #[.int .i64 r.1, .int .i64 r.2.1], .int .i64 0]) (by simp [results, Tryd.results37, go_sem, z0, z1]) rfl (ret_of fin.out (below_set1 hB))

set_option maxRecDepth 100000 in
set_option maxHeartbeats 2000000 in
theorem refpow_loop_1 (b : Int) (n : Nat) (w : World) (h : validR 1 b = true) (hn : 1 ≤ n) (hn2 : n ≤ 31) (e2 : ¬ b = 1) :
    Calls Tryd.prog 37 #[.agg #[.int .i64 1, .int .i64 b], .int .i64 n] w (Ret (powN 1 b n) w) := by
  obtain ⟨a1, a2, a3, a4, _⟩ := valid_parts h
  have hn0 : ((n : Int) == 0) = false := by rw [beq_eq_false_iff_ne]; omega
  have hn1 : (1 : Int) ≤ (n : Int) := by omega
  have hn3 : (n : Int) ≤ 31 := by omega
  go_enter Tryd.func37, Tryd.ntmps37
  go_wp2_with fail
  refine (refvalid_any 1 b _ (by omega) (by omega) (by omega) (by omega)).mono ?_
  rintro e w1 ⟨rfl, hb1⟩
  obtain ⟨hz1, hz2, hz3⟩ := size_alloc3 hb1
  have tx := Blk.go (((Blk.fresh w _ 28).alloc _).alloc _) hb1
  have tz := Blk.go (show Blk _ (w.heap.size + 1) #[.int .i64 0, .int .i64 0] 28 by simpa using (Blk.fresh (w.alloc _) _ _).alloc _) hb1
  have ty := Blk.go (show Blk _ (w.heap.size + 2) #[.int .i64 1, .int .i64 1] 28 by simpa using Blk.fresh ((w.alloc _).alloc _) _ _) hb1
  have hB := below_alloc3 hb1
  have x0 := tx.cellv 0 _ rfl
  have x1 := tx.cellv 1 _ rfl
  have y0 := ty.cellv 0 (.int .i64 1) rfl
  have y1 := ty.cellv 1 (.int .i64 1) rfl
  clear hb1
  have hS0 : RefS w (w1.alloc (.cells #[.int .i64 1, .int .i64 1] 28)) w1.heap.size 1 b (1, 1, 0) := ⟨tx.alloc _, tz.alloc _, Blk.fresh _ _ _, hB.alloc hB.size _, by omega⟩
  have HS0 := Lib.hid hS0
  obtain ⟨O, hO⟩ : ∃ O, w1.heap.size = O := ⟨_, rfl⟩
  have HO := Lib.hid hO
  clear hS0 hO tx tz ty hB
  go_wp2_with fail
  go_loopw [8] (fun i wr => ∃ (k : Nat) (r : Res), i = .int .i64 k ∧ k ≤ n ∧ RefS w wr O 1 b r ∧ Hid (powN 1 b k = r) ∧ r.2.2 = 0) (fun i _ => n - (intOf i).toNat)
  case atStart => exact ⟨0, (1, 1, 0), rfl, by omega, HO.out ▸ HS0.out, Lib.hid (powN_zero 1 b), rfl⟩
  case round =>
    obtain ⟨k, r, rfl, hk, hS, HR, hr0⟩ := hrel
    have R0 := Lib.hid hr0
    clear hr0
    clear x0 x1 y0 y1
    rw [HO.out]
    by_cases hlt : k < n
    · obtain ⟨s, hs⟩ : ∃ s, powN 1 b (k + 1) = s := ⟨_, rfl⟩
      have vr := powN_ok (a := 1) (b := b) (k := k) (by rw [HR.out]; exact R0.out)
      rw [HR.out] at vr
      have V := Lib.hid vr.1
      have E1 : Hid (mulZ r.1 r.2.1 1 b = s) := Lib.hid (by rw [← hs, ← HR.out]; exact pow_step h (by rw [HR.out]; exact R0.out))
      have hklt : (k : Int) < (n : Int) := by omega
      have x0 := hS.x.cellv 0 (.int .i64 1) rfl
      have x1 := hS.x.cellv 1 (.int .i64 b) rfl
      have y0 := hS.y.cellv 0 (.int .i64 r.1) rfl
      have y1 := hS.y.cellv 1 (.int .i64 r.2.1) rfl
      clear vr
      rcases hs ▸ powN_errs 1 b (k + 1) with hse | hse
      · have S0 := Lib.hid hse
        have HSs := Lib.hid hs
        have hx : (s.2.2 != 0) = false := by simp [hse]
        clear hse hs
        go_wp2_with fail
        refine (refmul_ret E1 _ V.out h).mono ?_
        rintro e w2 ⟨rfl, hb⟩
        have hS1 := hS.go hb
        have hne : O < w2.heap.size := hS1.y.lt
        clear x0 x1 y0 y1 hS hb
        have y0 := hS1.y.cellv 0 (.int .i64 r.1) rfl
        have y1 := hS1.y.cellv 1 (.int .i64 r.2.1) rfl
        have g0 := hS1.y.free 0
        have g1 := hS1.y.free 1
        go_wp2_with fail
        go_roundw
        case rel => exact ⟨k + 1, s, by go_num, by omega, hS1.set.alloc _, HSs, S0.out⟩
        case measure => simp [intOf]; omega
      · have fin : Hid (powN 1 b n = (0, 0, 2)) := Lib.hid (pow_stop (m := k + 1) (by omega) (by rw [hs, hse]; decide))
        subst hse
        clear hs
        go_wp2_with fail
        refine (refmul_ret E1 _ V.out h).mono ?_
        rintro e w2 ⟨rfl, hb⟩
        have hS1 := hS.go hb
        have hne : w.heap.size + 1 < w2.heap.size := hS1.z.lt
        clear x0 x1 y0 y1 hS hb
        have z0 := hS1.z.cellv 0 (.int .i64 0) rfl
        have z1 := hS1.z.cellv 1 (.int .i64 0) rfl
        have f0 := hS1.z.free 0
        have f1 := hS1.z.free 1
        have hB := below_set1 (x := .int .i64 0) (y := .int .i64 0) hS1.below
        go_wp2
        exact bodyPost_ret (v := .tuple #[.agg #[.int .i64 0, .int .i64 0], .int .i64 2]) (by simp [results, Tryd.results37, go_sem, z0, z1, hne]) rfl (ret_of fin.out (hB.alloc hB.size _))
    · obtain rfl : k = n := by omega
      have fin : Hid (powN 1 b k = (r.1, r.2.1, 0)) := Lib.hid (by rw [HR.out, ← R0.out])
      have y0 := hS.y.cellv 0 (.int .i64 r.1) rfl
      have y1 := hS.y.cellv 1 (.int .i64 r.2.1) rfl
      have z0 := hS.z.cellv 0 (.int .i64 0) rfl
      have z1 := hS.z.cellv 1 (.int .i64 0) rfl
      have f0 := hS.z.free 0
      have f1 := hS.z.free 1
      have hB := hS.below
      go_wp2
      exact bodyPost_ret (v := .tuple #[.agg #[.int .i64 r.1, .int .i64 r.2.1], .int .i64 0]) (by simp [results, Tryd.results37, go_sem, z0, z1]) rfl (ret_of fin.out (below_set1 hB))

set_option maxRecDepth 100000 in
set_option maxHeartbeats 2000000 in
theorem refpow_loop_m (b : Int) (n : Nat) (w : World) (h : validR (-1) b = true) (hn : 1 ≤ n) (hn2 : n ≤ 31) (e2 : ¬ b = 1) :
    Calls Tryd.prog 37 #[.agg #[.int .i64 (-1), .int .i64 b], .int .i64 n] w (Ret (powN (-1) b n) w) := by
  obtain ⟨a1, a2, a3, a4, _⟩ := valid_parts h
  have hn0 : ((n : Int) == 0) = false := by rw [beq_eq_false_iff_ne]; omega
  have hn1 : (1 : Int) ≤ (n : Int) := by omega
  have hn3 : (n : Int) ≤ 31 := by omega
  go_enter Tryd.func37, Tryd.ntmps37
  go_wp2_with fail
  refine (refvalid_any (-1) b _ (by omega) (by omega) (by omega) (by omega)).mono ?_
  rintro e w1 ⟨rfl, hb1⟩
  obtain ⟨hz1, hz2, hz3⟩ := size_alloc3 hb1
  have tx := Blk.go (((Blk.fresh w _ 28).alloc _).alloc _) hb1
  have tz := Blk.go (show Blk _ (w.heap.size + 1) #[.int .i64 0, .int .i64 0] 28 by simpa using (Blk.fresh (w.alloc _) _ _).alloc _) hb1
  have ty := Blk.go (show Blk _ (w.heap.size + 2) #[.int .i64 1, .int .i64 1] 28 by simpa using Blk.fresh ((w.alloc _).alloc _) _ _) hb1
  have hB := below_alloc3 hb1
  have x0 := tx.cellv 0 _ rfl
  have x1 := tx.cellv 1 _ rfl
  have y0 := ty.cellv 0 (.int .i64 1) rfl
  have y1 := ty.cellv 1 (.int .i64 1) rfl
  clear hb1
  have hS0 : RefS w (w1.alloc (.cells #[.int .i64 1, .int .i64 1] 28)) w1.heap.size (-1) b (1, 1, 0) := ⟨tx.alloc _, tz.alloc _, Blk.fresh _ _ _, hB.alloc hB.size _, by omega⟩
  have HS0 := Lib.hid hS0
  obtain ⟨O, hO⟩ : ∃ O, w1.heap.size = O := ⟨_, rfl⟩
  have HO := Lib.hid hO
  clear hS0 hO tx tz ty hB
  go_wp2_with fail
  go_loopw [8] (fun i wr => ∃ (k : Nat) (r : Res), i = .int .i64 k ∧ k ≤ n ∧ RefS w wr O (-1) b r ∧ Hid (powN (-1) b k = r) ∧ r.2.2 = 0) (fun i _ => n - (intOf i).toNat)
  case atStart => exact ⟨0, (1, 1, 0), rfl, by omega, HO.out ▸ HS0.out, Lib.hid (powN_zero (-1) b), rfl⟩
  case round =>
    obtain ⟨k, r, rfl, hk, hS, HR, hr0⟩ := hrel
    have R0 := Lib.hid hr0
    clear hr0
    clear x0 x1 y0 y1
    rw [HO.out]
    by_cases hlt : k < n
    · obtain ⟨s, hs⟩ : ∃ s, powN (-1) b (k + 1) = s := ⟨_, rfl⟩
      have vr := powN_ok (a := (-1)) (b := b) (k := k) (by rw [HR.out]; exact R0.out)
      rw [HR.out] at vr
      have V := Lib.hid vr.1
      have E1 : Hid (mulZ r.1 r.2.1 (-1) b = s) := Lib.hid (by rw [← hs, ← HR.out]; exact pow_step h (by rw [HR.out]; exact R0.out))
      have hklt : (k : Int) < (n : Int) := by omega
      have x0 := hS.x.cellv 0 (.int .i64 (-1)) rfl
      have x1 := hS.x.cellv 1 (.int .i64 b) rfl
      have y0 := hS.y.cellv 0 (.int .i64 r.1) rfl
      have y1 := hS.y.cellv 1 (.int .i64 r.2.1) rfl
      clear vr
      rcases hs ▸ powN_errs (-1) b (k + 1) with hse | hse
      · have S0 := Lib.hid hse
        have HSs := Lib.hid hs
        have hx : (s.2.2 != 0) = false := by simp [hse]
        clear hse hs
        go_wp2_with fail
        refine (refmul_ret E1 _ V.out h).mono ?_
        rintro e w2 ⟨rfl, hb⟩
        have hS1 := hS.go hb
        have hne : O < w2.heap.size := hS1.y.lt
        clear x0 x1 y0 y1 hS hb
        have y0 := hS1.y.cellv 0 (.int .i64 r.1) rfl
        have y1 := hS1.y.cellv 1 (.int .i64 r.2.1) rfl
        have g0 := hS1.y.free 0
        have g1 := hS1.y.free 1
        go_wp2_with fail
        go_roundw
        case rel => exact ⟨k + 1, s, by go_num, by omega, hS1.set.alloc _, HSs, S0.out⟩
        case measure => simp [intOf]; omega
      · have fin : Hid (powN (-1) b n = (0, 0, 2)) := Lib.hid (pow_stop (m := k + 1) (by omega) (by rw [hs, hse]; decide))
        subst hse
        clear hs
        go_wp2_with fail
        refine (refmul_ret E1 _ V.out h).mono ?_
        rintro e w2 ⟨rfl, hb⟩
        have hS1 := hS.go hb
        have hne : w.heap.size + 1 < w2.heap.size := hS1.z.lt
        clear x0 x1 y0 y1 hS hb
        have z0 := hS1.z.cellv 0 (.int .i64 0) rfl
        have z1 := hS1.z.cellv 1 (.int .i64 0) rfl
        have f0 := hS1.z.free 0
        have f1 := hS1.z.free 1
        have hB := below_set1 (x := .int .i64 0) (y := .int .i64 0) hS1.below
        go_wp2
        exact bodyPost_ret (v := .tuple #[.agg #[.int .i64 0, .int .i64 0], .int .i64 2]) (by simp [results, Tryd.results37, go_sem, z0, z1, hne]) rfl (ret_of fin.out (hB.alloc hB.size _))
    · obtain rfl : k = n := by omega
      have fin : Hid (powN (-1) b k = (r.1, r.2.1, 0)) := Lib.hid (by rw [HR.out, ← R0.out])
      have y0 := hS.y.cellv 0 (.int .i64 r.1) rfl
      have y1 := hS.y.cellv 1 (.int .i64 r.2.1) rfl
      have z0 := hS.z.cellv 0 (.int .i64 0) rfl
      have z1 := hS.z.cellv 1 (.int .i64 0) rfl
      have f0 := hS.z.free 0
      have f1 := hS.z.free 1
      have hB := hS.below
      go_wp2
      exact bodyPost_ret (v := .tuple #[.agg #[.int .i64 r.1, .int .i64 r.2.1], .int .i64 0]) (by simp [results, Tryd.results37, go_sem, z0, z1]) rfl (ret_of fin.out (below_set1 hB))

/-! the end -/
theorem refpow_arg (a b n : Int) (w : World) (ha : I64 a) (hb : I64 b) (h : validR a b = false) :
    Calls Tryd.prog 37 #[.agg #[.int .i64 a, .int .i64 b], .int .i64 n] w (Ret (powZ a b n) w) := by
  obtain ⟨a1, a2⟩ := ha
  obtain ⟨b1, b2⟩ := hb
  have fin := Lib.hid (powZ_arg (n := n) h)
  go_enter Tryd.func37, Tryd.ntmps37
  go_wp2_with fail
  refine (refvalid_any _ _ _ (by omega) (by omega) (by omega) (by omega)).mono ?_
  rintro e w1 ⟨rfl, hb1⟩
  obtain ⟨hz1, hz2, hz3⟩ := size_alloc3 hb1
  have tx := Blk.go (((Blk.fresh w _ 28).alloc _).alloc _) hb1
  have tz := Blk.go (show Blk _ (w.heap.size + 1) #[.int .i64 0, .int .i64 0] 28 by simpa using (Blk.fresh (w.alloc _) _ _).alloc _) hb1
  have ty := Blk.go (show Blk _ (w.heap.size + 2) #[.int .i64 1, .int .i64 1] 28 by simpa using Blk.fresh ((w.alloc _).alloc _) _ _) hb1
  have hB := below_alloc3 hb1
  have x0 := tx.cellv 0 _ rfl
  have x1 := tx.cellv 1 _ rfl
  have y0 := ty.cellv 0 (.int .i64 1) rfl
  have y1 := ty.cellv 1 (.int .i64 1) rfl
  have z0 := tz.cellv 0 (.int .i64 0) rfl
  have z1 := tz.cellv 1 (.int .i64 0) rfl
  have f0 := tz.free 0
  have f1 := tz.free 1
  clear hb1
  go_wp2
  exact bodyPost_ret (v := .tuple #[.agg #[.int .i64 0, .int .i64 0], .int .i64 1]) (by simp [results, Tryd.results37, go_sem, z0, z1]) rfl (ret_of fin.out (below_set1 hB))
theorem refpow_n0 (a b n : Int) (w : World) (h : validR a b = true) (hn : n = 0) :
    Calls Tryd.prog 37 #[.agg #[.int .i64 a, .int .i64 b], .int .i64 n] w (Ret (powZ a b n) w) := by
  obtain ⟨a1, a2, a3, a4, _⟩ := valid_parts h
  have fin : Hid (powZ a b n = (1, 1, 0)) := Lib.hid (by subst hn; exact powZ_n0 h)
  have hx : (n == 0) = true := by simp [hn]
  clear hn
  go_enter Tryd.func37, Tryd.ntmps37
  go_wp2_with fail
  refine (refvalid_any _ _ _ (by omega) (by omega) (by omega) (by omega)).mono ?_
  rintro e w1 ⟨rfl, hb1⟩
  obtain ⟨hz1, hz2, hz3⟩ := size_alloc3 hb1
  have tx := Blk.go (((Blk.fresh w _ 28).alloc _).alloc _) hb1
  have tz := Blk.go (show Blk _ (w.heap.size + 1) #[.int .i64 0, .int .i64 0] 28 by simpa using (Blk.fresh (w.alloc _) _ _).alloc _) hb1
  have ty := Blk.go (show Blk _ (w.heap.size + 2) #[.int .i64 1, .int .i64 1] 28 by simpa using Blk.fresh ((w.alloc _).alloc _) _ _) hb1
  have hB := below_alloc3 hb1
  have x0 := tx.cellv 0 _ rfl
  have x1 := tx.cellv 1 _ rfl
  have y0 := ty.cellv 0 (.int .i64 1) rfl
  have y1 := ty.cellv 1 (.int .i64 1) rfl
  have z0 := tz.cellv 0 (.int .i64 0) rfl
  have z1 := tz.cellv 1 (.int .i64 0) rfl
  have f0 := tz.free 0
  have f1 := tz.free 1
  clear hb1
  go_wp2
  exact bodyPost_ret (v := .tuple #[.agg #[.int .i64 1, .int .i64 1], .int .i64 0]) (by simp [results, Tryd.results37, go_sem, z0, z1]) rfl (ret_of fin.out (below_set1 hB))
theorem refpow_one (n : Int) (w : World) (hn : n ≠ 0) :
    Calls Tryd.prog 37 #[.agg #[.int .i64 1, .int .i64 1], .int .i64 n] w (Ret (powZ 1 1 n) w) := by
  have h : validR 1 1 = true := by decide
  have fin := Lib.hid (powZ_one n)
  have hx : (n == 0) = false := by simp [hn]
  clear hn
  go_enter Tryd.func37, Tryd.ntmps37
  go_wp2_with fail
  refine (refvalid_any _ _ _ (by omega) (by omega) (by omega) (by omega)).mono ?_
  rintro e w1 ⟨rfl, hb1⟩
  obtain ⟨hz1, hz2, hz3⟩ := size_alloc3 hb1
  have tx := Blk.go (((Blk.fresh w _ 28).alloc _).alloc _) hb1
  have tz := Blk.go (show Blk _ (w.heap.size + 1) #[.int .i64 0, .int .i64 0] 28 by simpa using (Blk.fresh (w.alloc _) _ _).alloc _) hb1
  have ty := Blk.go (show Blk _ (w.heap.size + 2) #[.int .i64 1, .int .i64 1] 28 by simpa using Blk.fresh ((w.alloc _).alloc _) _ _) hb1
  have hB := below_alloc3 hb1
  have x0 := tx.cellv 0 _ rfl
  have x1 := tx.cellv 1 _ rfl
  have y0 := ty.cellv 0 (.int .i64 1) rfl
  have y1 := ty.cellv 1 (.int .i64 1) rfl
  have z0 := tz.cellv 0 (.int .i64 0) rfl
  have z1 := tz.cellv 1 (.int .i64 0) rfl
  have f0 := tz.free 0
  have f1 := tz.free 1
  clear hb1
  go_wp2
  exact bodyPost_ret (v := .tuple #[.agg #[.int .i64 1, .int .i64 1], .int .i64 0]) (by simp [results, Tryd.results37, go_sem, z0, z1]) rfl (ret_of fin.out (below_set1 hB))
theorem refpow_zn (b n : Int) (w : World) (h : validR 0 b = true) (hn : n < 0) :
    Calls Tryd.prog 37 #[.agg #[.int .i64 0, .int .i64 b], .int .i64 n] w (Ret (powZ 0 b n) w) := by
  obtain ⟨a1, a2, a3, a4, _⟩ := valid_parts h
  have fin := Lib.hid (powZ_zero h hn)
  have hx : (n == 0) = false := by rw [beq_eq_false_iff_ne]; omega
  go_enter Tryd.func37, Tryd.ntmps37
  go_wp2_with fail
  refine (refvalid_any _ _ _ (by omega) (by omega) (by omega) (by omega)).mono ?_
  rintro e w1 ⟨rfl, hb1⟩
  obtain ⟨hz1, hz2, hz3⟩ := size_alloc3 hb1
  have tx := Blk.go (((Blk.fresh w _ 28).alloc _).alloc _) hb1
  have tz := Blk.go (show Blk _ (w.heap.size + 1) #[.int .i64 0, .int .i64 0] 28 by simpa using (Blk.fresh (w.alloc _) _ _).alloc _) hb1
  have ty := Blk.go (show Blk _ (w.heap.size + 2) #[.int .i64 1, .int .i64 1] 28 by simpa using Blk.fresh ((w.alloc _).alloc _) _ _) hb1
  have hB := below_alloc3 hb1
  have x0 := tx.cellv 0 _ rfl
  have x1 := tx.cellv 1 _ rfl
  have y0 := ty.cellv 0 (.int .i64 1) rfl
  have y1 := ty.cellv 1 (.int .i64 1) rfl
  have z0 := tz.cellv 0 (.int .i64 0) rfl
  have z1 := tz.cellv 1 (.int .i64 0) rfl
  have f0 := tz.free 0
  have f1 := tz.free 1
  clear hb1
  go_wp2
  exact bodyPost_ret (v := .tuple #[.agg #[.int .i64 0, .int .i64 0], .int .i64 10]) (by simp [results, Tryd.results37, go_sem, z0, z1]) rfl (ret_of fin.out (below_set1 hB))
theorem refpow_zp (b n : Int) (w : World) (h : validR 0 b = true) (hn : 0 < n) :
    Calls Tryd.prog 37 #[.agg #[.int .i64 0, .int .i64 b], .int .i64 n] w (Ret (powZ 0 b n) w) := by
  obtain ⟨a1, a2, a3, a4, _⟩ := valid_parts h
  have fin := Lib.hid (powZ_base0 h hn)
  have hx : (n == 0) = false := by rw [beq_eq_false_iff_ne]; omega
  go_enter Tryd.func37, Tryd.ntmps37
  go_wp2_with fail
  refine (refvalid_any _ _ _ (by omega) (by omega) (by omega) (by omega)).mono ?_
  rintro e w1 ⟨rfl, hb1⟩
  obtain ⟨hz1, hz2, hz3⟩ := size_alloc3 hb1
  have tx := Blk.go (((Blk.fresh w _ 28).alloc _).alloc _) hb1
  have tz := Blk.go (show Blk _ (w.heap.size + 1) #[.int .i64 0, .int .i64 0] 28 by simpa using (Blk.fresh (w.alloc _) _ _).alloc _) hb1
  have ty := Blk.go (show Blk _ (w.heap.size + 2) #[.int .i64 1, .int .i64 1] 28 by simpa using Blk.fresh ((w.alloc _).alloc _) _ _) hb1
  have hB := below_alloc3 hb1
  have x0 := tx.cellv 0 _ rfl
  have x1 := tx.cellv 1 _ rfl
  have y0 := ty.cellv 0 (.int .i64 1) rfl
  have y1 := ty.cellv 1 (.int .i64 1) rfl
  have z0 := tz.cellv 0 (.int .i64 0) rfl
  have z1 := tz.cellv 1 (.int .i64 0) rfl
  have f0 := tz.free 0
  have f1 := tz.free 1
  clear hb1
  go_wp2
  exact bodyPost_ret (v := .tuple #[.agg #[.int .i64 0, .int .i64 b], .int .i64 0]) (by simp [results, Tryd.results37, go_sem, z0, z1]) rfl (ret_of fin.out (below_set1 hB))
theorem tmod_even {n : Int} (h : n % 2 = 0) : (Int.tmod n 2 == 0) = true := by
  rw [beq_iff_eq]
  exact Int.tmod_eq_zero_of_dvd (by omega)
theorem tmod_odd {n : Int} (h : ¬ n % 2 = 0) : (Int.tmod n 2 == 0) = false := by
  rw [beq_eq_false_iff_ne]
  intro e
  have := Int.dvd_of_tmod_eq_zero e
  omega
theorem refpow_m1 (n : Int) (w : World) (hn : n ≠ 0) :
    Calls Tryd.prog 37 #[.agg #[.int .i64 (-1), .int .i64 1], .int .i64 n] w (Ret (powZ (-1) 1 n) w) := by
  have h : validR (-1) 1 = true := by decide
  have hx : (n == 0) = false := by simp [hn]
  clear hn
  by_cases he : n % 2 = 0
  · have fin : Hid (powZ (-1) 1 n = (1, 1, 0)) := Lib.hid (by rw [powZ_m1, if_pos he])
    have hm := tmod_even he
    clear he
    go_enter Tryd.func37, Tryd.ntmps37
    go_wp2_with fail
    refine (refvalid_any _ _ _ (by omega) (by omega) (by omega) (by omega)).mono ?_
    rintro e w1 ⟨rfl, hb1⟩
    obtain ⟨hz1, hz2, hz3⟩ := size_alloc3 hb1
    have tx := Blk.go (((Blk.fresh w _ 28).alloc _).alloc _) hb1
    have tz := Blk.go (show Blk _ (w.heap.size + 1) #[.int .i64 0, .int .i64 0] 28 by simpa using (Blk.fresh (w.alloc _) _ _).alloc _) hb1
    have ty := Blk.go (show Blk _ (w.heap.size + 2) #[.int .i64 1, .int .i64 1] 28 by simpa using Blk.fresh ((w.alloc _).alloc _) _ _) hb1
    have hB := below_alloc3 hb1
    have x0 := tx.cellv 0 _ rfl
    have x1 := tx.cellv 1 _ rfl
    have y0 := ty.cellv 0 (.int .i64 1) rfl
    have y1 := ty.cellv 1 (.int .i64 1) rfl
    have z0 := tz.cellv 0 (.int .i64 0) rfl
    have z1 := tz.cellv 1 (.int .i64 0) rfl
    have f0 := tz.free 0
    have f1 := tz.free 1
    clear hb1
    go_wp2
    exact bodyPost_ret (v := .tuple #[.agg #[.int .i64 1, .int .i64 1], .int .i64 0]) (by simp [results, Tryd.results37, go_sem, z0, z1]) rfl (ret_of fin.out (below_set1 hB))
  · have fin : Hid (powZ (-1) 1 n = (-1, 1, 0)) := Lib.hid (by rw [powZ_m1, if_neg he])
    have hm := tmod_odd he
    clear he
    go_enter Tryd.func37, Tryd.ntmps37
    go_wp2_with fail
    refine (refvalid_any _ _ _ (by omega) (by omega) (by omega) (by omega)).mono ?_
    rintro e w1 ⟨rfl, hb1⟩
    obtain ⟨hz1, hz2, hz3⟩ := size_alloc3 hb1
    have tx := Blk.go (((Blk.fresh w _ 28).alloc _).alloc _) hb1
    have tz := Blk.go (show Blk _ (w.heap.size + 1) #[.int .i64 0, .int .i64 0] 28 by simpa using (Blk.fresh (w.alloc _) _ _).alloc _) hb1
    have ty := Blk.go (show Blk _ (w.heap.size + 2) #[.int .i64 1, .int .i64 1] 28 by simpa using Blk.fresh ((w.alloc _).alloc _) _ _) hb1
    have hB := below_alloc3 hb1
    have x0 := tx.cellv 0 _ rfl
    have x1 := tx.cellv 1 _ rfl
    have y0 := ty.cellv 0 (.int .i64 1) rfl
    have y1 := ty.cellv 1 (.int .i64 1) rfl
    have z0 := tz.cellv 0 (.int .i64 0) rfl
    have z1 := tz.cellv 1 (.int .i64 0) rfl
    have f0 := tz.free 0
    have f1 := tz.free 1
    clear hb1
    go_wp2
    exact bodyPost_ret (v := .tuple #[.agg #[.int .i64 (-1), .int .i64 1], .int .i64 0]) (by simp [results, Tryd.results37, go_sem, z0, z1]) rfl (ret_of fin.out (below_set1 hB))
set_option maxRecDepth 100000 in
set_option maxHeartbeats 2000000 in
theorem refpow_range (a b n : Int) (w : World) (h : validR a b = true) (hz : a ≠ 0) (hA : (¬ a = 1 ∧ ¬ a = -1) ∨ (a = 1 ∧ ¬ b = 1) ∨ (a = -1 ∧ ¬ b = 1)) (hn : n < -31 ∨ 31 < n) :
    Calls Tryd.prog 37 #[.agg #[.int .i64 a, .int .i64 b], .int .i64 n] w (Ret (powZ a b n) w) := by
  obtain ⟨a1, a2, a3, a4, _⟩ := valid_parts h
  have fin : Hid (powZ a b n = (0, 0, 2)) := Lib.hid (powZ_big h hz (by omega) hn)
  have hx : (n == 0) = false := by rw [beq_eq_false_iff_ne]; omega
  have ha0 : (a == 0) = false := by simp [hz]
  have hn' : n < -31 ∨ (-31 ≤ n ∧ 31 < n) := by omega
  clear hz hn
  rcases hn' with hn | ⟨hn, hn3⟩
  all_goals
    rcases hA with ⟨e1, e2⟩ | ⟨e1, e2⟩ | ⟨e1, e2⟩
    all_goals
      first | (subst e1; clear ha0; have ha0 : True := trivial) | skip
      go_enter Tryd.func37, Tryd.ntmps37
      go_wp2_with fail
      refine (refvalid_any _ _ _ (by omega) (by omega) (by omega) (by omega)).mono ?_
      rintro e w1 ⟨rfl, hb1⟩
      obtain ⟨hz1, hz2, hz3⟩ := size_alloc3 hb1
      have tx := Blk.go (((Blk.fresh w _ 28).alloc _).alloc _) hb1
      have tz := Blk.go (show Blk _ (w.heap.size + 1) #[.int .i64 0, .int .i64 0] 28 by simpa using (Blk.fresh (w.alloc _) _ _).alloc _) hb1
      have ty := Blk.go (show Blk _ (w.heap.size + 2) #[.int .i64 1, .int .i64 1] 28 by simpa using Blk.fresh ((w.alloc _).alloc _) _ _) hb1
      have hB := below_alloc3 hb1
      have x0 := tx.cellv 0 _ rfl
      have x1 := tx.cellv 1 _ rfl
      have y0 := ty.cellv 0 (.int .i64 1) rfl
      have y1 := ty.cellv 1 (.int .i64 1) rfl
      have z0 := tz.cellv 0 (.int .i64 0) rfl
      have z1 := tz.cellv 1 (.int .i64 0) rfl
      have f0 := tz.free 0
      have f1 := tz.free 1
      clear hb1
      go_wp2
      exact bodyPost_ret (v := .tuple #[.agg #[.int .i64 0, .int .i64 0], .int .i64 2]) (by simp [results, Tryd.results37, go_sem, z0, z1]) rfl (ret_of fin.out (below_set1 hB))
theorem refpow_nat (a b : Int) (n : Nat) (w : World) (h : validR a b = true) (hn : 1 ≤ n) (hn2 : n ≤ 31) (hz : a ≠ 0) (hA : (¬ a = 1 ∧ ¬ a = -1) ∨ (a = 1 ∧ ¬ b = 1) ∨ (a = -1 ∧ ¬ b = 1)) :
    Calls Tryd.prog 37 #[.agg #[.int .i64 a, .int .i64 b], .int .i64 n] w (Ret (powN a b n) w) := by
  rcases hA with ⟨e1, e2⟩ | ⟨e1, e2⟩ | ⟨e1, e2⟩
  · exact refpow_loop_a a b n w h hn hn2 hz e1 e2
  · subst e1; exact refpow_loop_1 b n w h hn hn2 e2
  · subst e1; exact refpow_loop_m b n w h hn hn2 e2
theorem inv_A {a b : Int} (h : validR a b = true) (hz : a ≠ 0) (hA : 2 ≤ a.natAbs ∨ 2 ≤ b.natAbs) : (invZ a b).1 ≠ 0 ∧ ((¬ (invZ a b).1 = 1 ∧ ¬ (invZ a b).1 = -1) ∨ ((invZ a b).1 = 1 ∧ ¬ (invZ a b).2.1 = 1) ∨ ((invZ a b).1 = -1 ∧ ¬ (invZ a b).2.1 = 1)) := by
  have hb := inv_big h hz hA
  obtain ⟨_, hv, _⟩ := inv_ok h hz
  obtain ⟨a1, a2, a3, a4, _⟩ := valid_parts h
  have hne : (invZ a b).1 ≠ 0 := by
    intro e0
    have e1 := zero_den (e0 ▸ hv)
    omega
  obtain ⟨v1, v2, v3, v4, _⟩ := valid_parts hv
  refine ⟨hne, ?_⟩
  omega
set_option maxRecDepth 100000 in
set_option maxHeartbeats 1000000 in
theorem refpow_neg (a b n : Int) (w : World) (h : validR a b = true) (hz : a ≠ 0) (hA : (¬ a = 1 ∧ ¬ a = -1) ∨ (a = 1 ∧ ¬ b = 1) ∨ (a = -1 ∧ ¬ b = 1)) (hn : n < 0) (hn2 : -31 ≤ n) :
    Calls Tryd.prog 37 #[.agg #[.int .i64 a, .int .i64 b], .int .i64 n] w (Ret (powZ a b n) w) := by
  obtain ⟨a1, a2, a3, a4, _⟩ := valid_parts h
  obtain ⟨r, hr⟩ : ∃ r, powZ a b n = r := ⟨_, rfl⟩
  rw [hr]
  obtain ⟨q, hq⟩ : ∃ q, invZ a b = q := ⟨_, rfl⟩
  have hi := inv_ok h hz
  have hi2 := inv_A h hz (by omega)
  rw [hq] at hi hi2
  obtain ⟨q0, vq, _⟩ := hi
  obtain ⟨m, hm⟩ : ∃ m : Nat, -n = m := ⟨n.natAbs, by omega⟩
  have HP : Hid (∀ W : World, Calls Tryd.prog 37 #[.agg #[.int .i64 q.1, .int .i64 q.2.1], .int .i64 (-n)] W (Ret r W)) := Lib.hid fun W => by
    rw [hm, ← hr, powZ_neg h hn hz, hq, show (-n).toNat = m by omega]
    exact refpow_nat q.1 q.2.1 m W vq (by omega) (by omega) hi2.1 hi2.2
  have HQ : Hid (makeZ b a = q) := Lib.hid (by rw [makeZ, if_neg hz]; exact hq)
  have hx : (n == 0) = false := by rw [beq_eq_false_iff_ne]; omega
  have ha0 : (a == 0) = false := by simp [hz]
  clear hr hq q0 hi2 vq hm hz
  rcases hA with ⟨e1, e2⟩ | ⟨e1, e2⟩ | ⟨e1, e2⟩
  all_goals
    first | (subst e1; clear ha0; have ha0 : True := trivial) | skip
    go_enter Tryd.func37, Tryd.ntmps37
    go_wp2_with fail
    refine (refvalid_any _ _ _ (by omega) (by omega) (by omega) (by omega)).mono ?_
    rintro e w1 ⟨rfl, hb1⟩
    obtain ⟨hz1, hz2, hz3⟩ := size_alloc3 hb1
    have tx := Blk.go (((Blk.fresh w _ 28).alloc _).alloc _) hb1
    have tz := Blk.go (show Blk _ (w.heap.size + 1) #[.int .i64 0, .int .i64 0] 28 by simpa using (Blk.fresh (w.alloc _) _ _).alloc _) hb1
    have ty := Blk.go (show Blk _ (w.heap.size + 2) #[.int .i64 1, .int .i64 1] 28 by simpa using Blk.fresh ((w.alloc _).alloc _) _ _) hb1
    have hB := below_alloc3 hb1
    have x0 := tx.cellv 0 _ rfl
    have x1 := tx.cellv 1 _ rfl
    have y0 := ty.cellv 0 (.int .i64 1) rfl
    have y1 := ty.cellv 1 (.int .i64 1) rfl
    have z0 := tz.cellv 0 (.int .i64 0) rfl
    have z1 := tz.cellv 1 (.int .i64 0) rfl
    have f0 := tz.free 0
    have f1 := tz.free 1
    clear hb1
    have g0 := tx.free 0
    have g1 := tx.free 1
    go_wp2_with fail
    refine (make_ret HQ _ (by omega) (by omega) (by omega) (by omega)).mono ?_
    rintro e w2 ⟨rfl, hb2⟩
    replace tx := tx.go hb2
    replace tz := (((tz.go hb2).other (C := w.heap.size) (by omega) 0 (.int .i64 q.1)).other (C := w.heap.size) (by omega) 1 (.int .i64 q.2.1))
    replace hB := below_setAt (hB.trans (hb2.mono hB.size)) w.heap.size (Nat.le_refl _) (.int .i64 q.1) (.int .i64 q.2.1)
    clear x0 x1 y0 y1 z0 z1 f0 f1 g0 g1 hb2 ty
    have x0 := tx.cellv 0 _ rfl
    have x1 := tx.cellv 1 _ rfl
    have g0 := tx.free 0
    have g1 := tx.free 1
    go_wp2_with fail
    refine (HP.out _).mono ?_
    rintro e w3 ⟨rfl, hb3⟩
    replace tz := tz.go hb3
    replace hB := hB.trans (hb3.mono hB.size)
    clear x0 x1 g0 g1 hb3 tx
    have z0 := tz.cellv 0 (.int .i64 0) rfl
    have z1 := tz.cellv 1 (.int .i64 0) rfl
    have f0 := tz.free 0
    have f1 := tz.free 1
    go_wp2
    exact bodyPost_ret (v := .tuple #[.agg #[.int .i64 r.1, .int .i64 r.2.1], .int .i64 r.2.2]) (by simp [results, Tryd.results37, go_sem, z0, z1]) rfl ⟨rfl, below_set1 hB⟩
/-- the reference's Pow -/
theorem refpow_any (a b n : Int) (w : World) (ha : I64 a) (hb : I64 b) (hn : I64 n) :
    Calls Tryd.prog 37 #[.agg #[.int .i64 a, .int .i64 b], .int .i64 n] w (Ret (powZ a b n) w) := by
  cases h : validR a b
  · exact refpow_arg a b n w ha hb h
  · obtain ⟨v1, v2, v3, v4, _⟩ := valid_parts h
    by_cases h0 : n = 0
    · exact refpow_n0 a b n w h h0
    · by_cases hz : a = 0
      · subst hz
        rcases Int.lt_or_lt_of_ne h0 with hn' | hn'
        · exact refpow_zn b n w h hn'
        · exact refpow_zp b n w h hn'
      · by_cases e1 : a = 1 ∧ b = 1
        · obtain ⟨rfl, rfl⟩ := e1; exact refpow_one n w h0
        · by_cases e2 : a = -1 ∧ b = 1
          · obtain ⟨rfl, rfl⟩ := e2; exact refpow_m1 n w h0
          · have hA : (¬ a = 1 ∧ ¬ a = -1) ∨ (a = 1 ∧ ¬ b = 1) ∨ (a = -1 ∧ ¬ b = 1) := by omega
            by_cases hr : n < -31 ∨ 31 < n
            · exact refpow_range a b n w h hz hA hr
            · by_cases hn' : n < 0
              · exact refpow_neg a b n w h hz hA hn' (by omega)
              · obtain ⟨m, rfl⟩ := Int.eq_ofNat_of_zero_le (show 0 ≤ n by omega)
                rw [powZ_nonneg h (by omega)]
                exact refpow_nat a b m w h (by omega) (by omega) hz hA
end Go.Proofs.YtimkgbjgdelkeaaDoor.RatM
