/- The contract of numbers of layer 2's laws: three numbers, made of fractions. -/
import Derived.Test.YtggiljlndenjoaaDoorRatBlk
namespace Go.Proofs.YtggiljlndenjoaaDoor.RatM
open Go Go.RowKit Len

/-- A denominator that is not 0. -/
def denZ (d : Int) : Int := if d = 0 then 1 else d
structure I16 (n : Int) : Prop where
  lo : -32768 ≤ n
  hi : n ≤ 32767
/-- The memory at the head of a round. -/
structure NumS (w wr : World) (src out : Array Value) : Prop where
  x : Blk wr w.heap.size src 44
  z : Blk wr (w.heap.size + 1) #[.int .i64 0, .int .i64 0, .int .i64 0, .int .i64 0, .int .i64 0, .int .i64 0] 45
  y : Blk wr (w.heap.size + 2) out 45
  below : Below w.heap.size w wr
theorem NumS.go {w wr w' : World} {src out : Array Value} (h : NumS w wr src out) (hb : Below wr.heap.size wr w') : NumS w w' src out :=
  ⟨h.x.go hb, h.z.go hb, h.y.go hb, h.below.trans (hb.mono h.below.size)⟩
theorem NumS.set {w wr : World} {src out : Array Value} (h : NumS w wr src out) (i : Nat) (u v : Value) : NumS w ((wr.setCell ⟨w.heap.size + 2, i, none⟩ u).setCell ⟨w.heap.size + 2, i + 1, none⟩ v) src ((out.setIfInBounds i u).setIfInBounds (i + 1) v) :=
  ⟨(h.x.other (by omega) _ _).other (by omega) _ _, (h.z.other (by omega) _ _).other (by omega) _ _, (h.y.set i _).set (i + 1) _, (h.below.setCell (by simp) _).setCell (by simp) _⟩
theorem makec_ret {n d : Int} {r : Res} (hr : Hid (makeZ n d = r)) (w : World) (hn1 : -9223372036854775808 ≤ n) (hn2 : n ≤ 9223372036854775807) (hd1 : -9223372036854775808 ≤ d) (hd2 : d ≤ 9223372036854775807) :
    Calls Tryd.prog 24 #[.int .i64 n, .int .i64 d] w (Ret r w) := hr.out ▸ make_any n d w hn1 hn2 hd1 hd2

def NumR (w wr : World) (src : Array Value) (r0 r1 r2 : Res) (z : Int) : Prop :=
  (z = 0 ∧ NumS w wr src #[.int .i64 0, .int .i64 0, .int .i64 0, .int .i64 0, .int .i64 0, .int .i64 0]) ∨
  (z = 1 ∧ NumS w wr src #[.int .i64 r0.1, .int .i64 r0.2.1, .int .i64 0, .int .i64 0, .int .i64 0, .int .i64 0]) ∨
  (z = 2 ∧ NumS w wr src #[.int .i64 r0.1, .int .i64 r0.2.1, .int .i64 r1.1, .int .i64 r1.2.1, .int .i64 0, .int .i64 0]) ∨
  (z = 3 ∧ NumS w wr src #[.int .i64 r0.1, .int .i64 r0.2.1, .int .i64 r1.1, .int .i64 r1.2.1, .int .i64 r2.1, .int .i64 r2.2.1])

set_option maxRecDepth 100000 in
set_option maxHeartbeats 4000000 in
theorem numbers_any (n0 d0 n1 d1 n2 d2 : Int) (w : World) (hn0 : I16 n0) (hd0 : I16 d0) (hn1 : I16 n1) (hd1 : I16 d1) (hn2 : I16 n2) (hd2 : I16 d2) :
    Calls Tryd.prog 19 #[.agg #[.int .i16 n0, .int .i16 d0, .int .i16 n1, .int .i16 d1, .int .i16 n2, .int .i16 d2]] w fun e w' =>
      e = .returned (.agg #[.int .i64 (makeZ n0 (denZ d0)).1, .int .i64 (makeZ n0 (denZ d0)).2.1, .int .i64 (makeZ n1 (denZ d1)).1, .int .i64 (makeZ n1 (denZ d1)).2.1, .int .i64 (makeZ n2 (denZ d2)).1, .int .i64 (makeZ n2 (denZ d2)).2.1]) ∧ Below w.heap.size w w' := by
  obtain ⟨a0, b0⟩ := hn0
  obtain ⟨a1, b1⟩ := hn1
  obtain ⟨a2, b2⟩ := hn2
  obtain ⟨c0, e0⟩ := hd0
  obtain ⟨c1, e1⟩ := hd1
  obtain ⟨c2, e2⟩ := hd2
  obtain ⟨r0, h0⟩ : ∃ r, makeZ n0 (denZ d0) = r := ⟨_, rfl⟩
  obtain ⟨r1, h1⟩ : ∃ r, makeZ n1 (denZ d1) = r := ⟨_, rfl⟩
  obtain ⟨r2, h2⟩ : ∃ r, makeZ n2 (denZ d2) = r := ⟨_, rfl⟩
  rw [h0, h1, h2]
  have R0 := Lib.hid h0
  have R1 := Lib.hid h1
  have R2 := Lib.hid h2
  clear h0 h1 h2
  go_enter Tryd.func19, Tryd.ntmps19
  go_wp2_with fail
  go_loopw [4] (fun i wr => ∃ z : Int, i = .int .i64 z ∧ NumR w wr #[.int .i16 n0, .int .i16 d0, .int .i16 n1, .int .i16 d1, .int .i16 n2, .int .i16 d2] r0 r1 r2 z) (fun i _ => (3 - intOf i).toNat)
  case atStart =>
    refine ⟨0, rfl, .inl ⟨rfl, ?_⟩⟩
    exact ⟨((Blk.fresh _ _ _).alloc _).alloc _, by simpa using (Blk.fresh (w.alloc _) _ _).alloc _, by simpa using Blk.fresh ((w.alloc _).alloc _) _ _, (((Below.refl _ _).alloc (Nat.le_refl _) _).alloc (by simp) _).alloc (by simp; omega) _⟩
  case round =>
    obtain ⟨z, rfl, hR⟩ := hrel
    rcases hR with ⟨rfl, hS⟩ | ⟨rfl, hS⟩ | ⟨rfl, hS⟩ | ⟨rfl, hS⟩
    · have x0 := hS.x.cellv 0 (.int .i16 n0) rfl
      have x1 := hS.x.cellv 1 (.int .i16 d0) rfl
      by_cases hd : d0 = 0
      · have hq : (d0 == 0) = true := by simp [hd]
        have E : Hid (makeZ n0 1 = r0) := Lib.hid (by rw [← R0.out, denZ, if_pos hd])
        clear hd
        go_wp2_with fail
        refine (makec_ret E _ (by omega) (by omega) (by omega) (by omega)).mono ?_
        rintro e w2 ⟨rfl, hb⟩
        have hS2 := hS.go hb
        clear x0 x1 hS hb
        have y0 := hS2.y.cellv 0 (.int .i64 0) rfl
        have y1 := hS2.y.cellv 1 (.int .i64 0) rfl
        have g0 := hS2.y.free 0
        have g1 := hS2.y.free 1
        go_wp2_with fail
        go_roundw
        case rel => exact ⟨1, rfl, .inr (.inl ⟨rfl, hS2.set 0 _ _⟩)⟩
        case measure => simp [intOf]
      · have hq : (d0 == 0) = false := by simp [hd]
        have E : Hid (makeZ n0 d0 = r0) := Lib.hid (by rw [← R0.out, denZ, if_neg hd])
        clear hd
        go_wp2_with fail
        refine (makec_ret E _ (by omega) (by omega) (by omega) (by omega)).mono ?_
        rintro e w2 ⟨rfl, hb⟩
        have hS2 := hS.go hb
        clear x0 x1 hS hb
        have y0 := hS2.y.cellv 0 (.int .i64 0) rfl
        have y1 := hS2.y.cellv 1 (.int .i64 0) rfl
        have g0 := hS2.y.free 0
        have g1 := hS2.y.free 1
        go_wp2_with fail
        go_roundw
        case rel => exact ⟨1, rfl, .inr (.inl ⟨rfl, hS2.set 0 _ _⟩)⟩
        case measure => simp [intOf]
    · have x0 := hS.x.cellv 2 (.int .i16 n1) rfl
      have x1 := hS.x.cellv 3 (.int .i16 d1) rfl
      by_cases hd : d1 = 0
      · have hq : (d1 == 0) = true := by simp [hd]
        have E : Hid (makeZ n1 1 = r1) := Lib.hid (by rw [← R1.out, denZ, if_pos hd])
        clear hd
        go_wp2_with fail
        refine (makec_ret E _ (by omega) (by omega) (by omega) (by omega)).mono ?_
        rintro e w2 ⟨rfl, hb⟩
        have hS2 := hS.go hb
        clear x0 x1 hS hb
        have y0 := hS2.y.cellv 2 (.int .i64 0) rfl
        have y1 := hS2.y.cellv 3 (.int .i64 0) rfl
        have g0 := hS2.y.free 2
        have g1 := hS2.y.free 3
        go_wp2_with fail
        go_roundw
        case rel => exact ⟨2, rfl, .inr (.inr (.inl ⟨rfl, hS2.set 2 _ _⟩))⟩
        case measure => simp [intOf]
      · have hq : (d1 == 0) = false := by simp [hd]
        have E : Hid (makeZ n1 d1 = r1) := Lib.hid (by rw [← R1.out, denZ, if_neg hd])
        clear hd
        go_wp2_with fail
        refine (makec_ret E _ (by omega) (by omega) (by omega) (by omega)).mono ?_
        rintro e w2 ⟨rfl, hb⟩
        have hS2 := hS.go hb
        clear x0 x1 hS hb
        have y0 := hS2.y.cellv 2 (.int .i64 0) rfl
        have y1 := hS2.y.cellv 3 (.int .i64 0) rfl
        have g0 := hS2.y.free 2
        have g1 := hS2.y.free 3
        go_wp2_with fail
        go_roundw
        case rel => exact ⟨2, rfl, .inr (.inr (.inl ⟨rfl, hS2.set 2 _ _⟩))⟩
        case measure => simp [intOf]
    · have x0 := hS.x.cellv 4 (.int .i16 n2) rfl
      have x1 := hS.x.cellv 5 (.int .i16 d2) rfl
      by_cases hd : d2 = 0
      · have hq : (d2 == 0) = true := by simp [hd]
        have E : Hid (makeZ n2 1 = r2) := Lib.hid (by rw [← R2.out, denZ, if_pos hd])
        clear hd
        go_wp2_with fail
        refine (makec_ret E _ (by omega) (by omega) (by omega) (by omega)).mono ?_
        rintro e w2 ⟨rfl, hb⟩
        have hS2 := hS.go hb
        clear x0 x1 hS hb
        have y0 := hS2.y.cellv 4 (.int .i64 0) rfl
        have y1 := hS2.y.cellv 5 (.int .i64 0) rfl
        have g0 := hS2.y.free 4
        have g1 := hS2.y.free 5
        go_wp2_with fail
        go_roundw
        case rel => exact ⟨3, rfl, .inr (.inr (.inr ⟨rfl, hS2.set 4 _ _⟩))⟩
        case measure => simp [intOf]
      · have hq : (d2 == 0) = false := by simp [hd]
        have E : Hid (makeZ n2 d2 = r2) := Lib.hid (by rw [← R2.out, denZ, if_neg hd])
        clear hd
        go_wp2_with fail
        refine (makec_ret E _ (by omega) (by omega) (by omega) (by omega)).mono ?_
        rintro e w2 ⟨rfl, hb⟩
        have hS2 := hS.go hb
        clear x0 x1 hS hb
        have y0 := hS2.y.cellv 4 (.int .i64 0) rfl
        have y1 := hS2.y.cellv 5 (.int .i64 0) rfl
        have g0 := hS2.y.free 4
        have g1 := hS2.y.free 5
        go_wp2_with fail
        go_roundw
        case rel => exact ⟨3, rfl, .inr (.inr (.inr ⟨rfl, hS2.set 4 _ _⟩))⟩
        case measure => simp [intOf]
    · have hB := hS.below
      have y0 := hS.y.cellv 0 (.int .i64 r0.1) rfl
      have z0 := hS.z.cellv 0 (.int .i64 0) rfl
      have f0 := hS.z.free 0
      have y1 := hS.y.cellv 1 (.int .i64 r0.2.1) rfl
      have z1 := hS.z.cellv 1 (.int .i64 0) rfl
      have f1 := hS.z.free 1
      have y2 := hS.y.cellv 2 (.int .i64 r1.1) rfl
      have z2 := hS.z.cellv 2 (.int .i64 0) rfl
      have f2 := hS.z.free 2
      have y3 := hS.y.cellv 3 (.int .i64 r1.2.1) rfl
      have z3 := hS.z.cellv 3 (.int .i64 0) rfl
      have f3 := hS.z.free 3
      have y4 := hS.y.cellv 4 (.int .i64 r2.1) rfl
      have z4 := hS.z.cellv 4 (.int .i64 0) rfl
      have f4 := hS.z.free 4
      have y5 := hS.y.cellv 5 (.int .i64 r2.2.1) rfl
      have z5 := hS.z.cellv 5 (.int .i64 0) rfl
      have f5 := hS.z.free 5
      go_wp2
      exact bodyPost_ret (v := .agg #[.int .i64 r0.1, .int .i64 r0.2.1, .int .i64 r1.1, .int .i64 r1.2.1, .int .i64 r2.1, .int .i64 r2.2.1]) (by simp [results, Tryd.results19, go_sem, z0, z1, z2, z3, z4, z5]) rfl ⟨rfl, (((((hB.setCell (by simp) _).setCell (by simp) _).setCell (by simp) _).setCell (by simp) _).setCell (by simp) _).setCell (by simp) _⟩
end Go.Proofs.YtggiljlndenjoaaDoor.RatM
