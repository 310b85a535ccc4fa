/- RationalUndo: for every three fractions of small integers the law returns true and turns nothing that lay in memory. Condition: the package-level tables hold what the program's text lays (tied by the card). -/
import Derived.Test.YtimkgbjgdelkeaaDoorCards
import Derived.SevenTiedAt
import Derived.OpenShut
import Derived.Test.YtimkgbjgdelkeaaDoorTie
import Derived.Test.YtimkgbjgdelkeaaDoorLaid
import Derived.Test.YtimkgbjgdelkeaaDoorRatOpen
import Derived.Test.YtimkgbjgdelkeaaDoorRatBds
namespace Go.Proofs.YtimkgbjgdelkeaaDoor.rationalUndo
open Go Go.RowKit Go.WideShapes Go.ChangeShapes Len RatM

set_option maxRecDepth 100000 in
set_option maxHeartbeats 8000000 in
theorem walk_a_err (n0 d0 n1 d1 n2 d2 : Int) (w : World) (hT : Tabs w) (hn0 : I16 n0) (hd0 : I16 d0) (hn1 : I16 n1) (hd1 : I16 d1) (hn2 : I16 n2) (hd2 : I16 d2) (hA : (addZ (makeZ n0 (denZ d0)).1 (makeZ n0 (denZ d0)).2.1 (makeZ n1 (denZ d1)).1 (makeZ n1 (denZ d1)).2.1).2.2 = 0) (hM : (mulZ (makeZ n0 (denZ d0)).1 (makeZ n0 (denZ d0)).2.1 (makeZ n1 (denZ d1)).1 (makeZ n1 (denZ d1)).2.1).2.2 ≠ 0) :
    Calls Tryd.prog 9 #[.agg #[.int .i16 n0, .int .i16 d0, .int .i16 n1, .int .i16 d1, .int .i16 n2, .int .i16 d2]] w fun e w' => e = .returned (.bool true) ∧ Below w.heap.size w w' := by
  have hc := numbers_any n0 d0 n1 d1 n2 d2
  obtain ⟨x0, xv⟩ := small_ok hn0.lo (Int.le_trans hn0.hi (by omega)) hd0.lo (Int.le_trans hd0.hi (by omega))
  obtain ⟨y0, yv⟩ := small_ok hn1.lo (Int.le_trans hn1.hi (by omega)) hd1.lo (Int.le_trans hd1.hi (by omega))
  obtain ⟨z0, zv⟩ := small_ok hn2.lo (Int.le_trans hn2.hi (by omega)) hd2.lo (Int.le_trans hd2.hi (by omega))
  have bx := bd_make n0 (denZ d0)
  have by_ := bd_make n1 (denZ d1)
  have bz := bd_make n2 (denZ d2)
  generalize makeZ n0 (denZ d0) = x at *
  generalize makeZ n1 (denZ d1) = y at *
  generalize makeZ n2 (denZ d2) = z at *
  have HC : Hid (∀ w : World, Calls Tryd.prog 38 #[.agg #[.int .i16 n0, .int .i16 d0, .int .i16 n1, .int .i16 d1, .int .i16 n2, .int .i16 d2]] w fun e w' => e = .returned (.agg #[.int .i64 x.1, .int .i64 x.2.1, .int .i64 y.1, .int .i64 y.2.1, .int .i64 z.1, .int .i64 z.2.1]) ∧ Below w.heap.size w w') := Lib.hid fun w => hc w hn0 hd0 hn1 hd1 hn2 hd2
  clear hc hn0 hd0 hn1 hd1 hn2 hd2
  obtain ⟨s, es⟩ : ∃ s, addZ x.1 x.2.1 y.1 y.2.1 = s := ⟨_, rfl⟩
  obtain ⟨p, ep⟩ : ∃ p, mulZ x.1 x.2.1 y.1 y.2.1 = p := ⟨_, rfl⟩
  have bs := bd_of (bd_add x.1 x.2.1 y.1 y.2.1) es
  have bp := bd_of (bd_mul x.1 x.2.1 y.1 y.2.1) ep
  have U1 : Hid (subZ s.1 s.2.1 y.1 y.2.1 = (x.1, x.2.1, 0)) := Lib.hid (by rw [← es]; exact sub_undo xv yv hA)
  rw [es] at hA
  rw [ep] at hM
  have ES := Lib.hid es
  have EP := Lib.hid ep
  have hA' : (s.2.2 == 0) = true := by simp [hA]
  have hM' : (p.2.2 == 0) = false := by simp [hM]
  clear es ep hA hM x0 y0 z0 xv yv zv bz
  have ix := bx.x
  have jx := bx.y
  have iy := by_.x
  have jy := by_.y
  go_enter Tryd.func9, Tryd.ntmps9
  go_wp2_with fail
  have hK := (Kept.refl hT).alloc (.cells #[.int .i16 n0, .int .i16 d0, .int .i16 n1, .int .i16 d1, .int .i16 n2, .int .i16 d2] 54)
  have b1 := Blk.fresh w #[.int .i16 n0, .int .i16 d0, .int .i16 n1, .int .i16 d1, .int .i16 n2, .int .i16 d2] 54
  refine (awake_any _ hK.tabs).mono ?_
  rintro e w1 ⟨rfl, hb⟩
  replace hK := hK.go hb
  replace b1 := b1.go hb
  clear hb
  have q0 := b1.cellv 0 _ rfl
  have q1 := b1.cellv 1 _ rfl
  have q2 := b1.cellv 2 _ rfl
  have q3 := b1.cellv 3 _ rfl
  have q4 := b1.cellv 4 _ rfl
  have q5 := b1.cellv 5 _ rfl
  go_wp2_with fail
  refine (HC.out _).mono ?_
  rintro e w2 ⟨rfl, hb⟩
  replace hK := hK.go hb
  clear hb q0 q1 q2 q3 q4 q5 b1
  go_upto_region 4 with fail
  have hKA := hK.alloc (.cells #[.int .i64 x.1, .int .i64 x.2.1, .int .i64 y.1, .int .i64 y.2.1, .int .i64 z.1, .int .i64 z.2.1] 55)
  go_cut [4, 5] (fun s4 s5 wx => ∃ X Y : Nat, s4 = .pointer (some ⟨X, 0, none⟩) ∧ s5 = .pointer (some ⟨Y, 0, none⟩) ∧ Kept w wx ∧ Two wx X (.int .i64 x.1) (.int .i64 x.2.1) ∧ Two wx Y (.int .i64 y.1) (.int .i64 y.2.1))
  case first =>
    go_region
    all_goals go_wp2_with fail
    all_goals go_meet
    all_goals exact ⟨_, _, rfl, rfl, ((hKA.alloc _).alloc _).drew, by first | exact ((Two.fresh1 _ _ _ _ _).alloc _).drew | exact (Two.at2 _ _ _ _ _ _).drew, by first | exact ((Two.fresh1 _ _ _ _ _).alloc _).drew | exact (Two.at2 _ _ _ _ _ _).drew⟩
  case rest =>
    obtain ⟨X, Y, rfl, rfl, hKx, t4, t5⟩ := hcut
    clear hK hKA
    have t4a := t4.c0
    have t4b := t4.c1
    have t4l := t4.lt
    have t5a := t5.c0
    have t5b := t5.c1
    have t5l := t5.lt
    go_wp2_with fail
    refine (ret_at (add_any x.1 x.2.1 y.1 y.2.1 _ ix jx iy jy) ES).mono ?_
    rintro e w3 ⟨rfl, hb⟩
    clear t4a t4b t4l t5a t5b t5l
    replace hKx := hKx.go hb
    replace t4 := t4.go hb
    replace t5 := t5.go hb
    clear hb
    have t4a := t4.c0
    have t4b := t4.c1
    have t4l := t4.lt
    have t5a := t5.c0
    have t5b := t5.c1
    have t5l := t5.lt
    go_wp2_with fail
    refine (ret_at (sub_any s.1 s.2.1 y.1 y.2.1 _ bs.x bs.y iy jy) U1).mono ?_
    rintro e w4 ⟨rfl, hb⟩
    clear t4a t4b t4l t5a t5b t5l
    replace hKx := hKx.goA hb
    replace t4 := t4.goA hb
    replace t5 := t5.goA hb
    have t6 := Two.freshA hb
    clear hb
    have t4a := t4.c0
    have t4b := t4.c1
    have t4l := t4.lt
    have t5a := t5.c0
    have t5b := t5.c1
    have t5l := t5.lt
    have t6a := t6.c0
    have t6b := t6.c1
    have t6l := t6.lt
    go_wp2_with fail
    refine (ret_at (mul_any x.1 x.2.1 y.1 y.2.1 _ ix jx iy jy) EP).mono ?_
    rintro e w5 ⟨rfl, hb⟩
    clear t4a t4b t4l t5a t5b t5l t6a t6b t6l
    replace hKx := hKx.goA hb
    replace t4 := t4.goA hb
    replace t5 := t5.goA hb
    replace t6 := t6.goA hb
    have t8 := Two.freshA hb
    clear hb
    have t4a := t4.c0
    have t4b := t4.c1
    have t4l := t4.lt
    have t5a := t5.c0
    have t5b := t5.c1
    have t5l := t5.lt
    have t6a := t6.c0
    have t6b := t6.c1
    have t6l := t6.lt
    have t8a := t8.c0
    have t8b := t8.c1
    have t8l := t8.lt
    go_wp2_with fail
    go_ret
    exact ⟨rfl, (hKx.alloc _).below⟩
set_option maxRecDepth 100000 in
set_option maxHeartbeats 8000000 in
theorem walk_a_zero (n0 d0 n1 d1 n2 d2 : Int) (w : World) (hT : Tabs w) (hn0 : I16 n0) (hd0 : I16 d0) (hn1 : I16 n1) (hd1 : I16 d1) (hn2 : I16 n2) (hd2 : I16 d2) (hA : (addZ (makeZ n0 (denZ d0)).1 (makeZ n0 (denZ d0)).2.1 (makeZ n1 (denZ d1)).1 (makeZ n1 (denZ d1)).2.1).2.2 = 0) (hM : (mulZ (makeZ n0 (denZ d0)).1 (makeZ n0 (denZ d0)).2.1 (makeZ n1 (denZ d1)).1 (makeZ n1 (denZ d1)).2.1).2.2 = 0) (hY : (makeZ n1 (denZ d1)).1 = 0) :
    Calls Tryd.prog 9 #[.agg #[.int .i16 n0, .int .i16 d0, .int .i16 n1, .int .i16 d1, .int .i16 n2, .int .i16 d2]] w fun e w' => e = .returned (.bool true) ∧ Below w.heap.size w w' := by
  have hc := numbers_any n0 d0 n1 d1 n2 d2
  obtain ⟨x0, xv⟩ := small_ok hn0.lo (Int.le_trans hn0.hi (by omega)) hd0.lo (Int.le_trans hd0.hi (by omega))
  obtain ⟨y0, yv⟩ := small_ok hn1.lo (Int.le_trans hn1.hi (by omega)) hd1.lo (Int.le_trans hd1.hi (by omega))
  obtain ⟨z0, zv⟩ := small_ok hn2.lo (Int.le_trans hn2.hi (by omega)) hd2.lo (Int.le_trans hd2.hi (by omega))
  have bx := bd_make n0 (denZ d0)
  have by_ := bd_make n1 (denZ d1)
  have bz := bd_make n2 (denZ d2)
  generalize makeZ n0 (denZ d0) = x at *
  generalize makeZ n1 (denZ d1) = y at *
  generalize makeZ n2 (denZ d2) = z at *
  have HC : Hid (∀ w : World, Calls Tryd.prog 38 #[.agg #[.int .i16 n0, .int .i16 d0, .int .i16 n1, .int .i16 d1, .int .i16 n2, .int .i16 d2]] w fun e w' => e = .returned (.agg #[.int .i64 x.1, .int .i64 x.2.1, .int .i64 y.1, .int .i64 y.2.1, .int .i64 z.1, .int .i64 z.2.1]) ∧ Below w.heap.size w w') := Lib.hid fun w => hc w hn0 hd0 hn1 hd1 hn2 hd2
  clear hc hn0 hd0 hn1 hd1 hn2 hd2
  obtain ⟨s, es⟩ : ∃ s, addZ x.1 x.2.1 y.1 y.2.1 = s := ⟨_, rfl⟩
  obtain ⟨p, ep⟩ : ∃ p, mulZ x.1 x.2.1 y.1 y.2.1 = p := ⟨_, rfl⟩
  have bs := bd_of (bd_add x.1 x.2.1 y.1 y.2.1) es
  have bp := bd_of (bd_mul x.1 x.2.1 y.1 y.2.1) ep
  have U1 : Hid (subZ s.1 s.2.1 y.1 y.2.1 = (x.1, x.2.1, 0)) := Lib.hid (by rw [← es]; exact sub_undo xv yv hA)
  have hY' : (y.1 != 0) = false := by simp [hY]
  clear hY
  rw [es] at hA
  rw [ep] at hM
  have ES := Lib.hid es
  have EP := Lib.hid ep
  have hA' : (s.2.2 == 0) = true := by simp [hA]
  have hM' : (p.2.2 == 0) = true := by simp [hM]
  clear es ep hA hM x0 y0 z0 xv yv zv bz
  have ix := bx.x
  have jx := bx.y
  have iy := by_.x
  have jy := by_.y
  go_enter Tryd.func9, Tryd.ntmps9
  go_wp2_with fail
  have hK := (Kept.refl hT).alloc (.cells #[.int .i16 n0, .int .i16 d0, .int .i16 n1, .int .i16 d1, .int .i16 n2, .int .i16 d2] 54)
  have b1 := Blk.fresh w #[.int .i16 n0, .int .i16 d0, .int .i16 n1, .int .i16 d1, .int .i16 n2, .int .i16 d2] 54
  refine (awake_any _ hK.tabs).mono ?_
  rintro e w1 ⟨rfl, hb⟩
  replace hK := hK.go hb
  replace b1 := b1.go hb
  clear hb
  have q0 := b1.cellv 0 _ rfl
  have q1 := b1.cellv 1 _ rfl
  have q2 := b1.cellv 2 _ rfl
  have q3 := b1.cellv 3 _ rfl
  have q4 := b1.cellv 4 _ rfl
  have q5 := b1.cellv 5 _ rfl
  go_wp2_with fail
  refine (HC.out _).mono ?_
  rintro e w2 ⟨rfl, hb⟩
  replace hK := hK.go hb
  clear hb q0 q1 q2 q3 q4 q5 b1
  go_upto_region 4 with fail
  have hKA := hK.alloc (.cells #[.int .i64 x.1, .int .i64 x.2.1, .int .i64 y.1, .int .i64 y.2.1, .int .i64 z.1, .int .i64 z.2.1] 55)
  go_cut [4, 5] (fun s4 s5 wx => ∃ X Y : Nat, s4 = .pointer (some ⟨X, 0, none⟩) ∧ s5 = .pointer (some ⟨Y, 0, none⟩) ∧ Kept w wx ∧ Two wx X (.int .i64 x.1) (.int .i64 x.2.1) ∧ Two wx Y (.int .i64 y.1) (.int .i64 y.2.1))
  case first =>
    go_region
    all_goals go_wp2_with fail
    all_goals go_meet
    all_goals exact ⟨_, _, rfl, rfl, ((hKA.alloc _).alloc _).drew, by first | exact ((Two.fresh1 _ _ _ _ _).alloc _).drew | exact (Two.at2 _ _ _ _ _ _).drew, by first | exact ((Two.fresh1 _ _ _ _ _).alloc _).drew | exact (Two.at2 _ _ _ _ _ _).drew⟩
  case rest =>
    obtain ⟨X, Y, rfl, rfl, hKx, t4, t5⟩ := hcut
    clear hK hKA
    have t4a := t4.c0
    have t4b := t4.c1
    have t4l := t4.lt
    have t5a := t5.c0
    have t5b := t5.c1
    have t5l := t5.lt
    go_wp2_with fail
    refine (ret_at (add_any x.1 x.2.1 y.1 y.2.1 _ ix jx iy jy) ES).mono ?_
    rintro e w3 ⟨rfl, hb⟩
    clear t4a t4b t4l t5a t5b t5l
    replace hKx := hKx.go hb
    replace t4 := t4.go hb
    replace t5 := t5.go hb
    clear hb
    have t4a := t4.c0
    have t4b := t4.c1
    have t4l := t4.lt
    have t5a := t5.c0
    have t5b := t5.c1
    have t5l := t5.lt
    go_wp2_with fail
    refine (ret_at (sub_any s.1 s.2.1 y.1 y.2.1 _ bs.x bs.y iy jy) U1).mono ?_
    rintro e w4 ⟨rfl, hb⟩
    clear t4a t4b t4l t5a t5b t5l
    replace hKx := hKx.goA hb
    replace t4 := t4.goA hb
    replace t5 := t5.goA hb
    have t6 := Two.freshA hb
    clear hb
    have t4a := t4.c0
    have t4b := t4.c1
    have t4l := t4.lt
    have t5a := t5.c0
    have t5b := t5.c1
    have t5l := t5.lt
    have t6a := t6.c0
    have t6b := t6.c1
    have t6l := t6.lt
    go_wp2_with fail
    refine (ret_at (mul_any x.1 x.2.1 y.1 y.2.1 _ ix jx iy jy) EP).mono ?_
    rintro e w5 ⟨rfl, hb⟩
    clear t4a t4b t4l t5a t5b t5l t6a t6b t6l
    replace hKx := hKx.goA hb
    replace t4 := t4.goA hb
    replace t5 := t5.goA hb
    replace t6 := t6.goA hb
    have t8 := Two.freshA hb
    clear hb
    have t4a := t4.c0
    have t4b := t4.c1
    have t4l := t4.lt
    have t5a := t5.c0
    have t5b := t5.c1
    have t5l := t5.lt
    have t6a := t6.c0
    have t6b := t6.c1
    have t6l := t6.lt
    have t8a := t8.c0
    have t8b := t8.c1
    have t8l := t8.lt
    go_wp2_with fail
    go_ret
    exact ⟨rfl, (hKx.alloc _).below⟩
set_option maxRecDepth 100000 in
set_option maxHeartbeats 8000000 in
theorem walk_a_ok (n0 d0 n1 d1 n2 d2 : Int) (w : World) (hT : Tabs w) (hn0 : I16 n0) (hd0 : I16 d0) (hn1 : I16 n1) (hd1 : I16 d1) (hn2 : I16 n2) (hd2 : I16 d2) (hA : (addZ (makeZ n0 (denZ d0)).1 (makeZ n0 (denZ d0)).2.1 (makeZ n1 (denZ d1)).1 (makeZ n1 (denZ d1)).2.1).2.2 = 0) (hM : (mulZ (makeZ n0 (denZ d0)).1 (makeZ n0 (denZ d0)).2.1 (makeZ n1 (denZ d1)).1 (makeZ n1 (denZ d1)).2.1).2.2 = 0) (hY : (makeZ n1 (denZ d1)).1 ≠ 0) :
    Calls Tryd.prog 9 #[.agg #[.int .i16 n0, .int .i16 d0, .int .i16 n1, .int .i16 d1, .int .i16 n2, .int .i16 d2]] w fun e w' => e = .returned (.bool true) ∧ Below w.heap.size w w' := by
  have hc := numbers_any n0 d0 n1 d1 n2 d2
  obtain ⟨x0, xv⟩ := small_ok hn0.lo (Int.le_trans hn0.hi (by omega)) hd0.lo (Int.le_trans hd0.hi (by omega))
  obtain ⟨y0, yv⟩ := small_ok hn1.lo (Int.le_trans hn1.hi (by omega)) hd1.lo (Int.le_trans hd1.hi (by omega))
  obtain ⟨z0, zv⟩ := small_ok hn2.lo (Int.le_trans hn2.hi (by omega)) hd2.lo (Int.le_trans hd2.hi (by omega))
  have bx := bd_make n0 (denZ d0)
  have by_ := bd_make n1 (denZ d1)
  have bz := bd_make n2 (denZ d2)
  generalize makeZ n0 (denZ d0) = x at *
  generalize makeZ n1 (denZ d1) = y at *
  generalize makeZ n2 (denZ d2) = z at *
  have HC : Hid (∀ w : World, Calls Tryd.prog 38 #[.agg #[.int .i16 n0, .int .i16 d0, .int .i16 n1, .int .i16 d1, .int .i16 n2, .int .i16 d2]] w fun e w' => e = .returned (.agg #[.int .i64 x.1, .int .i64 x.2.1, .int .i64 y.1, .int .i64 y.2.1, .int .i64 z.1, .int .i64 z.2.1]) ∧ Below w.heap.size w w') := Lib.hid fun w => hc w hn0 hd0 hn1 hd1 hn2 hd2
  clear hc hn0 hd0 hn1 hd1 hn2 hd2
  obtain ⟨s, es⟩ : ∃ s, addZ x.1 x.2.1 y.1 y.2.1 = s := ⟨_, rfl⟩
  obtain ⟨p, ep⟩ : ∃ p, mulZ x.1 x.2.1 y.1 y.2.1 = p := ⟨_, rfl⟩
  have bs := bd_of (bd_add x.1 x.2.1 y.1 y.2.1) es
  have bp := bd_of (bd_mul x.1 x.2.1 y.1 y.2.1) ep
  have U1 : Hid (subZ s.1 s.2.1 y.1 y.2.1 = (x.1, x.2.1, 0)) := Lib.hid (by rw [← es]; exact sub_undo xv yv hA)
  have U2 : Hid (divZ p.1 p.2.1 y.1 y.2.1 = (x.1, x.2.1, 0)) := Lib.hid (by rw [← ep]; exact div_undo xv yv hY hM)
  have hY' : (y.1 != 0) = true := by simpa using hY
  clear hY
  rw [es] at hA
  rw [ep] at hM
  have ES := Lib.hid es
  have EP := Lib.hid ep
  have hA' : (s.2.2 == 0) = true := by simp [hA]
  have hM' : (p.2.2 == 0) = true := by simp [hM]
  clear es ep hA hM x0 y0 z0 xv yv zv bz
  have ix := bx.x
  have jx := bx.y
  have iy := by_.x
  have jy := by_.y
  go_enter Tryd.func9, Tryd.ntmps9
  go_wp2_with fail
  have hK := (Kept.refl hT).alloc (.cells #[.int .i16 n0, .int .i16 d0, .int .i16 n1, .int .i16 d1, .int .i16 n2, .int .i16 d2] 54)
  have b1 := Blk.fresh w #[.int .i16 n0, .int .i16 d0, .int .i16 n1, .int .i16 d1, .int .i16 n2, .int .i16 d2] 54
  refine (awake_any _ hK.tabs).mono ?_
  rintro e w1 ⟨rfl, hb⟩
  replace hK := hK.go hb
  replace b1 := b1.go hb
  clear hb
  have q0 := b1.cellv 0 _ rfl
  have q1 := b1.cellv 1 _ rfl
  have q2 := b1.cellv 2 _ rfl
  have q3 := b1.cellv 3 _ rfl
  have q4 := b1.cellv 4 _ rfl
  have q5 := b1.cellv 5 _ rfl
  go_wp2_with fail
  refine (HC.out _).mono ?_
  rintro e w2 ⟨rfl, hb⟩
  replace hK := hK.go hb
  clear hb q0 q1 q2 q3 q4 q5 b1
  go_upto_region 4 with fail
  have hKA := hK.alloc (.cells #[.int .i64 x.1, .int .i64 x.2.1, .int .i64 y.1, .int .i64 y.2.1, .int .i64 z.1, .int .i64 z.2.1] 55)
  go_cut [4, 5] (fun s4 s5 wx => ∃ X Y : Nat, s4 = .pointer (some ⟨X, 0, none⟩) ∧ s5 = .pointer (some ⟨Y, 0, none⟩) ∧ Kept w wx ∧ Two wx X (.int .i64 x.1) (.int .i64 x.2.1) ∧ Two wx Y (.int .i64 y.1) (.int .i64 y.2.1))
  case first =>
    go_region
    all_goals go_wp2_with fail
    all_goals go_meet
    all_goals exact ⟨_, _, rfl, rfl, ((hKA.alloc _).alloc _).drew, by first | exact ((Two.fresh1 _ _ _ _ _).alloc _).drew | exact (Two.at2 _ _ _ _ _ _).drew, by first | exact ((Two.fresh1 _ _ _ _ _).alloc _).drew | exact (Two.at2 _ _ _ _ _ _).drew⟩
  case rest =>
    obtain ⟨X, Y, rfl, rfl, hKx, t4, t5⟩ := hcut
    clear hK hKA
    have t4a := t4.c0
    have t4b := t4.c1
    have t4l := t4.lt
    have t5a := t5.c0
    have t5b := t5.c1
    have t5l := t5.lt
    go_wp2_with fail
    refine (ret_at (add_any x.1 x.2.1 y.1 y.2.1 _ ix jx iy jy) ES).mono ?_
    rintro e w3 ⟨rfl, hb⟩
    clear t4a t4b t4l t5a t5b t5l
    replace hKx := hKx.go hb
    replace t4 := t4.go hb
    replace t5 := t5.go hb
    clear hb
    have t4a := t4.c0
    have t4b := t4.c1
    have t4l := t4.lt
    have t5a := t5.c0
    have t5b := t5.c1
    have t5l := t5.lt
    go_wp2_with fail
    refine (ret_at (sub_any s.1 s.2.1 y.1 y.2.1 _ bs.x bs.y iy jy) U1).mono ?_
    rintro e w4 ⟨rfl, hb⟩
    clear t4a t4b t4l t5a t5b t5l
    replace hKx := hKx.goA hb
    replace t4 := t4.goA hb
    replace t5 := t5.goA hb
    have t6 := Two.freshA hb
    clear hb
    have t4a := t4.c0
    have t4b := t4.c1
    have t4l := t4.lt
    have t5a := t5.c0
    have t5b := t5.c1
    have t5l := t5.lt
    have t6a := t6.c0
    have t6b := t6.c1
    have t6l := t6.lt
    go_wp2_with fail
    refine (ret_at (mul_any x.1 x.2.1 y.1 y.2.1 _ ix jx iy jy) EP).mono ?_
    rintro e w5 ⟨rfl, hb⟩
    clear t4a t4b t4l t5a t5b t5l t6a t6b t6l
    replace hKx := hKx.goA hb
    replace t4 := t4.goA hb
    replace t5 := t5.goA hb
    replace t6 := t6.goA hb
    have t8 := Two.freshA hb
    clear hb
    have t4a := t4.c0
    have t4b := t4.c1
    have t4l := t4.lt
    have t5a := t5.c0
    have t5b := t5.c1
    have t5l := t5.lt
    have t6a := t6.c0
    have t6b := t6.c1
    have t6l := t6.lt
    have t8a := t8.c0
    have t8b := t8.c1
    have t8l := t8.lt
    go_wp2_with fail
    refine (ret_at (div_any p.1 p.2.1 y.1 y.2.1 _ bp.x bp.y iy jy) U2).mono ?_
    rintro e w6 ⟨rfl, hb⟩
    clear t4a t4b t4l t5a t5b t5l t6a t6b t6l t8a t8b t8l
    replace hKx := hKx.goA hb
    replace t4 := t4.goA hb
    replace t5 := t5.goA hb
    replace t6 := t6.goA hb
    replace t8 := t8.goA hb
    have t10 := Two.freshA hb
    clear hb
    have t4a := t4.c0
    have t4b := t4.c1
    have t4l := t4.lt
    have t5a := t5.c0
    have t5b := t5.c1
    have t5l := t5.lt
    have t6a := t6.c0
    have t6b := t6.c1
    have t6l := t6.lt
    have t8a := t8.c0
    have t8b := t8.c1
    have t8l := t8.lt
    have t10a := t10.c0
    have t10b := t10.c1
    have t10l := t10.lt
    go_wp2_with fail
    go_ret
    exact ⟨rfl, (hKx.alloc _).below⟩
set_option maxRecDepth 100000 in
set_option maxHeartbeats 8000000 in
theorem walk_n_err (n0 d0 n1 d1 n2 d2 : Int) (w : World) (hT : Tabs w) (hn0 : I16 n0) (hd0 : I16 d0) (hn1 : I16 n1) (hd1 : I16 d1) (hn2 : I16 n2) (hd2 : I16 d2) (hA : (addZ (makeZ n0 (denZ d0)).1 (makeZ n0 (denZ d0)).2.1 (makeZ n1 (denZ d1)).1 (makeZ n1 (denZ d1)).2.1).2.2 ≠ 0) (hM : (mulZ (makeZ n0 (denZ d0)).1 (makeZ n0 (denZ d0)).2.1 (makeZ n1 (denZ d1)).1 (makeZ n1 (denZ d1)).2.1).2.2 ≠ 0) :
    Calls Tryd.prog 9 #[.agg #[.int .i16 n0, .int .i16 d0, .int .i16 n1, .int .i16 d1, .int .i16 n2, .int .i16 d2]] w fun e w' => e = .returned (.bool true) ∧ Below w.heap.size w w' := by
  have hc := numbers_any n0 d0 n1 d1 n2 d2
  obtain ⟨x0, xv⟩ := small_ok hn0.lo (Int.le_trans hn0.hi (by omega)) hd0.lo (Int.le_trans hd0.hi (by omega))
  obtain ⟨y0, yv⟩ := small_ok hn1.lo (Int.le_trans hn1.hi (by omega)) hd1.lo (Int.le_trans hd1.hi (by omega))
  obtain ⟨z0, zv⟩ := small_ok hn2.lo (Int.le_trans hn2.hi (by omega)) hd2.lo (Int.le_trans hd2.hi (by omega))
  have bx := bd_make n0 (denZ d0)
  have by_ := bd_make n1 (denZ d1)
  have bz := bd_make n2 (denZ d2)
  generalize makeZ n0 (denZ d0) = x at *
  generalize makeZ n1 (denZ d1) = y at *
  generalize makeZ n2 (denZ d2) = z at *
  have HC : Hid (∀ w : World, Calls Tryd.prog 38 #[.agg #[.int .i16 n0, .int .i16 d0, .int .i16 n1, .int .i16 d1, .int .i16 n2, .int .i16 d2]] w fun e w' => e = .returned (.agg #[.int .i64 x.1, .int .i64 x.2.1, .int .i64 y.1, .int .i64 y.2.1, .int .i64 z.1, .int .i64 z.2.1]) ∧ Below w.heap.size w w') := Lib.hid fun w => hc w hn0 hd0 hn1 hd1 hn2 hd2
  clear hc hn0 hd0 hn1 hd1 hn2 hd2
  obtain ⟨s, es⟩ : ∃ s, addZ x.1 x.2.1 y.1 y.2.1 = s := ⟨_, rfl⟩
  obtain ⟨p, ep⟩ : ∃ p, mulZ x.1 x.2.1 y.1 y.2.1 = p := ⟨_, rfl⟩
  have bs := bd_of (bd_add x.1 x.2.1 y.1 y.2.1) es
  have bp := bd_of (bd_mul x.1 x.2.1 y.1 y.2.1) ep
  rw [es] at hA
  rw [ep] at hM
  have ES := Lib.hid es
  have EP := Lib.hid ep
  have hA' : (s.2.2 == 0) = false := by simp [hA]
  have hM' : (p.2.2 == 0) = false := by simp [hM]
  clear es ep hA hM x0 y0 z0 xv yv zv bz
  have ix := bx.x
  have jx := bx.y
  have iy := by_.x
  have jy := by_.y
  go_enter Tryd.func9, Tryd.ntmps9
  go_wp2_with fail
  have hK := (Kept.refl hT).alloc (.cells #[.int .i16 n0, .int .i16 d0, .int .i16 n1, .int .i16 d1, .int .i16 n2, .int .i16 d2] 54)
  have b1 := Blk.fresh w #[.int .i16 n0, .int .i16 d0, .int .i16 n1, .int .i16 d1, .int .i16 n2, .int .i16 d2] 54
  refine (awake_any _ hK.tabs).mono ?_
  rintro e w1 ⟨rfl, hb⟩
  replace hK := hK.go hb
  replace b1 := b1.go hb
  clear hb
  have q0 := b1.cellv 0 _ rfl
  have q1 := b1.cellv 1 _ rfl
  have q2 := b1.cellv 2 _ rfl
  have q3 := b1.cellv 3 _ rfl
  have q4 := b1.cellv 4 _ rfl
  have q5 := b1.cellv 5 _ rfl
  go_wp2_with fail
  refine (HC.out _).mono ?_
  rintro e w2 ⟨rfl, hb⟩
  replace hK := hK.go hb
  clear hb q0 q1 q2 q3 q4 q5 b1
  go_upto_region 4 with fail
  have hKA := hK.alloc (.cells #[.int .i64 x.1, .int .i64 x.2.1, .int .i64 y.1, .int .i64 y.2.1, .int .i64 z.1, .int .i64 z.2.1] 55)
  go_cut [4, 5] (fun s4 s5 wx => ∃ X Y : Nat, s4 = .pointer (some ⟨X, 0, none⟩) ∧ s5 = .pointer (some ⟨Y, 0, none⟩) ∧ Kept w wx ∧ Two wx X (.int .i64 x.1) (.int .i64 x.2.1) ∧ Two wx Y (.int .i64 y.1) (.int .i64 y.2.1))
  case first =>
    go_region
    all_goals go_wp2_with fail
    all_goals go_meet
    all_goals exact ⟨_, _, rfl, rfl, ((hKA.alloc _).alloc _).drew, by first | exact ((Two.fresh1 _ _ _ _ _).alloc _).drew | exact (Two.at2 _ _ _ _ _ _).drew, by first | exact ((Two.fresh1 _ _ _ _ _).alloc _).drew | exact (Two.at2 _ _ _ _ _ _).drew⟩
  case rest =>
    obtain ⟨X, Y, rfl, rfl, hKx, t4, t5⟩ := hcut
    clear hK hKA
    have t4a := t4.c0
    have t4b := t4.c1
    have t4l := t4.lt
    have t5a := t5.c0
    have t5b := t5.c1
    have t5l := t5.lt
    go_wp2_with fail
    refine (ret_at (add_any x.1 x.2.1 y.1 y.2.1 _ ix jx iy jy) ES).mono ?_
    rintro e w3 ⟨rfl, hb⟩
    clear t4a t4b t4l t5a t5b t5l
    replace hKx := hKx.go hb
    replace t4 := t4.go hb
    replace t5 := t5.go hb
    clear hb
    have t4a := t4.c0
    have t4b := t4.c1
    have t4l := t4.lt
    have t5a := t5.c0
    have t5b := t5.c1
    have t5l := t5.lt
    go_wp2_with fail
    refine (ret_at (mul_any x.1 x.2.1 y.1 y.2.1 _ ix jx iy jy) EP).mono ?_
    rintro e w4 ⟨rfl, hb⟩
    clear t4a t4b t4l t5a t5b t5l
    replace hKx := hKx.goA hb
    replace t4 := t4.goA hb
    replace t5 := t5.goA hb
    have t6 := Two.freshA hb
    clear hb
    have t4a := t4.c0
    have t4b := t4.c1
    have t4l := t4.lt
    have t5a := t5.c0
    have t5b := t5.c1
    have t5l := t5.lt
    have t6a := t6.c0
    have t6b := t6.c1
    have t6l := t6.lt
    go_wp2_with fail
    go_ret
    exact ⟨rfl, (hKx.alloc _).below⟩
set_option maxRecDepth 100000 in
set_option maxHeartbeats 8000000 in
theorem walk_n_zero (n0 d0 n1 d1 n2 d2 : Int) (w : World) (hT : Tabs w) (hn0 : I16 n0) (hd0 : I16 d0) (hn1 : I16 n1) (hd1 : I16 d1) (hn2 : I16 n2) (hd2 : I16 d2) (hA : (addZ (makeZ n0 (denZ d0)).1 (makeZ n0 (denZ d0)).2.1 (makeZ n1 (denZ d1)).1 (makeZ n1 (denZ d1)).2.1).2.2 ≠ 0) (hM : (mulZ (makeZ n0 (denZ d0)).1 (makeZ n0 (denZ d0)).2.1 (makeZ n1 (denZ d1)).1 (makeZ n1 (denZ d1)).2.1).2.2 = 0) (hY : (makeZ n1 (denZ d1)).1 = 0) :
    Calls Tryd.prog 9 #[.agg #[.int .i16 n0, .int .i16 d0, .int .i16 n1, .int .i16 d1, .int .i16 n2, .int .i16 d2]] w fun e w' => e = .returned (.bool true) ∧ Below w.heap.size w w' := by
  have hc := numbers_any n0 d0 n1 d1 n2 d2
  obtain ⟨x0, xv⟩ := small_ok hn0.lo (Int.le_trans hn0.hi (by omega)) hd0.lo (Int.le_trans hd0.hi (by omega))
  obtain ⟨y0, yv⟩ := small_ok hn1.lo (Int.le_trans hn1.hi (by omega)) hd1.lo (Int.le_trans hd1.hi (by omega))
  obtain ⟨z0, zv⟩ := small_ok hn2.lo (Int.le_trans hn2.hi (by omega)) hd2.lo (Int.le_trans hd2.hi (by omega))
  have bx := bd_make n0 (denZ d0)
  have by_ := bd_make n1 (denZ d1)
  have bz := bd_make n2 (denZ d2)
  generalize makeZ n0 (denZ d0) = x at *
  generalize makeZ n1 (denZ d1) = y at *
  generalize makeZ n2 (denZ d2) = z at *
  have HC : Hid (∀ w : World, Calls Tryd.prog 38 #[.agg #[.int .i16 n0, .int .i16 d0, .int .i16 n1, .int .i16 d1, .int .i16 n2, .int .i16 d2]] w fun e w' => e = .returned (.agg #[.int .i64 x.1, .int .i64 x.2.1, .int .i64 y.1, .int .i64 y.2.1, .int .i64 z.1, .int .i64 z.2.1]) ∧ Below w.heap.size w w') := Lib.hid fun w => hc w hn0 hd0 hn1 hd1 hn2 hd2
  clear hc hn0 hd0 hn1 hd1 hn2 hd2
  obtain ⟨s, es⟩ : ∃ s, addZ x.1 x.2.1 y.1 y.2.1 = s := ⟨_, rfl⟩
  obtain ⟨p, ep⟩ : ∃ p, mulZ x.1 x.2.1 y.1 y.2.1 = p := ⟨_, rfl⟩
  have bs := bd_of (bd_add x.1 x.2.1 y.1 y.2.1) es
  have bp := bd_of (bd_mul x.1 x.2.1 y.1 y.2.1) ep
  have hY' : (y.1 != 0) = false := by simp [hY]
  clear hY
  rw [es] at hA
  rw [ep] at hM
  have ES := Lib.hid es
  have EP := Lib.hid ep
  have hA' : (s.2.2 == 0) = false := by simp [hA]
  have hM' : (p.2.2 == 0) = true := by simp [hM]
  clear es ep hA hM x0 y0 z0 xv yv zv bz
  have ix := bx.x
  have jx := bx.y
  have iy := by_.x
  have jy := by_.y
  go_enter Tryd.func9, Tryd.ntmps9
  go_wp2_with fail
  have hK := (Kept.refl hT).alloc (.cells #[.int .i16 n0, .int .i16 d0, .int .i16 n1, .int .i16 d1, .int .i16 n2, .int .i16 d2] 54)
  have b1 := Blk.fresh w #[.int .i16 n0, .int .i16 d0, .int .i16 n1, .int .i16 d1, .int .i16 n2, .int .i16 d2] 54
  refine (awake_any _ hK.tabs).mono ?_
  rintro e w1 ⟨rfl, hb⟩
  replace hK := hK.go hb
  replace b1 := b1.go hb
  clear hb
  have q0 := b1.cellv 0 _ rfl
  have q1 := b1.cellv 1 _ rfl
  have q2 := b1.cellv 2 _ rfl
  have q3 := b1.cellv 3 _ rfl
  have q4 := b1.cellv 4 _ rfl
  have q5 := b1.cellv 5 _ rfl
  go_wp2_with fail
  refine (HC.out _).mono ?_
  rintro e w2 ⟨rfl, hb⟩
  replace hK := hK.go hb
  clear hb q0 q1 q2 q3 q4 q5 b1
  go_upto_region 4 with fail
  have hKA := hK.alloc (.cells #[.int .i64 x.1, .int .i64 x.2.1, .int .i64 y.1, .int .i64 y.2.1, .int .i64 z.1, .int .i64 z.2.1] 55)
  go_cut [4, 5] (fun s4 s5 wx => ∃ X Y : Nat, s4 = .pointer (some ⟨X, 0, none⟩) ∧ s5 = .pointer (some ⟨Y, 0, none⟩) ∧ Kept w wx ∧ Two wx X (.int .i64 x.1) (.int .i64 x.2.1) ∧ Two wx Y (.int .i64 y.1) (.int .i64 y.2.1))
  case first =>
    go_region
    all_goals go_wp2_with fail
    all_goals go_meet
    all_goals exact ⟨_, _, rfl, rfl, ((hKA.alloc _).alloc _).drew, by first | exact ((Two.fresh1 _ _ _ _ _).alloc _).drew | exact (Two.at2 _ _ _ _ _ _).drew, by first | exact ((Two.fresh1 _ _ _ _ _).alloc _).drew | exact (Two.at2 _ _ _ _ _ _).drew⟩
  case rest =>
    obtain ⟨X, Y, rfl, rfl, hKx, t4, t5⟩ := hcut
    clear hK hKA
    have t4a := t4.c0
    have t4b := t4.c1
    have t4l := t4.lt
    have t5a := t5.c0
    have t5b := t5.c1
    have t5l := t5.lt
    go_wp2_with fail
    refine (ret_at (add_any x.1 x.2.1 y.1 y.2.1 _ ix jx iy jy) ES).mono ?_
    rintro e w3 ⟨rfl, hb⟩
    clear t4a t4b t4l t5a t5b t5l
    replace hKx := hKx.go hb
    replace t4 := t4.go hb
    replace t5 := t5.go hb
    clear hb
    have t4a := t4.c0
    have t4b := t4.c1
    have t4l := t4.lt
    have t5a := t5.c0
    have t5b := t5.c1
    have t5l := t5.lt
    go_wp2_with fail
    refine (ret_at (mul_any x.1 x.2.1 y.1 y.2.1 _ ix jx iy jy) EP).mono ?_
    rintro e w4 ⟨rfl, hb⟩
    clear t4a t4b t4l t5a t5b t5l
    replace hKx := hKx.goA hb
    replace t4 := t4.goA hb
    replace t5 := t5.goA hb
    have t6 := Two.freshA hb
    clear hb
    have t4a := t4.c0
    have t4b := t4.c1
    have t4l := t4.lt
    have t5a := t5.c0
    have t5b := t5.c1
    have t5l := t5.lt
    have t6a := t6.c0
    have t6b := t6.c1
    have t6l := t6.lt
    go_wp2_with fail
    go_ret
    exact ⟨rfl, (hKx.alloc _).below⟩
set_option maxRecDepth 100000 in
set_option maxHeartbeats 8000000 in
theorem walk_n_ok (n0 d0 n1 d1 n2 d2 : Int) (w : World) (hT : Tabs w) (hn0 : I16 n0) (hd0 : I16 d0) (hn1 : I16 n1) (hd1 : I16 d1) (hn2 : I16 n2) (hd2 : I16 d2) (hA : (addZ (makeZ n0 (denZ d0)).1 (makeZ n0 (denZ d0)).2.1 (makeZ n1 (denZ d1)).1 (makeZ n1 (denZ d1)).2.1).2.2 ≠ 0) (hM : (mulZ (makeZ n0 (denZ d0)).1 (makeZ n0 (denZ d0)).2.1 (makeZ n1 (denZ d1)).1 (makeZ n1 (denZ d1)).2.1).2.2 = 0) (hY : (makeZ n1 (denZ d1)).1 ≠ 0) :
    Calls Tryd.prog 9 #[.agg #[.int .i16 n0, .int .i16 d0, .int .i16 n1, .int .i16 d1, .int .i16 n2, .int .i16 d2]] w fun e w' => e = .returned (.bool true) ∧ Below w.heap.size w w' := by
  have hc := numbers_any n0 d0 n1 d1 n2 d2
  obtain ⟨x0, xv⟩ := small_ok hn0.lo (Int.le_trans hn0.hi (by omega)) hd0.lo (Int.le_trans hd0.hi (by omega))
  obtain ⟨y0, yv⟩ := small_ok hn1.lo (Int.le_trans hn1.hi (by omega)) hd1.lo (Int.le_trans hd1.hi (by omega))
  obtain ⟨z0, zv⟩ := small_ok hn2.lo (Int.le_trans hn2.hi (by omega)) hd2.lo (Int.le_trans hd2.hi (by omega))
  have bx := bd_make n0 (denZ d0)
  have by_ := bd_make n1 (denZ d1)
  have bz := bd_make n2 (denZ d2)
  generalize makeZ n0 (denZ d0) = x at *
  generalize makeZ n1 (denZ d1) = y at *
  generalize makeZ n2 (denZ d2) = z at *
  have HC : Hid (∀ w : World, Calls Tryd.prog 38 #[.agg #[.int .i16 n0, .int .i16 d0, .int .i16 n1, .int .i16 d1, .int .i16 n2, .int .i16 d2]] w fun e w' => e = .returned (.agg #[.int .i64 x.1, .int .i64 x.2.1, .int .i64 y.1, .int .i64 y.2.1, .int .i64 z.1, .int .i64 z.2.1]) ∧ Below w.heap.size w w') := Lib.hid fun w => hc w hn0 hd0 hn1 hd1 hn2 hd2
  clear hc hn0 hd0 hn1 hd1 hn2 hd2
  obtain ⟨s, es⟩ : ∃ s, addZ x.1 x.2.1 y.1 y.2.1 = s := ⟨_, rfl⟩
  obtain ⟨p, ep⟩ : ∃ p, mulZ x.1 x.2.1 y.1 y.2.1 = p := ⟨_, rfl⟩
  have bs := bd_of (bd_add x.1 x.2.1 y.1 y.2.1) es
  have bp := bd_of (bd_mul x.1 x.2.1 y.1 y.2.1) ep
  have U2 : Hid (divZ p.1 p.2.1 y.1 y.2.1 = (x.1, x.2.1, 0)) := Lib.hid (by rw [← ep]; exact div_undo xv yv hY hM)
  have hY' : (y.1 != 0) = true := by simpa using hY
  clear hY
  rw [es] at hA
  rw [ep] at hM
  have ES := Lib.hid es
  have EP := Lib.hid ep
  have hA' : (s.2.2 == 0) = false := by simp [hA]
  have hM' : (p.2.2 == 0) = true := by simp [hM]
  clear es ep hA hM x0 y0 z0 xv yv zv bz
  have ix := bx.x
  have jx := bx.y
  have iy := by_.x
  have jy := by_.y
  go_enter Tryd.func9, Tryd.ntmps9
  go_wp2_with fail
  have hK := (Kept.refl hT).alloc (.cells #[.int .i16 n0, .int .i16 d0, .int .i16 n1, .int .i16 d1, .int .i16 n2, .int .i16 d2] 54)
  have b1 := Blk.fresh w #[.int .i16 n0, .int .i16 d0, .int .i16 n1, .int .i16 d1, .int .i16 n2, .int .i16 d2] 54
  refine (awake_any _ hK.tabs).mono ?_
  rintro e w1 ⟨rfl, hb⟩
  replace hK := hK.go hb
  replace b1 := b1.go hb
  clear hb
  have q0 := b1.cellv 0 _ rfl
  have q1 := b1.cellv 1 _ rfl
  have q2 := b1.cellv 2 _ rfl
  have q3 := b1.cellv 3 _ rfl
  have q4 := b1.cellv 4 _ rfl
  have q5 := b1.cellv 5 _ rfl
  go_wp2_with fail
  refine (HC.out _).mono ?_
  rintro e w2 ⟨rfl, hb⟩
  replace hK := hK.go hb
  clear hb q0 q1 q2 q3 q4 q5 b1
  go_upto_region 4 with fail
  have hKA := hK.alloc (.cells #[.int .i64 x.1, .int .i64 x.2.1, .int .i64 y.1, .int .i64 y.2.1, .int .i64 z.1, .int .i64 z.2.1] 55)
  go_cut [4, 5] (fun s4 s5 wx => ∃ X Y : Nat, s4 = .pointer (some ⟨X, 0, none⟩) ∧ s5 = .pointer (some ⟨Y, 0, none⟩) ∧ Kept w wx ∧ Two wx X (.int .i64 x.1) (.int .i64 x.2.1) ∧ Two wx Y (.int .i64 y.1) (.int .i64 y.2.1))
  case first =>
    go_region
    all_goals go_wp2_with fail
    all_goals go_meet
    all_goals exact ⟨_, _, rfl, rfl, ((hKA.alloc _).alloc _).drew, by first | exact ((Two.fresh1 _ _ _ _ _).alloc _).drew | exact (Two.at2 _ _ _ _ _ _).drew, by first | exact ((Two.fresh1 _ _ _ _ _).alloc _).drew | exact (Two.at2 _ _ _ _ _ _).drew⟩
  case rest =>
    obtain ⟨X, Y, rfl, rfl, hKx, t4, t5⟩ := hcut
    clear hK hKA
    have t4a := t4.c0
    have t4b := t4.c1
    have t4l := t4.lt
    have t5a := t5.c0
    have t5b := t5.c1
    have t5l := t5.lt
    go_wp2_with fail
    refine (ret_at (add_any x.1 x.2.1 y.1 y.2.1 _ ix jx iy jy) ES).mono ?_
    rintro e w3 ⟨rfl, hb⟩
    clear t4a t4b t4l t5a t5b t5l
    replace hKx := hKx.go hb
    replace t4 := t4.go hb
    replace t5 := t5.go hb
    clear hb
    have t4a := t4.c0
    have t4b := t4.c1
    have t4l := t4.lt
    have t5a := t5.c0
    have t5b := t5.c1
    have t5l := t5.lt
    go_wp2_with fail
    refine (ret_at (mul_any x.1 x.2.1 y.1 y.2.1 _ ix jx iy jy) EP).mono ?_
    rintro e w4 ⟨rfl, hb⟩
    clear t4a t4b t4l t5a t5b t5l
    replace hKx := hKx.goA hb
    replace t4 := t4.goA hb
    replace t5 := t5.goA hb
    have t6 := Two.freshA hb
    clear hb
    have t4a := t4.c0
    have t4b := t4.c1
    have t4l := t4.lt
    have t5a := t5.c0
    have t5b := t5.c1
    have t5l := t5.lt
    have t6a := t6.c0
    have t6b := t6.c1
    have t6l := t6.lt
    go_wp2_with fail
    refine (ret_at (div_any p.1 p.2.1 y.1 y.2.1 _ bp.x bp.y iy jy) U2).mono ?_
    rintro e w5 ⟨rfl, hb⟩
    clear t4a t4b t4l t5a t5b t5l t6a t6b t6l
    replace hKx := hKx.goA hb
    replace t4 := t4.goA hb
    replace t5 := t5.goA hb
    replace t6 := t6.goA hb
    have t10 := Two.freshA hb
    clear hb
    have t4a := t4.c0
    have t4b := t4.c1
    have t4l := t4.lt
    have t5a := t5.c0
    have t5b := t5.c1
    have t5l := t5.lt
    have t6a := t6.c0
    have t6b := t6.c1
    have t6l := t6.lt
    have t10a := t10.c0
    have t10b := t10.c1
    have t10l := t10.lt
    go_wp2_with fail
    go_ret
    exact ⟨rfl, (hKx.alloc _).below⟩
theorem walk (n0 d0 n1 d1 n2 d2 : Int) (w : World) (hT : Tabs w) (hn0 : I16 n0) (hd0 : I16 d0) (hn1 : I16 n1) (hd1 : I16 d1) (hn2 : I16 n2) (hd2 : I16 d2) :
    Calls Tryd.prog 9 #[.agg #[.int .i16 n0, .int .i16 d0, .int .i16 n1, .int .i16 d1, .int .i16 n2, .int .i16 d2]] w fun e w' => e = .returned (.bool true) ∧ Below w.heap.size w w' := by
  by_cases hA : (addZ (makeZ n0 (denZ d0)).1 (makeZ n0 (denZ d0)).2.1 (makeZ n1 (denZ d1)).1 (makeZ n1 (denZ d1)).2.1).2.2 = 0 <;> by_cases hM : (mulZ (makeZ n0 (denZ d0)).1 (makeZ n0 (denZ d0)).2.1 (makeZ n1 (denZ d1)).1 (makeZ n1 (denZ d1)).2.1).2.2 = 0 <;> by_cases hY : (makeZ n1 (denZ d1)).1 = 0
  all_goals first
    | exact walk_a_err n0 d0 n1 d1 n2 d2 w hT hn0 hd0 hn1 hd1 hn2 hd2 hA hM
    | exact walk_a_zero n0 d0 n1 d1 n2 d2 w hT hn0 hd0 hn1 hd1 hn2 hd2 hA hM hY
    | exact walk_a_ok n0 d0 n1 d1 n2 d2 w hT hn0 hd0 hn1 hd1 hn2 hd2 hA hM hY
    | exact walk_n_err n0 d0 n1 d1 n2 d2 w hT hn0 hd0 hn1 hd1 hn2 hd2 hA hM
    | exact walk_n_zero n0 d0 n1 d1 n2 d2 w hT hn0 hd0 hn1 hd1 hn2 hd2 hA hM hY
    | exact walk_n_ok n0 d0 n1 d1 n2 d2 w hT hn0 hd0 hn1 hd1 hn2 hd2 hA hM hY

theorem readable : ∀ t ∈ Tryd.f9.params.toList, Tryd.prog.readableRec t = true ∧ t < Tryd.prog.types.size := Frame.readable_of (by kernel_rfl)

set_option maxRecDepth 100000 in
theorem contract (H : Type) (enc : TypeId × Value → H) (W : World) (base : Nat) (args : Array Value) (ds gs : List (DataW H)) (before : List MemPlace)
    (hval : ∀ (j : Nat) t v, Tryd.f9.params[j]? = some t → args[j]? = some v → Value.okWide Tryd.prog W .any base t v)
    (hW : DataW.Whole enc Tryd.prog Tryd.f9.params.toList Rows.rationalUndoSpec.vars false W args.toList ds gs before) (hT : Len.Tabs W) :
    Calls Tryd.prog 9 args W fun e W' => ∃ v, e = .returned v ∧ Rows.rationalUndoSpec.post enc Tryd.prog Tryd.f9 false true false false W args v W' := by
  have hW' := hW
  obtain ⟨p, q, hA0, hV, rfl, hfz, hnd⟩ := hW
  have hA : DataW.TrodAll enc Tryd.prog W 0 (fun _ => true) true Tryd.f9.params.toList args.toList ds p := hA0
  rw [Tryd.params9] at hA hval
  obtain ⟨v0, vs0, d0, ds0, p0, q0, hargs, rfl, rfl, h0, r0⟩ := trodAll_cons hA
  obtain ⟨rfl, rfl, rfl⟩ := trodAll_nil r0
  obtain rfl : args = #[v0] := by cases args; simp_all
  obtain ⟨x0, y0, x1, y1, x2, y2, rfl, e0, e1, e2, e3, e4, e5⟩ := open_three Tryd.underlying54 Tryd.underlying52 Tryd.underlying51 (by kernel_rfl) (by kernel_rfl) (by kernel_rfl) (hval 0 54 v0 rfl rfl) h0
  refine (walk x0 y0 x1 y1 x2 y2 W hT ⟨(i16_of e0).1, (i16_of e0).2⟩ ⟨(i16_of e1).1, (i16_of e1).2⟩ ⟨(i16_of e2).1, (i16_of e2).2⟩ ⟨(i16_of e3).1, (i16_of e3).2⟩ ⟨(i16_of e4).1, (i16_of e4).2⟩ ⟨(i16_of e5).1, (i16_of e5).2⟩).mono fun e W' ⟨he, hb⟩ => ⟨_, he, Frame.post_law Frame.laidOut readable (by kernel_rfl) Tryd.underlying4 hW' rfl rfl hb⟩

theorem laid_met (os : Os) : laidMetH Tryd.prog Rows.rationalUndoRow.laid ((World.laidAll Tryd.prog os Rows.rationalUndoRow.laid).forCall (fun _ _ => 0) ⟨#[], #[.agg #[.int .i16 0, .int .i16 0, .int .i16 0, .int .i16 0, .int .i16 0, .int .i16 0]], []⟩).memory := by
  rw [MakeChecks.laidMetH_plain _ _ _ (by kernel_rfl)]; exact laidMet_laidAll _ (by kernel_rfl) (by kernel_rfl)
theorem reads (os : Os) {H : Type} (enc : TypeId × Value → H) : ∃ places, DataW.whole enc Tryd.prog ((World.laidAll Tryd.prog os Rows.rationalUndoRow.laid).forCall (fun _ _ => 0) ⟨#[], #[.agg #[.int .i16 0, .int .i16 0, .int .i16 0, .int .i16 0, .int .i16 0, .int .i16 0]], []⟩).memory Tryd.f9.params.toList Rows.rationalUndoSpec.vars false (#[.agg #[.int .i16 0, .int .i16 0, .int .i16 0, .int .i16 0, .int .i16 0, .int .i16 0]] : Array Value).toList 8 = some ([.agg [.agg [.lit (.int .i16 0), .lit (.int .i16 0)], .agg [.lit (.int .i16 0), .lit (.int .i16 0)], .agg [.lit (.int .i16 0), .lit (.int .i16 0)]]], [], places) :=
  ⟨[], by kernel_rfl⟩
set_option maxRecDepth 100000 in
theorem lifted (os : Os) (started : os.Started) (H : Type) (enc : TypeId × Value → H) (F : Stop.Interp) :
    ReturnsInHanded {} Tryd.checked os 9 .any ((OpenSpec.ofChange Rows.rationalUndoSpec).preRow enc Tryd.prog Tryd.f9 Rows.rationalUndoRow.domain false Rows.rationalUndoRow.laid) (((OpenSpec.ofChange Rows.rationalUndoSpec).at F).post enc Tryd.prog Tryd.f9 false true false false) := by
  obtain ⟨places, hx⟩ := reads os enc
  refine returnsInHanded_of_row (C := Tryd.checked) (s := OpenSpec.ofChange Rows.rationalUndoSpec) Frame.own started (by kernel_rfl) Tryd.func9
    (Frame.witness_row_shaped (enc := enc) (C := Tryd.checked) false (World.laidAll Tryd.prog os Rows.rationalUndoRow.laid) #[.agg #[.int .i16 0, .int .i16 0, .int .i16 0, .int .i16 0, .int .i16 0, .int .i16 0]] (World.laidAll_os _ _ _) (World.shaped_of_ZipB (by kernel_rfl) (by kernel_rfl)) (by kernel_rfl)
      (OpenSpec.preRow_of_cond 8 hx (by kernel_rfl) (fun k hk => by cases hk) (by kernel_rfl) (laid_met os))) ?_
  intro W base args ds gs before hval hW _ _ hsz hL hsh _
  rw [MakeChecks.laidMetH_plain _ _ _ (by kernel_rfl)] at hL
  exact contract H enc W base args ds gs before hval hW (Laid.tabs_of hL)

theorem said : Rows.RationalUndoSaid :=
  OpenClaim.holds_of_cond 9 Tryd.f9 rfl rfl rfl rfl rfl rfl rfl ⟨rfl, rfl, rfl, rfl, rfl⟩ rfl rfl rfl rfl rfl (by kernel_rfl) Tryd.func9 (by kernel_rfl)
    (of_decide_eq_true (by kernel_rfl)) (by unfold Func.isWrapper; first | (rw [if_pos (by decide +kernel)]; kernel_rfl) | (rw [if_neg (by decide +kernel)]; exact ⟨rfl, rfl⟩))
    (fun os started H enc _ F => by rw [OpenClaim.pre_eq_preRow]; exact lifted os started H enc F)

/-- No parameter wants a stand-in; the program's own looks are off. -/
theorem plain (f : FuncId) (fn : Func) (hf : Tryd.pinned.checked.prog.funcNamed "vinculum/vinculumlaw02.RationalUndo" = some f) (hfn : Tryd.pinned.checked.prog.funcs[f]? = some fn) :
    true = Tryd.pinned.checked.prog.looks [] ∧ ∀ (j : Nat) t, fn.params[j]? = some t → Tryd.pinned.checked.prog.wantsStandIn t = false := by
  obtain rfl : f = 9 := Option.some.inj ((show Tryd.prog.funcNamed "vinculum/vinculumlaw02.RationalUndo" = some 9 by kernel_rfl).symm.trans hf) |>.symm
  obtain rfl : fn = Tryd.f9 := (Option.some.inj (Tryd.func9.symm.trans hfn)).symm
  refine ⟨by kernel_rfl, fun j t ht => ?_⟩
  have hall : (Tryd.f9.params.toList.all fun u => !Tryd.prog.wantsStandIn u) = true := by kernel_rfl
  have hm : t ∈ Tryd.f9.params.toList := by simpa using Array.mem_of_getElem? ht
  exact (show Tryd.prog.wantsStandIn t = false by simpa using List.all_eq_true.1 hall t hm)

/-- ████ THE CARD ████ -/
theorem card : Rows.RationalUndoCardSaid :=
  Claim7.holds_tied_plain_at .later [] _ _ _ _ said (fun _ h => by cases h) (by kernel_rfl) (fun _ h => by cases h) rationalUndo_row_tie rfl ⟨rfl, rfl⟩ (by kernel_rfl) rfl plain (by kernel_rfl)
end Go.Proofs.YtimkgbjgdelkeaaDoor.rationalUndo
