/- RationalField: for every three fractions of small integers the law returns true and turns nothing that lay in memory. Condition: the package-level tables hold what the program's text lays (tied by the card). -/
import Derived.Test.YtimkgbjgdelkeaaDoorCards
import Derived.SevenTiedAt
import Derived.OpenShut
import Derived.Test.YtimkgbjgdelkeaaDoorTie
import Derived.Test.YtimkgbjgdelkeaaDoorLaid
import Derived.Test.YtimkgbjgdelkeaaDoorRatOpen
import Derived.Test.YtimkgbjgdelkeaaDoorRatBds
namespace Go.Proofs.YtimkgbjgdelkeaaDoor.rationalField
open Go Go.RowKit Go.WideShapes Go.ChangeShapes Len RatM

set_option maxRecDepth 100000 in
set_option maxHeartbeats 8000000 in
theorem walk (n0 d0 n1 d1 n2 d2 : Int) (w : World) (hT : Tabs w) (hn0 : I16 n0) (hd0 : I16 d0) (hn1 : I16 n1) (hd1 : I16 d1) (hn2 : I16 n2) (hd2 : I16 d2) :
    Calls Tryd.prog 8 #[.agg #[.int .i16 n0, .int .i16 d0, .int .i16 n1, .int .i16 d1, .int .i16 n2, .int .i16 d2]] w fun e w' => e = .returned (.bool true) ∧ Below w.heap.size w w' := by
  have hc := numbers_any n0 d0 n1 d1 n2 d2
  obtain ⟨x0, xv⟩ := small_ok hn0.lo (Int.le_trans hn0.hi (by omega)) hd0.lo (Int.le_trans hd0.hi (by omega))
  obtain ⟨y0, yv⟩ := small_ok hn1.lo (Int.le_trans hn1.hi (by omega)) hd1.lo (Int.le_trans hd1.hi (by omega))
  obtain ⟨z0, zv⟩ := small_ok hn2.lo (Int.le_trans hn2.hi (by omega)) hd2.lo (Int.le_trans hd2.hi (by omega))
  have bx := bd_make n0 (denZ d0)
  have by_ := bd_make n1 (denZ d1)
  have bz := bd_make n2 (denZ d2)
  generalize makeZ n0 (denZ d0) = x at *
  generalize makeZ n1 (denZ d1) = y at *
  generalize makeZ n2 (denZ d2) = z at *
  have HC : Hid (∀ w : World, Calls Tryd.prog 38 #[.agg #[.int .i16 n0, .int .i16 d0, .int .i16 n1, .int .i16 d1, .int .i16 n2, .int .i16 d2]] w fun e w' => e = .returned (.agg #[.int .i64 x.1, .int .i64 x.2.1, .int .i64 y.1, .int .i64 y.2.1, .int .i64 z.1, .int .i64 z.2.1]) ∧ Below w.heap.size w w') := Lib.hid fun w => hc w hn0 hd0 hn1 hd1 hn2 hd2
  clear hc hn0 hd0 hn1 hd1 hn2 hd2
  obtain ⟨xa, xb, xe⟩ := x
  obtain ⟨ya, yb, ye⟩ := y
  obtain ⟨za, zb, ze⟩ := z
  simp only at x0 y0 z0
  subst x0; subst y0; subst z0
  obtain ⟨p0, ep0⟩ : ∃ v, opZ 0 (xa, xb, 0) (ya, yb, 0) = v := ⟨_, rfl⟩
  have bp0 := bd_of (bd_op _ _ _) ep0
  obtain ⟨c0, ec0⟩ : ∃ v, opZ 0 (ya, yb, 0) (za, zb, 0) = v := ⟨_, rfl⟩
  have bc0 := bd_of (bd_op _ _ _) ec0
  obtain ⟨l0, el0⟩ : ∃ v, opZ 0 p0 (za, zb, 0) = v := ⟨_, rfl⟩
  have bl0 := bd_of (bd_op _ _ _) el0
  obtain ⟨r0, er0⟩ : ∃ v, opZ 0 (xa, xb, 0) c0 = v := ⟨_, rfl⟩
  have br0 := bd_of (bd_op _ _ _) er0
  have q0 : Hid (opZ 0 (ya, yb, 0) (xa, xb, 0) = p0) := Lib.hid ((op_comm (.inl rfl) rfl rfl yv xv).trans ep0)
  have ag0 : Hid (agreeB l0 r0 = true) := Lib.hid (by rw [← el0, ← er0, ← ep0, ← ec0]; exact op_assoc (.inl rfl) rfl rfl rfl xv yv zv)
  have Ep0 := Lib.hid ep0
  have Ec0 := Lib.hid ec0
  have El0 := Lib.hid el0
  have Er0 := Lib.hid er0
  clear ep0 ec0 el0 er0
  obtain ⟨p2, ep2⟩ : ∃ v, opZ 2 (xa, xb, 0) (ya, yb, 0) = v := ⟨_, rfl⟩
  have bp2 := bd_of (bd_op _ _ _) ep2
  obtain ⟨c2, ec2⟩ : ∃ v, opZ 2 (ya, yb, 0) (za, zb, 0) = v := ⟨_, rfl⟩
  have bc2 := bd_of (bd_op _ _ _) ec2
  obtain ⟨l2, el2⟩ : ∃ v, opZ 2 p2 (za, zb, 0) = v := ⟨_, rfl⟩
  have bl2 := bd_of (bd_op _ _ _) el2
  obtain ⟨r2, er2⟩ : ∃ v, opZ 2 (xa, xb, 0) c2 = v := ⟨_, rfl⟩
  have br2 := bd_of (bd_op _ _ _) er2
  have q2 : Hid (opZ 2 (ya, yb, 0) (xa, xb, 0) = p2) := Lib.hid ((op_comm (.inr rfl) rfl rfl yv xv).trans ep2)
  have ag2 : Hid (agreeB l2 r2 = true) := Lib.hid (by rw [← el2, ← er2, ← ep2, ← ec2]; exact op_assoc (.inr rfl) rfl rfl rfl xv yv zv)
  have Ep2 := Lib.hid ep2
  have Ec2 := Lib.hid ec2
  have El2 := Lib.hid el2
  have Er2 := Lib.hid er2
  clear ep2 ec2 el2 er2
  obtain ⟨s, es⟩ : ∃ v, addZ ya yb za zb = v := ⟨_, rfl⟩
  obtain ⟨a, ea⟩ : ∃ v, opZ 2 (xa, xb, 0) s = v := ⟨_, rfl⟩
  obtain ⟨u, eu⟩ : ∃ v, mulZ xa xb ya yb = v := ⟨_, rfl⟩
  obtain ⟨v, ev⟩ : ∃ v, mulZ xa xb za zb = v := ⟨_, rfl⟩
  obtain ⟨b, eb⟩ : ∃ w, opZ 0 u v = w := ⟨_, rfl⟩
  have bs := bd_of (bd_add _ _ _ _) es
  have bu := bd_of (bd_mul _ _ _ _) eu
  have bv := bd_of (bd_mul _ _ _ _) ev
  have ag : Hid (agreeB a b = true) := Lib.hid (by
    have h := distrib_ (x := (xa, xb, 0)) (y := (ya, yb, 0)) (z := (za, zb, 0)) rfl rfl rfl xv yv zv
    rw [op_add (r := (ya, yb, 0)) (s := (za, zb, 0)) rfl rfl, op_mul (r := (xa, xb, 0)) (s := (ya, yb, 0)) rfl rfl, op_mul (r := (xa, xb, 0)) (s := (za, zb, 0)) rfl rfl] at h
    simp only at h
    rw [es, eu, ev, ea, eb] at h
    exact h)
  have ES := Lib.hid es
  have EA := Lib.hid ea
  have EU := Lib.hid eu
  have EV := Lib.hid ev
  have EB := Lib.hid eb
  clear es ea eu ev eb xv yv zv
  obtain ⟨ix, jx⟩ := bx
  obtain ⟨iy, jy⟩ := by_
  obtain ⟨iz, jz⟩ := bz
  go_enter Tryd.func8, Tryd.ntmps8
  go_wp2_with fail
  have hK := (Kept.refl hT).alloc (.cells #[.int .i16 n0, .int .i16 d0, .int .i16 n1, .int .i16 d1, .int .i16 n2, .int .i16 d2] 54)
  have b1 := Blk.fresh w #[.int .i16 n0, .int .i16 d0, .int .i16 n1, .int .i16 d1, .int .i16 n2, .int .i16 d2] 54
  refine (awake_any _ hK.tabs).mono ?_
  rintro e w1 ⟨rfl, hb⟩
  replace hK := hK.go hb
  replace b1 := b1.go hb
  clear hb
  have q0 := b1.cellv 0 _ rfl
  have q1 := b1.cellv 1 _ rfl
  have q2 := b1.cellv 2 _ rfl
  have q3 := b1.cellv 3 _ rfl
  have q4 := b1.cellv 4 _ rfl
  have q5 := b1.cellv 5 _ rfl
  go_wp2_with fail
  refine (HC.out _).mono ?_
  rintro e w2 ⟨rfl, hb⟩
  replace hK := hK.go hb
  clear hb q0 q1 q2 q3 q4 q5 b1
  go_upto_region 4 with fail
  have hKA := hK.alloc (.cells #[.int .i64 xa, .int .i64 xb, .int .i64 ya, .int .i64 yb, .int .i64 za, .int .i64 zb] 55)
  go_cut [4, 5, 6] (fun s4 s5 s6 wx => ∃ X Y Z : Nat, s4 = .pointer (some ⟨X, 0, none⟩) ∧ s5 = .pointer (some ⟨Y, 0, none⟩) ∧ s6 = .pointer (some ⟨Z, 0, none⟩) ∧ Kept w wx ∧ Two wx X (.int .i64 xa) (.int .i64 xb) ∧ Two wx Y (.int .i64 ya) (.int .i64 yb) ∧ Two wx Z (.int .i64 za) (.int .i64 zb))
  case first =>
    go_region
    all_goals go_wp2_with fail
    all_goals go_meet
    all_goals exact ⟨_, _, _, rfl, rfl, rfl, (((hKA.alloc _).alloc _).alloc _).drew, by first | exact (((Two.fresh1 _ _ _ _ _).alloc _).alloc _).drew | exact ((Two.at2 _ _ _ _ _ _).alloc _).drew | exact (Two.at3 _ _ _ _ _ _ _).drew, by first | exact (((Two.fresh1 _ _ _ _ _).alloc _).alloc _).drew | exact ((Two.at2 _ _ _ _ _ _).alloc _).drew | exact (Two.at3 _ _ _ _ _ _ _).drew, by first | exact (((Two.fresh1 _ _ _ _ _).alloc _).alloc _).drew | exact ((Two.at2 _ _ _ _ _ _).alloc _).drew | exact (Two.at3 _ _ _ _ _ _ _).drew⟩
  case rest =>
    obtain ⟨X, Y, Z, rfl, rfl, rfl, hKx, t4, t5, t6⟩ := hcut
    clear hK hKA
    go_wp2_with fail
    go_loopw [7] (fun i wr => ∃ k : Int, i = .int .i64 k ∧ (k = 0 ∨ k = 2 ∨ k = 4) ∧ Kept w wr ∧ Two wr X (.int .i64 xa) (.int .i64 xb) ∧ Two wr Y (.int .i64 ya) (.int .i64 yb) ∧ Two wr Z (.int .i64 za) (.int .i64 zb)) (fun i _ => (4 - intOf i).toNat)
    case atStart => exact ⟨0, rfl, .inl rfl, hKx, t4, t5, t6⟩
    case round =>
      obtain ⟨k, rfl, hk, hKr, t4, t5, t6⟩ := hrel
      rcases hk with rfl | rfl | rfl
      · have t4a := t4.c0
        have t4b := t4.c1
        have t4l := t4.lt
        have t5a := t5.c0
        have t5b := t5.c1
        have t5l := t5.lt
        have t6a := t6.c0
        have t6b := t6.c1
        have t6l := t6.lt
        go_wp2_with fail
        refine (ret_at (op0_any (xa, xb, 0) (ya, yb, 0) _ ix jx iy jy) Ep0).mono ?_
        rintro e w3 ⟨rfl, hb⟩
        clear t4a t4b t4l t5a t5b t5l t6a t6b t6l
        replace hKr := hKr.go hb
        replace t4 := t4.go hb
        replace t5 := t5.go hb
        replace t6 := t6.go hb
        clear hb
        have t4a := t4.c0
        have t4b := t4.c1
        have t4l := t4.lt
        have t5a := t5.c0
        have t5b := t5.c1
        have t5l := t5.lt
        have t6a := t6.c0
        have t6b := t6.c1
        have t6l := t6.lt
        go_wp2_with fail
        refine (ret_at (op0_any (ya, yb, 0) (xa, xb, 0) _ iy jy ix jx) q0).mono ?_
        rintro e w4 ⟨rfl, hb⟩
        clear t4a t4b t4l t5a t5b t5l t6a t6b t6l
        replace hKr := hKr.goA hb
        replace t4 := t4.goA hb
        replace t5 := t5.goA hb
        replace t6 := t6.goA hb
        have t8 := Two.freshA hb
        clear hb
        have t4a := t4.c0
        have t4b := t4.c1
        have t4l := t4.lt
        have t5a := t5.c0
        have t5b := t5.c1
        have t5l := t5.lt
        have t6a := t6.c0
        have t6b := t6.c1
        have t6l := t6.lt
        have t8a := t8.c0
        have t8b := t8.c1
        have t8l := t8.lt
        go_wp2_with fail
        refine (ret_at (op0_any (ya, yb, 0) (za, zb, 0) _ iy jy iz jz) Ec0).mono ?_
        rintro e w5 ⟨rfl, hb⟩
        clear t4a t4b t4l t5a t5b t5l t6a t6b t6l t8a t8b t8l
        replace hKr := hKr.goA hb
        replace t4 := t4.goA hb
        replace t5 := t5.goA hb
        replace t6 := t6.goA hb
        replace t8 := t8.goA hb
        have t10 := Two.freshA hb
        clear hb
        have t4a := t4.c0
        have t4b := t4.c1
        have t4l := t4.lt
        have t5a := t5.c0
        have t5b := t5.c1
        have t5l := t5.lt
        have t6a := t6.c0
        have t6b := t6.c1
        have t6l := t6.lt
        have t8a := t8.c0
        have t8b := t8.c1
        have t8l := t8.lt
        have t10a := t10.c0
        have t10b := t10.c1
        have t10l := t10.lt
        go_wp2_with fail
        refine (ret_at (op0_any p0 (za, zb, 0) _ bp0.x bp0.y iz jz) El0).mono ?_
        rintro e w6 ⟨rfl, hb⟩
        clear t4a t4b t4l t5a t5b t5l t6a t6b t6l t8a t8b t8l t10a t10b t10l
        replace hKr := hKr.goA hb
        replace t4 := t4.goA hb
        replace t5 := t5.goA hb
        replace t6 := t6.goA hb
        replace t8 := t8.goA hb
        replace t10 := t10.goA hb
        have t12 := Two.freshA hb
        clear hb
        have t4a := t4.c0
        have t4b := t4.c1
        have t4l := t4.lt
        have t5a := t5.c0
        have t5b := t5.c1
        have t5l := t5.lt
        have t6a := t6.c0
        have t6b := t6.c1
        have t6l := t6.lt
        have t8a := t8.c0
        have t8b := t8.c1
        have t8l := t8.lt
        have t10a := t10.c0
        have t10b := t10.c1
        have t10l := t10.lt
        have t12a := t12.c0
        have t12b := t12.c1
        have t12l := t12.lt
        go_wp2_with fail
        refine (ret_at (op0_any (xa, xb, 0) c0 _ ix jx bc0.x bc0.y) Er0).mono ?_
        rintro e w7 ⟨rfl, hb⟩
        clear t4a t4b t4l t5a t5b t5l t6a t6b t6l t8a t8b t8l t10a t10b t10l t12a t12b t12l
        replace hKr := hKr.goA hb
        replace t4 := t4.goA hb
        replace t5 := t5.goA hb
        replace t6 := t6.goA hb
        replace t8 := t8.goA hb
        replace t10 := t10.goA hb
        replace t12 := t12.goA hb
        have t14 := Two.freshA hb
        clear hb
        have t4a := t4.c0
        have t4b := t4.c1
        have t4l := t4.lt
        have t5a := t5.c0
        have t5b := t5.c1
        have t5l := t5.lt
        have t6a := t6.c0
        have t6b := t6.c1
        have t6l := t6.lt
        have t8a := t8.c0
        have t8b := t8.c1
        have t8l := t8.lt
        have t10a := t10.c0
        have t10b := t10.c1
        have t10l := t10.lt
        have t12a := t12.c0
        have t12b := t12.c1
        have t12l := t12.lt
        have t14a := t14.c0
        have t14b := t14.c1
        have t14l := t14.lt
        go_wp2_with fail
        refine (agree_any l0 r0 _ ag0.out).mono ?_
        rintro e w8 ⟨rfl, hb⟩
        clear t4a t4b t4l t5a t5b t5l t6a t6b t6l t8a t8b t8l t10a t10b t10l t12a t12b t12l t14a t14b t14l
        replace hKr := hKr.goA hb
        replace t4 := t4.goA hb
        replace t5 := t5.goA hb
        replace t6 := t6.goA hb
        replace t8 := t8.goA hb
        replace t10 := t10.goA hb
        replace t12 := t12.goA hb
        replace t14 := t14.goA hb
        have t16 := Two.freshA hb
        clear hb
        have t4a := t4.c0
        have t4b := t4.c1
        have t4l := t4.lt
        have t5a := t5.c0
        have t5b := t5.c1
        have t5l := t5.lt
        have t6a := t6.c0
        have t6b := t6.c1
        have t6l := t6.lt
        have t8a := t8.c0
        have t8b := t8.c1
        have t8l := t8.lt
        have t10a := t10.c0
        have t10b := t10.c1
        have t10l := t10.lt
        have t12a := t12.c0
        have t12b := t12.c1
        have t12l := t12.lt
        have t14a := t14.c0
        have t14b := t14.c1
        have t14l := t14.lt
        have t16a := t16.c0
        have t16b := t16.c1
        have t16l := t16.lt
        clear t4a t4b t4l t5a t5b t5l t6a t6b t6l t8a t8b t8l t10a t10b t10l t12a t12b t12l t14a t14b t14l t16a t16b t16l
        go_wp2_with fail
        go_roundw
        case rel => exact ⟨2, rfl, .inr (.inl rfl), hKr, t4, t5, t6⟩
        case measure => simp [intOf]
      · have t4a := t4.c0
        have t4b := t4.c1
        have t4l := t4.lt
        have t5a := t5.c0
        have t5b := t5.c1
        have t5l := t5.lt
        have t6a := t6.c0
        have t6b := t6.c1
        have t6l := t6.lt
        go_wp2_with fail
        refine (ret_at (op2_any (xa, xb, 0) (ya, yb, 0) _ ix jx iy jy) Ep2).mono ?_
        rintro e w3 ⟨rfl, hb⟩
        clear t4a t4b t4l t5a t5b t5l t6a t6b t6l
        replace hKr := hKr.go hb
        replace t4 := t4.go hb
        replace t5 := t5.go hb
        replace t6 := t6.go hb
        clear hb
        have t4a := t4.c0
        have t4b := t4.c1
        have t4l := t4.lt
        have t5a := t5.c0
        have t5b := t5.c1
        have t5l := t5.lt
        have t6a := t6.c0
        have t6b := t6.c1
        have t6l := t6.lt
        go_wp2_with fail
        refine (ret_at (op2_any (ya, yb, 0) (xa, xb, 0) _ iy jy ix jx) q2).mono ?_
        rintro e w4 ⟨rfl, hb⟩
        clear t4a t4b t4l t5a t5b t5l t6a t6b t6l
        replace hKr := hKr.goA hb
        replace t4 := t4.goA hb
        replace t5 := t5.goA hb
        replace t6 := t6.goA hb
        have t8 := Two.freshA hb
        clear hb
        have t4a := t4.c0
        have t4b := t4.c1
        have t4l := t4.lt
        have t5a := t5.c0
        have t5b := t5.c1
        have t5l := t5.lt
        have t6a := t6.c0
        have t6b := t6.c1
        have t6l := t6.lt
        have t8a := t8.c0
        have t8b := t8.c1
        have t8l := t8.lt
        go_wp2_with fail
        refine (ret_at (op2_any (ya, yb, 0) (za, zb, 0) _ iy jy iz jz) Ec2).mono ?_
        rintro e w5 ⟨rfl, hb⟩
        clear t4a t4b t4l t5a t5b t5l t6a t6b t6l t8a t8b t8l
        replace hKr := hKr.goA hb
        replace t4 := t4.goA hb
        replace t5 := t5.goA hb
        replace t6 := t6.goA hb
        replace t8 := t8.goA hb
        have t10 := Two.freshA hb
        clear hb
        have t4a := t4.c0
        have t4b := t4.c1
        have t4l := t4.lt
        have t5a := t5.c0
        have t5b := t5.c1
        have t5l := t5.lt
        have t6a := t6.c0
        have t6b := t6.c1
        have t6l := t6.lt
        have t8a := t8.c0
        have t8b := t8.c1
        have t8l := t8.lt
        have t10a := t10.c0
        have t10b := t10.c1
        have t10l := t10.lt
        go_wp2_with fail
        refine (ret_at (op2_any p2 (za, zb, 0) _ bp2.x bp2.y iz jz) El2).mono ?_
        rintro e w6 ⟨rfl, hb⟩
        clear t4a t4b t4l t5a t5b t5l t6a t6b t6l t8a t8b t8l t10a t10b t10l
        replace hKr := hKr.goA hb
        replace t4 := t4.goA hb
        replace t5 := t5.goA hb
        replace t6 := t6.goA hb
        replace t8 := t8.goA hb
        replace t10 := t10.goA hb
        have t12 := Two.freshA hb
        clear hb
        have t4a := t4.c0
        have t4b := t4.c1
        have t4l := t4.lt
        have t5a := t5.c0
        have t5b := t5.c1
        have t5l := t5.lt
        have t6a := t6.c0
        have t6b := t6.c1
        have t6l := t6.lt
        have t8a := t8.c0
        have t8b := t8.c1
        have t8l := t8.lt
        have t10a := t10.c0
        have t10b := t10.c1
        have t10l := t10.lt
        have t12a := t12.c0
        have t12b := t12.c1
        have t12l := t12.lt
        go_wp2_with fail
        refine (ret_at (op2_any (xa, xb, 0) c2 _ ix jx bc2.x bc2.y) Er2).mono ?_
        rintro e w7 ⟨rfl, hb⟩
        clear t4a t4b t4l t5a t5b t5l t6a t6b t6l t8a t8b t8l t10a t10b t10l t12a t12b t12l
        replace hKr := hKr.goA hb
        replace t4 := t4.goA hb
        replace t5 := t5.goA hb
        replace t6 := t6.goA hb
        replace t8 := t8.goA hb
        replace t10 := t10.goA hb
        replace t12 := t12.goA hb
        have t14 := Two.freshA hb
        clear hb
        have t4a := t4.c0
        have t4b := t4.c1
        have t4l := t4.lt
        have t5a := t5.c0
        have t5b := t5.c1
        have t5l := t5.lt
        have t6a := t6.c0
        have t6b := t6.c1
        have t6l := t6.lt
        have t8a := t8.c0
        have t8b := t8.c1
        have t8l := t8.lt
        have t10a := t10.c0
        have t10b := t10.c1
        have t10l := t10.lt
        have t12a := t12.c0
        have t12b := t12.c1
        have t12l := t12.lt
        have t14a := t14.c0
        have t14b := t14.c1
        have t14l := t14.lt
        go_wp2_with fail
        refine (agree_any l2 r2 _ ag2.out).mono ?_
        rintro e w8 ⟨rfl, hb⟩
        clear t4a t4b t4l t5a t5b t5l t6a t6b t6l t8a t8b t8l t10a t10b t10l t12a t12b t12l t14a t14b t14l
        replace hKr := hKr.goA hb
        replace t4 := t4.goA hb
        replace t5 := t5.goA hb
        replace t6 := t6.goA hb
        replace t8 := t8.goA hb
        replace t10 := t10.goA hb
        replace t12 := t12.goA hb
        replace t14 := t14.goA hb
        have t16 := Two.freshA hb
        clear hb
        have t4a := t4.c0
        have t4b := t4.c1
        have t4l := t4.lt
        have t5a := t5.c0
        have t5b := t5.c1
        have t5l := t5.lt
        have t6a := t6.c0
        have t6b := t6.c1
        have t6l := t6.lt
        have t8a := t8.c0
        have t8b := t8.c1
        have t8l := t8.lt
        have t10a := t10.c0
        have t10b := t10.c1
        have t10l := t10.lt
        have t12a := t12.c0
        have t12b := t12.c1
        have t12l := t12.lt
        have t14a := t14.c0
        have t14b := t14.c1
        have t14l := t14.lt
        have t16a := t16.c0
        have t16b := t16.c1
        have t16l := t16.lt
        clear t4a t4b t4l t5a t5b t5l t6a t6b t6l t8a t8b t8l t10a t10b t10l t12a t12b t12l t14a t14b t14l t16a t16b t16l
        go_wp2_with fail
        go_roundw
        case rel => exact ⟨4, rfl, .inr (.inr rfl), hKr, t4, t5, t6⟩
        case measure => simp [intOf]
      · have t4a := t4.c0
        have t4b := t4.c1
        have t4l := t4.lt
        have t5a := t5.c0
        have t5b := t5.c1
        have t5l := t5.lt
        have t6a := t6.c0
        have t6b := t6.c1
        have t6l := t6.lt
        go_wp2_with fail
        refine (ret_at (add_any ya yb za zb _ iy jy iz jz) ES).mono ?_
        rintro e w3 ⟨rfl, hb⟩
        clear t4a t4b t4l t5a t5b t5l t6a t6b t6l
        replace hKr := hKr.go hb
        replace t4 := t4.go hb
        replace t5 := t5.go hb
        replace t6 := t6.go hb
        clear hb
        have t4a := t4.c0
        have t4b := t4.c1
        have t4l := t4.lt
        have t5a := t5.c0
        have t5b := t5.c1
        have t5l := t5.lt
        have t6a := t6.c0
        have t6b := t6.c1
        have t6l := t6.lt
        go_wp2_with fail
        refine (ret_at (op2_any (xa, xb, 0) s _ ix jx bs.x bs.y) EA).mono ?_
        rintro e w4 ⟨rfl, hb⟩
        clear t4a t4b t4l t5a t5b t5l t6a t6b t6l
        replace hKr := hKr.goA hb
        replace t4 := t4.goA hb
        replace t5 := t5.goA hb
        replace t6 := t6.goA hb
        have t18 := Two.freshA hb
        clear hb
        have t4a := t4.c0
        have t4b := t4.c1
        have t4l := t4.lt
        have t5a := t5.c0
        have t5b := t5.c1
        have t5l := t5.lt
        have t6a := t6.c0
        have t6b := t6.c1
        have t6l := t6.lt
        have t18a := t18.c0
        have t18b := t18.c1
        have t18l := t18.lt
        go_wp2_with fail
        refine (ret_at (mul_any xa xb ya yb _ ix jx iy jy) EU).mono ?_
        rintro e w5 ⟨rfl, hb⟩
        clear t4a t4b t4l t5a t5b t5l t6a t6b t6l t18a t18b t18l
        replace hKr := hKr.goA hb
        replace t4 := t4.goA hb
        replace t5 := t5.goA hb
        replace t6 := t6.goA hb
        replace t18 := t18.goA hb
        have t20 := Two.freshA hb
        clear hb
        have t4a := t4.c0
        have t4b := t4.c1
        have t4l := t4.lt
        have t5a := t5.c0
        have t5b := t5.c1
        have t5l := t5.lt
        have t6a := t6.c0
        have t6b := t6.c1
        have t6l := t6.lt
        have t18a := t18.c0
        have t18b := t18.c1
        have t18l := t18.lt
        have t20a := t20.c0
        have t20b := t20.c1
        have t20l := t20.lt
        go_wp2_with fail
        refine (ret_at (mul_any xa xb za zb _ ix jx iz jz) EV).mono ?_
        rintro e w6 ⟨rfl, hb⟩
        clear t4a t4b t4l t5a t5b t5l t6a t6b t6l t18a t18b t18l t20a t20b t20l
        replace hKr := hKr.goA hb
        replace t4 := t4.goA hb
        replace t5 := t5.goA hb
        replace t6 := t6.goA hb
        replace t18 := t18.goA hb
        replace t20 := t20.goA hb
        have t22 := Two.freshA hb
        clear hb
        have t4a := t4.c0
        have t4b := t4.c1
        have t4l := t4.lt
        have t5a := t5.c0
        have t5b := t5.c1
        have t5l := t5.lt
        have t6a := t6.c0
        have t6b := t6.c1
        have t6l := t6.lt
        have t18a := t18.c0
        have t18b := t18.c1
        have t18l := t18.lt
        have t20a := t20.c0
        have t20b := t20.c1
        have t20l := t20.lt
        have t22a := t22.c0
        have t22b := t22.c1
        have t22l := t22.lt
        go_wp2_with fail
        refine (ret_at (op0_any u v _ bu.x bu.y bv.x bv.y) EB).mono ?_
        rintro e w7 ⟨rfl, hb⟩
        clear t4a t4b t4l t5a t5b t5l t6a t6b t6l t18a t18b t18l t20a t20b t20l t22a t22b t22l
        replace hKr := hKr.goA hb
        replace t4 := t4.goA hb
        replace t5 := t5.goA hb
        replace t6 := t6.goA hb
        replace t18 := t18.goA hb
        replace t20 := t20.goA hb
        replace t22 := t22.goA hb
        have t24 := Two.freshA hb
        clear hb
        have t4a := t4.c0
        have t4b := t4.c1
        have t4l := t4.lt
        have t5a := t5.c0
        have t5b := t5.c1
        have t5l := t5.lt
        have t6a := t6.c0
        have t6b := t6.c1
        have t6l := t6.lt
        have t18a := t18.c0
        have t18b := t18.c1
        have t18l := t18.lt
        have t20a := t20.c0
        have t20b := t20.c1
        have t20l := t20.lt
        have t22a := t22.c0
        have t22b := t22.c1
        have t22l := t22.lt
        have t24a := t24.c0
        have t24b := t24.c1
        have t24l := t24.lt
        go_wp2_with fail
        refine (agree_any a b _ ag.out).mono ?_
        rintro e w8 ⟨rfl, hb⟩
        clear t4a t4b t4l t5a t5b t5l t6a t6b t6l t18a t18b t18l t20a t20b t20l t22a t22b t22l t24a t24b t24l
        replace hKr := hKr.goA hb
        replace t4 := t4.goA hb
        replace t5 := t5.goA hb
        replace t6 := t6.goA hb
        replace t18 := t18.goA hb
        replace t20 := t20.goA hb
        replace t22 := t22.goA hb
        replace t24 := t24.goA hb
        have t26 := Two.freshA hb
        clear hb
        have t4a := t4.c0
        have t4b := t4.c1
        have t4l := t4.lt
        have t5a := t5.c0
        have t5b := t5.c1
        have t5l := t5.lt
        have t6a := t6.c0
        have t6b := t6.c1
        have t6l := t6.lt
        have t18a := t18.c0
        have t18b := t18.c1
        have t18l := t18.lt
        have t20a := t20.c0
        have t20b := t20.c1
        have t20l := t20.lt
        have t22a := t22.c0
        have t22b := t22.c1
        have t22l := t22.lt
        have t24a := t24.c0
        have t24b := t24.c1
        have t24l := t24.lt
        have t26a := t26.c0
        have t26b := t26.c1
        have t26l := t26.lt
        go_wp2_with fail
        go_ret
        exact ⟨rfl, hKr.below⟩

theorem readable : ∀ t ∈ Tryd.f8.params.toList, Tryd.prog.readableRec t = true ∧ t < Tryd.prog.types.size := Frame.readable_of (by kernel_rfl)

set_option maxRecDepth 100000 in
theorem contract (H : Type) (enc : TypeId × Value → H) (W : World) (base : Nat) (args : Array Value) (ds gs : List (DataW H)) (before : List MemPlace)
    (hval : ∀ (j : Nat) t v, Tryd.f8.params[j]? = some t → args[j]? = some v → Value.okWide Tryd.prog W .any base t v)
    (hW : DataW.Whole enc Tryd.prog Tryd.f8.params.toList Rows.rationalFieldSpec.vars false W args.toList ds gs before) (hT : Len.Tabs W) :
    Calls Tryd.prog 8 args W fun e W' => ∃ v, e = .returned v ∧ Rows.rationalFieldSpec.post enc Tryd.prog Tryd.f8 false true false false W args v W' := by
  have hW' := hW
  obtain ⟨p, q, hA0, hV, rfl, hfz, hnd⟩ := hW
  have hA : DataW.TrodAll enc Tryd.prog W 0 (fun _ => true) true Tryd.f8.params.toList args.toList ds p := hA0
  rw [Tryd.params8] at hA hval
  obtain ⟨v0, vs0, d0, ds0, p0, q0, hargs, rfl, rfl, h0, r0⟩ := trodAll_cons hA
  obtain ⟨rfl, rfl, rfl⟩ := trodAll_nil r0
  obtain rfl : args = #[v0] := by cases args; simp_all
  obtain ⟨x0, y0, x1, y1, x2, y2, rfl, e0, e1, e2, e3, e4, e5⟩ := open_three Tryd.underlying54 Tryd.underlying52 Tryd.underlying51 (by kernel_rfl) (by kernel_rfl) (by kernel_rfl) (hval 0 54 v0 rfl rfl) h0
  refine (walk x0 y0 x1 y1 x2 y2 W hT ⟨(i16_of e0).1, (i16_of e0).2⟩ ⟨(i16_of e1).1, (i16_of e1).2⟩ ⟨(i16_of e2).1, (i16_of e2).2⟩ ⟨(i16_of e3).1, (i16_of e3).2⟩ ⟨(i16_of e4).1, (i16_of e4).2⟩ ⟨(i16_of e5).1, (i16_of e5).2⟩).mono fun e W' ⟨he, hb⟩ => ⟨_, he, Frame.post_law Frame.laidOut readable (by kernel_rfl) Tryd.underlying4 hW' rfl rfl hb⟩

theorem laid_met (os : Os) : laidMetH Tryd.prog Rows.rationalFieldRow.laid ((World.laidAll Tryd.prog os Rows.rationalFieldRow.laid).forCall (fun _ _ => 0) ⟨#[], #[.agg #[.int .i16 0, .int .i16 0, .int .i16 0, .int .i16 0, .int .i16 0, .int .i16 0]], []⟩).memory := by
  rw [MakeChecks.laidMetH_plain _ _ _ (by kernel_rfl)]; exact laidMet_laidAll _ (by kernel_rfl) (by kernel_rfl)
theorem reads (os : Os) {H : Type} (enc : TypeId × Value → H) : ∃ places, DataW.whole enc Tryd.prog ((World.laidAll Tryd.prog os Rows.rationalFieldRow.laid).forCall (fun _ _ => 0) ⟨#[], #[.agg #[.int .i16 0, .int .i16 0, .int .i16 0, .int .i16 0, .int .i16 0, .int .i16 0]], []⟩).memory Tryd.f8.params.toList Rows.rationalFieldSpec.vars false (#[.agg #[.int .i16 0, .int .i16 0, .int .i16 0, .int .i16 0, .int .i16 0, .int .i16 0]] : Array Value).toList 8 = some ([.agg [.agg [.lit (.int .i16 0), .lit (.int .i16 0)], .agg [.lit (.int .i16 0), .lit (.int .i16 0)], .agg [.lit (.int .i16 0), .lit (.int .i16 0)]]], [], places) :=
  ⟨[], by kernel_rfl⟩
set_option maxRecDepth 100000 in
theorem lifted (os : Os) (started : os.Started) (H : Type) (enc : TypeId × Value → H) (F : Stop.Interp) :
    ReturnsInHanded {} Tryd.checked os 8 .any ((OpenSpec.ofChange Rows.rationalFieldSpec).preRow enc Tryd.prog Tryd.f8 Rows.rationalFieldRow.domain false Rows.rationalFieldRow.laid) (((OpenSpec.ofChange Rows.rationalFieldSpec).at F).post enc Tryd.prog Tryd.f8 false true false false) := by
  obtain ⟨places, hx⟩ := reads os enc
  refine returnsInHanded_of_row (C := Tryd.checked) (s := OpenSpec.ofChange Rows.rationalFieldSpec) Frame.own started (by kernel_rfl) Tryd.func8
    (Frame.witness_row_shaped (enc := enc) (C := Tryd.checked) false (World.laidAll Tryd.prog os Rows.rationalFieldRow.laid) #[.agg #[.int .i16 0, .int .i16 0, .int .i16 0, .int .i16 0, .int .i16 0, .int .i16 0]] (World.laidAll_os _ _ _) (World.shaped_of_ZipB (by kernel_rfl) (by kernel_rfl)) (by kernel_rfl)
      (OpenSpec.preRow_of_cond 8 hx (by kernel_rfl) (fun k hk => by cases hk) (by kernel_rfl) (laid_met os))) ?_
  intro W base args ds gs before hval hW _ _ hsz hL hsh _
  rw [MakeChecks.laidMetH_plain _ _ _ (by kernel_rfl)] at hL
  exact contract H enc W base args ds gs before hval hW (Laid.tabs_of hL)

theorem said : Rows.RationalFieldSaid :=
  OpenClaim.holds_of_cond 8 Tryd.f8 rfl rfl rfl rfl rfl rfl rfl ⟨rfl, rfl, rfl, rfl, rfl⟩ rfl rfl rfl rfl rfl (by kernel_rfl) Tryd.func8 (by kernel_rfl)
    (of_decide_eq_true (by kernel_rfl)) (by unfold Func.isWrapper; first | (rw [if_pos (by decide +kernel)]; kernel_rfl) | (rw [if_neg (by decide +kernel)]; exact ⟨rfl, rfl⟩))
    (fun os started H enc _ F => by rw [OpenClaim.pre_eq_preRow]; exact lifted os started H enc F)

/-- No parameter wants a stand-in; the program's own looks are off. -/
theorem plain (f : FuncId) (fn : Func) (hf : Tryd.pinned.checked.prog.funcNamed "vinculum/vinculumlaw02.RationalField" = some f) (hfn : Tryd.pinned.checked.prog.funcs[f]? = some fn) :
    true = Tryd.pinned.checked.prog.looks [] ∧ ∀ (j : Nat) t, fn.params[j]? = some t → Tryd.pinned.checked.prog.wantsStandIn t = false := by
  obtain rfl : f = 8 := Option.some.inj ((show Tryd.prog.funcNamed "vinculum/vinculumlaw02.RationalField" = some 8 by kernel_rfl).symm.trans hf) |>.symm
  obtain rfl : fn = Tryd.f8 := (Option.some.inj (Tryd.func8.symm.trans hfn)).symm
  refine ⟨by kernel_rfl, fun j t ht => ?_⟩
  have hall : (Tryd.f8.params.toList.all fun u => !Tryd.prog.wantsStandIn u) = true := by kernel_rfl
  have hm : t ∈ Tryd.f8.params.toList := by simpa using Array.mem_of_getElem? ht
  exact (show Tryd.prog.wantsStandIn t = false by simpa using List.all_eq_true.1 hall t hm)

/-- ████ THE CARD ████ -/
theorem card : Rows.RationalFieldCardSaid :=
  Claim7.holds_tied_plain_at .later [] _ _ _ _ said (fun _ h => by cases h) (by kernel_rfl) (fun _ h => by cases h) rationalField_row_tie rfl ⟨rfl, rfl⟩ (by kernel_rfl) rfl plain (by kernel_rfl)
end Go.Proofs.YtimkgbjgdelkeaaDoor.rationalField
