/- RationalPowers: for every two small integers and every two exponents the law returns true and turns nothing that lay in memory. Condition: the package-level tables hold what the program's text lays (tied by the card). -/
import Derived.Test.YtimkgbjgdelkeaaDoorCards
import Derived.SevenTiedAt
import Derived.OpenShut
import Derived.Test.YtimkgbjgdelkeaaDoorTie
import Derived.Test.YtimkgbjgdelkeaaDoorLaid
import Derived.Test.YtimkgbjgdelkeaaDoorRatOpen
import Derived.Test.YtimkgbjgdelkeaaDoorRatBds
import Derived.Test.YtimkgbjgdelkeaaDoorRatPow
import Derived.Test.YtimkgbjgdelkeaaDoorRatRoot
namespace Go.Proofs.YtimkgbjgdelkeaaDoor.rationalPowers
open Go Go.RowKit Go.WideShapes Go.ChangeShapes Len RatM

theorem root_size {a b : Int} (h : validR a b = true) (ha : a.natAbs ≤ 32768) (hb : b ≤ 32768) : (mulZ a b a b).2.2 = 0 ∧ rootZ (mulZ a b a b).1 (mulZ a b a b).2.1 = ((a.natAbs : Int), b, 0) := root_of_square h (by omega) (by omega)
set_option maxRecDepth 100000 in
set_option maxHeartbeats 4000000 in
theorem walk_pp (q d m n : Int) (w : World) (hT : Tabs w) (hq1 : -128 ≤ q) (hq2 : q ≤ 127) (hd1 : -128 ≤ d) (hd2 : d ≤ 127) (hm1 : -128 ≤ m) (hm2 : m ≤ 127) (hn1 : -128 ≤ n) (hn2 : n ≤ 127) (hd : d ≠ 0) (hs : 0 ≤ (makeZ q (denZ d)).1) :
    Calls Tryd.prog 10 #[.agg #[.int .i8 q, .int .i8 d], .int .i8 m, .int .i8 n] w fun e w' => e = .returned (.bool true) ∧ Below w.heap.size w w' := by
  obtain ⟨r, h1⟩ : ∃ r, makeZ q (denZ d) = r := ⟨_, rfl⟩
  obtain ⟨r0, rv⟩ := small_ok (n := q) (d := d) (by omega) (by omega) (by omega) (by omega)
  obtain ⟨l1, l2⟩ := small_le (n := q) (d := d) (by omega) (by omega) (by omega) (by omega)
  rw [h1] at r0 rv l1 l2 hs
  have bx := bd_of (bd_make q (denZ d)) h1
  obtain ⟨s0, sr⟩ := root_size rv l1 l2
  have E1 : Hid (makeZ q d = r) := Lib.hid (by rw [← h1, denZ, if_neg hd])
  obtain ⟨a, ea⟩ : ∃ x, powZ r.1 r.2.1 m = x := ⟨_, rfl⟩
  obtain ⟨b, eb⟩ : ∃ x, powZ r.1 r.2.1 n = x := ⟨_, rfl⟩
  obtain ⟨c, ec⟩ : ∃ x, powZ r.1 r.2.1 (m + n) = x := ⟨_, rfl⟩
  obtain ⟨p, ep⟩ : ∃ x, opZ 2 a b = x := ⟨_, rfl⟩
  obtain ⟨u, eu⟩ : ∃ x, mulZ r.1 r.2.1 r.1 r.2.1 = x := ⟨_, rfl⟩
  have hag : agreeB p c = true := by rw [← ep, ← ea, ← eb, ← ec]; exact pow_sum rv
  have ba := bd_of (bd_pow r.1 r.2.1 m) ea
  have bb := bd_of (bd_pow r.1 r.2.1 n) eb
  have bu := bd_of (bd_mul r.1 r.2.1 r.1 r.2.1) eu
  rw [eu] at s0 sr
  have EA := Lib.hid ea
  have EB := Lib.hid eb
  have EC := Lib.hid ec
  have EP := Lib.hid ep
  have EU := Lib.hid eu
  have ES := Lib.hid sr
  have HAG := Lib.hid hag
  have hr0 : (r.2.2 != 0) = false := by simp [r0]
  have hu0 : (u.2.2 == 0) = true := by simp [s0]
  have hdz : (d == 0) = false := by simp [hd]
  have hx := bx.x
  have hy := bx.y
  have I1 : I64 m := ⟨by omega, by omega⟩
  have I2 : I64 n := ⟨by omega, by omega⟩
  have I3 : I64 (m + n) := ⟨by omega, by omega⟩
  clear h1 ea eb ec ep eu sr hag r0 s0 hd bx
  go_enter Tryd.func10, Tryd.ntmps10
  go_wp2_with fail
  have hK := (Kept.refl hT).alloc (.cells #[.int .i8 q, .int .i8 d] 61)
  have t3 := Two.fresh w (.int .i8 q) (.int .i8 d) 61
  refine (awake_any _ hK.tabs).mono ?_
  rintro e w1 ⟨rfl, hb1⟩
  replace hK := hK.go hb1
  replace t3 := t3.go hb1
  clear hb1
  have t3a := t3.c0
  have t3b := t3.c1
  have t3l := t3.lt
  go_wp2_with fail
  refine (makec_ret E1 _ (by omega) (by omega) (by omega) (by omega)).mono ?_
  rintro e w2 ⟨rfl, hb⟩
  clear t3a t3b t3l
  replace hK := hK.go hb
  replace t3 := t3.go hb
  clear hb
  have t3a := t3.c0
  have t3b := t3.c1
  have t3l := t3.lt
  go_wp2_with fail
  refine (ret_at (pow_any r.1 r.2.1 m _ hx hy I1) EA).mono ?_
  rintro e w3 ⟨rfl, hb⟩
  clear t3a t3b t3l
  replace hK := hK.goA hb
  have t8 := Two.freshA hb
  clear hb
  have t8a := t8.c0
  have t8b := t8.c1
  have t8l := t8.lt
  go_wp2_with fail
  refine (ret_at (pow_any r.1 r.2.1 n _ hx hy I2) EB).mono ?_
  rintro e w4 ⟨rfl, hb⟩
  clear t8a t8b t8l
  replace hK := hK.goA hb
  replace t8 := t8.goA hb
  have t10 := Two.freshA hb
  clear hb
  have t8a := t8.c0
  have t8b := t8.c1
  have t8l := t8.lt
  have t10a := t10.c0
  have t10b := t10.c1
  have t10l := t10.lt
  go_wp2_with fail
  refine (ret_at (pow_any r.1 r.2.1 (m + n) _ hx hy I3) EC).mono ?_
  rintro e w5 ⟨rfl, hb⟩
  clear t8a t8b t8l t10a t10b t10l
  replace hK := hK.goA hb
  replace t8 := t8.goA hb
  replace t10 := t10.goA hb
  have t12 := Two.freshA hb
  clear hb
  have t8a := t8.c0
  have t8b := t8.c1
  have t8l := t8.lt
  have t10a := t10.c0
  have t10b := t10.c1
  have t10l := t10.lt
  have t12a := t12.c0
  have t12b := t12.c1
  have t12l := t12.lt
  go_wp2_with fail
  refine (ret_at (op2_any a b _ ba.x ba.y bb.x bb.y) EP).mono ?_
  rintro e w6 ⟨rfl, hb⟩
  clear t8a t8b t8l t10a t10b t10l t12a t12b t12l
  replace hK := hK.goA hb
  replace t8 := t8.goA hb
  replace t10 := t10.goA hb
  replace t12 := t12.goA hb
  have t14 := Two.freshA hb
  clear hb
  have t8a := t8.c0
  have t8b := t8.c1
  have t8l := t8.lt
  have t10a := t10.c0
  have t10b := t10.c1
  have t10l := t10.lt
  have t12a := t12.c0
  have t12b := t12.c1
  have t12l := t12.lt
  have t14a := t14.c0
  have t14b := t14.c1
  have t14l := t14.lt
  go_wp2_with fail
  refine (agree_any p c _ HAG.out).mono ?_
  rintro e w7 ⟨rfl, hb⟩
  clear t8a t8b t8l t10a t10b t10l t12a t12b t12l t14a t14b t14l
  replace hK := hK.goA hb
  replace t8 := t8.goA hb
  replace t10 := t10.goA hb
  replace t12 := t12.goA hb
  replace t14 := t14.goA hb
  have t16 := Two.freshA hb
  clear hb
  have t8a := t8.c0
  have t8b := t8.c1
  have t8l := t8.lt
  have t10a := t10.c0
  have t10b := t10.c1
  have t10l := t10.lt
  have t12a := t12.c0
  have t12b := t12.c1
  have t12l := t12.lt
  have t14a := t14.c0
  have t14b := t14.c1
  have t14l := t14.lt
  have t16a := t16.c0
  have t16b := t16.c1
  have t16l := t16.lt
  go_wp2_with fail
  refine (ret_at (mul_any r.1 r.2.1 r.1 r.2.1 _ hx hy hx hy) EU).mono ?_
  rintro e w8 ⟨rfl, hb⟩
  clear t8a t8b t8l t10a t10b t10l t12a t12b t12l t14a t14b t14l t16a t16b t16l
  replace hK := hK.go hb
  replace t8 := t8.go hb
  clear hb
  have t8a := t8.c0
  have t8b := t8.c1
  have t8l := t8.lt
  go_wp2_with fail
  refine (ret_at (root_any u.1 u.2.1 _ bu.x bu.y) ES).mono ?_
  rintro e w9 ⟨rfl, hb⟩
  clear t8a t8b t8l
  replace hK := hK.goA hb
  replace t8 := t8.goA hb
  have t18 := Two.freshA hb
  clear hb
  have t8a := t8.c0
  have t8b := t8.c1
  have t8l := t8.lt
  have t18a := t18.c0
  have t18b := t18.c1
  have t18l := t18.lt
  have habs : (r.1.natAbs : Int) = r.1 := by omega
  go_wp2_with fail
  go_ret
  exact ⟨rfl, ((hK.alloc _).alloc _).below⟩
set_option maxRecDepth 100000 in
set_option maxHeartbeats 4000000 in
theorem walk_pn (q d m n : Int) (w : World) (hT : Tabs w) (hq1 : -128 ≤ q) (hq2 : q ≤ 127) (hd1 : -128 ≤ d) (hd2 : d ≤ 127) (hm1 : -128 ≤ m) (hm2 : m ≤ 127) (hn1 : -128 ≤ n) (hn2 : n ≤ 127) (hd : d ≠ 0) (hs : (makeZ q (denZ d)).1 < 0) :
    Calls Tryd.prog 10 #[.agg #[.int .i8 q, .int .i8 d], .int .i8 m, .int .i8 n] w fun e w' => e = .returned (.bool true) ∧ Below w.heap.size w w' := by
  obtain ⟨r, h1⟩ : ∃ r, makeZ q (denZ d) = r := ⟨_, rfl⟩
  obtain ⟨r0, rv⟩ := small_ok (n := q) (d := d) (by omega) (by omega) (by omega) (by omega)
  obtain ⟨l1, l2⟩ := small_le (n := q) (d := d) (by omega) (by omega) (by omega) (by omega)
  rw [h1] at r0 rv l1 l2 hs
  have bx := bd_of (bd_make q (denZ d)) h1
  obtain ⟨s0, sr⟩ := root_size rv l1 l2
  have E1 : Hid (makeZ q d = r) := Lib.hid (by rw [← h1, denZ, if_neg hd])
  obtain ⟨a, ea⟩ : ∃ x, powZ r.1 r.2.1 m = x := ⟨_, rfl⟩
  obtain ⟨b, eb⟩ : ∃ x, powZ r.1 r.2.1 n = x := ⟨_, rfl⟩
  obtain ⟨c, ec⟩ : ∃ x, powZ r.1 r.2.1 (m + n) = x := ⟨_, rfl⟩
  obtain ⟨p, ep⟩ : ∃ x, opZ 2 a b = x := ⟨_, rfl⟩
  obtain ⟨u, eu⟩ : ∃ x, mulZ r.1 r.2.1 r.1 r.2.1 = x := ⟨_, rfl⟩
  have hag : agreeB p c = true := by rw [← ep, ← ea, ← eb, ← ec]; exact pow_sum rv
  have ba := bd_of (bd_pow r.1 r.2.1 m) ea
  have bb := bd_of (bd_pow r.1 r.2.1 n) eb
  have bu := bd_of (bd_mul r.1 r.2.1 r.1 r.2.1) eu
  rw [eu] at s0 sr
  have EA := Lib.hid ea
  have EB := Lib.hid eb
  have EC := Lib.hid ec
  have EP := Lib.hid ep
  have EU := Lib.hid eu
  have ES := Lib.hid sr
  have HAG := Lib.hid hag
  have hr0 : (r.2.2 != 0) = false := by simp [r0]
  have hu0 : (u.2.2 == 0) = true := by simp [s0]
  have hdz : (d == 0) = false := by simp [hd]
  have hx := bx.x
  have hy := bx.y
  have I1 : I64 m := ⟨by omega, by omega⟩
  have I2 : I64 n := ⟨by omega, by omega⟩
  have I3 : I64 (m + n) := ⟨by omega, by omega⟩
  clear h1 ea eb ec ep eu sr hag r0 s0 hd bx
  go_enter Tryd.func10, Tryd.ntmps10
  go_wp2_with fail
  have hK := (Kept.refl hT).alloc (.cells #[.int .i8 q, .int .i8 d] 61)
  have t3 := Two.fresh w (.int .i8 q) (.int .i8 d) 61
  refine (awake_any _ hK.tabs).mono ?_
  rintro e w1 ⟨rfl, hb1⟩
  replace hK := hK.go hb1
  replace t3 := t3.go hb1
  clear hb1
  have t3a := t3.c0
  have t3b := t3.c1
  have t3l := t3.lt
  go_wp2_with fail
  refine (makec_ret E1 _ (by omega) (by omega) (by omega) (by omega)).mono ?_
  rintro e w2 ⟨rfl, hb⟩
  clear t3a t3b t3l
  replace hK := hK.go hb
  replace t3 := t3.go hb
  clear hb
  have t3a := t3.c0
  have t3b := t3.c1
  have t3l := t3.lt
  go_wp2_with fail
  refine (ret_at (pow_any r.1 r.2.1 m _ hx hy I1) EA).mono ?_
  rintro e w3 ⟨rfl, hb⟩
  clear t3a t3b t3l
  replace hK := hK.goA hb
  have t8 := Two.freshA hb
  clear hb
  have t8a := t8.c0
  have t8b := t8.c1
  have t8l := t8.lt
  go_wp2_with fail
  refine (ret_at (pow_any r.1 r.2.1 n _ hx hy I2) EB).mono ?_
  rintro e w4 ⟨rfl, hb⟩
  clear t8a t8b t8l
  replace hK := hK.goA hb
  replace t8 := t8.goA hb
  have t10 := Two.freshA hb
  clear hb
  have t8a := t8.c0
  have t8b := t8.c1
  have t8l := t8.lt
  have t10a := t10.c0
  have t10b := t10.c1
  have t10l := t10.lt
  go_wp2_with fail
  refine (ret_at (pow_any r.1 r.2.1 (m + n) _ hx hy I3) EC).mono ?_
  rintro e w5 ⟨rfl, hb⟩
  clear t8a t8b t8l t10a t10b t10l
  replace hK := hK.goA hb
  replace t8 := t8.goA hb
  replace t10 := t10.goA hb
  have t12 := Two.freshA hb
  clear hb
  have t8a := t8.c0
  have t8b := t8.c1
  have t8l := t8.lt
  have t10a := t10.c0
  have t10b := t10.c1
  have t10l := t10.lt
  have t12a := t12.c0
  have t12b := t12.c1
  have t12l := t12.lt
  go_wp2_with fail
  refine (ret_at (op2_any a b _ ba.x ba.y bb.x bb.y) EP).mono ?_
  rintro e w6 ⟨rfl, hb⟩
  clear t8a t8b t8l t10a t10b t10l t12a t12b t12l
  replace hK := hK.goA hb
  replace t8 := t8.goA hb
  replace t10 := t10.goA hb
  replace t12 := t12.goA hb
  have t14 := Two.freshA hb
  clear hb
  have t8a := t8.c0
  have t8b := t8.c1
  have t8l := t8.lt
  have t10a := t10.c0
  have t10b := t10.c1
  have t10l := t10.lt
  have t12a := t12.c0
  have t12b := t12.c1
  have t12l := t12.lt
  have t14a := t14.c0
  have t14b := t14.c1
  have t14l := t14.lt
  go_wp2_with fail
  refine (agree_any p c _ HAG.out).mono ?_
  rintro e w7 ⟨rfl, hb⟩
  clear t8a t8b t8l t10a t10b t10l t12a t12b t12l t14a t14b t14l
  replace hK := hK.goA hb
  replace t8 := t8.goA hb
  replace t10 := t10.goA hb
  replace t12 := t12.goA hb
  replace t14 := t14.goA hb
  have t16 := Two.freshA hb
  clear hb
  have t8a := t8.c0
  have t8b := t8.c1
  have t8l := t8.lt
  have t10a := t10.c0
  have t10b := t10.c1
  have t10l := t10.lt
  have t12a := t12.c0
  have t12b := t12.c1
  have t12l := t12.lt
  have t14a := t14.c0
  have t14b := t14.c1
  have t14l := t14.lt
  have t16a := t16.c0
  have t16b := t16.c1
  have t16l := t16.lt
  go_wp2_with fail
  refine (ret_at (mul_any r.1 r.2.1 r.1 r.2.1 _ hx hy hx hy) EU).mono ?_
  rintro e w8 ⟨rfl, hb⟩
  clear t8a t8b t8l t10a t10b t10l t12a t12b t12l t14a t14b t14l t16a t16b t16l
  replace hK := hK.go hb
  replace t8 := t8.go hb
  clear hb
  have t8a := t8.c0
  have t8b := t8.c1
  have t8l := t8.lt
  go_wp2_with fail
  refine (ret_at (root_any u.1 u.2.1 _ bu.x bu.y) ES).mono ?_
  rintro e w9 ⟨rfl, hb⟩
  clear t8a t8b t8l
  replace hK := hK.goA hb
  replace t8 := t8.goA hb
  have t18 := Two.freshA hb
  clear hb
  have t8a := t8.c0
  have t8b := t8.c1
  have t8l := t8.lt
  have t18a := t18.c0
  have t18b := t18.c1
  have t18l := t18.lt
  have fneg : Hid (negZ r.1 r.2.1 = (-r.1, r.2.1, 0)) := Lib.hid (by rw [negZ, if_pos rv])
  have habs : Hid ((r.1.natAbs : Int) = -r.1) := Lib.hid (by omega)
  have hslt : r.1 < 0 := hs
  go_wp2_with fail
  refine (ret_at (neg_any r.1 r.2.1 _ hx hy) fneg).mono ?_
  rintro e w10 ⟨rfl, hb⟩
  have b20 := ((Blk.fresh w9 #[.int .i64 (r.1.natAbs : Nat), .int .i64 r.2.1] 24).alloc _).go hb
  have b22 := (show Blk _ (w9.heap.size + 1) #[.int .i64 r.1, .int .i64 r.2.1] 24 by simpa using Blk.fresh (w9.alloc _) _ _).go hb
  clear t8a t8b t8l t18a t18b t18l
  have hK2 := ((hK.alloc _).alloc _).go hb
  have hsz := hK.below.size
  have hB := below_setAt hK2.below (w9.heap.size + 1) (by omega) (.int .i64 (-r.1)) (.int .i64 r.2.1)
  clear hb t8 t18
  have c0 := b20.cellv 0 (.int .i64 (r.1.natAbs : Nat)) rfl
  have c1 := b20.cellv 1 (.int .i64 r.2.1) rfl
  have d0 := b22.cellv 0 (.int .i64 r.1) rfl
  have d1 := b22.cellv 1 (.int .i64 r.2.1) rfl
  have g0 := b22.free 0
  have g1 := b22.free 1
  have habs' := habs.out
  go_wp2_with fail
  go_ret
  exact ⟨rfl, hB⟩
set_option maxRecDepth 100000 in
set_option maxHeartbeats 4000000 in
theorem walk_zp (q d m n : Int) (w : World) (hT : Tabs w) (hq1 : -128 ≤ q) (hq2 : q ≤ 127) (hd1 : -128 ≤ d) (hd2 : d ≤ 127) (hm1 : -128 ≤ m) (hm2 : m ≤ 127) (hn1 : -128 ≤ n) (hn2 : n ≤ 127) (hd : d = 0) (hs : 0 ≤ (makeZ q (denZ d)).1) :
    Calls Tryd.prog 10 #[.agg #[.int .i8 q, .int .i8 d], .int .i8 m, .int .i8 n] w fun e w' => e = .returned (.bool true) ∧ Below w.heap.size w w' := by
  obtain ⟨r, h1⟩ : ∃ r, makeZ q (denZ d) = r := ⟨_, rfl⟩
  obtain ⟨r0, rv⟩ := small_ok (n := q) (d := d) (by omega) (by omega) (by omega) (by omega)
  obtain ⟨l1, l2⟩ := small_le (n := q) (d := d) (by omega) (by omega) (by omega) (by omega)
  rw [h1] at r0 rv l1 l2 hs
  have bx := bd_of (bd_make q (denZ d)) h1
  obtain ⟨s0, sr⟩ := root_size rv l1 l2
  have E1 : Hid (makeZ q 1 = r) := Lib.hid (by rw [← h1, denZ, if_pos hd])
  obtain ⟨a, ea⟩ : ∃ x, powZ r.1 r.2.1 m = x := ⟨_, rfl⟩
  obtain ⟨b, eb⟩ : ∃ x, powZ r.1 r.2.1 n = x := ⟨_, rfl⟩
  obtain ⟨c, ec⟩ : ∃ x, powZ r.1 r.2.1 (m + n) = x := ⟨_, rfl⟩
  obtain ⟨p, ep⟩ : ∃ x, opZ 2 a b = x := ⟨_, rfl⟩
  obtain ⟨u, eu⟩ : ∃ x, mulZ r.1 r.2.1 r.1 r.2.1 = x := ⟨_, rfl⟩
  have hag : agreeB p c = true := by rw [← ep, ← ea, ← eb, ← ec]; exact pow_sum rv
  have ba := bd_of (bd_pow r.1 r.2.1 m) ea
  have bb := bd_of (bd_pow r.1 r.2.1 n) eb
  have bu := bd_of (bd_mul r.1 r.2.1 r.1 r.2.1) eu
  rw [eu] at s0 sr
  have EA := Lib.hid ea
  have EB := Lib.hid eb
  have EC := Lib.hid ec
  have EP := Lib.hid ep
  have EU := Lib.hid eu
  have ES := Lib.hid sr
  have HAG := Lib.hid hag
  have hr0 : (r.2.2 != 0) = false := by simp [r0]
  have hu0 : (u.2.2 == 0) = true := by simp [s0]
  have hdz : (d == 0) = true := by simp [hd]
  have hx := bx.x
  have hy := bx.y
  have I1 : I64 m := ⟨by omega, by omega⟩
  have I2 : I64 n := ⟨by omega, by omega⟩
  have I3 : I64 (m + n) := ⟨by omega, by omega⟩
  clear h1 ea eb ec ep eu sr hag r0 s0 hd bx
  go_enter Tryd.func10, Tryd.ntmps10
  go_wp2_with fail
  have hK := (Kept.refl hT).alloc (.cells #[.int .i8 q, .int .i8 d] 61)
  have t3 := Two.fresh w (.int .i8 q) (.int .i8 d) 61
  refine (awake_any _ hK.tabs).mono ?_
  rintro e w1 ⟨rfl, hb1⟩
  replace hK := hK.go hb1
  replace t3 := t3.go hb1
  clear hb1
  have t3a := t3.c0
  have t3b := t3.c1
  have t3l := t3.lt
  go_wp2_with fail
  refine (makec_ret E1 _ (by omega) (by omega) (by omega) (by omega)).mono ?_
  rintro e w2 ⟨rfl, hb⟩
  clear t3a t3b t3l
  replace hK := hK.go hb
  replace t3 := t3.go hb
  clear hb
  have t3a := t3.c0
  have t3b := t3.c1
  have t3l := t3.lt
  go_wp2_with fail
  refine (ret_at (pow_any r.1 r.2.1 m _ hx hy I1) EA).mono ?_
  rintro e w3 ⟨rfl, hb⟩
  clear t3a t3b t3l
  replace hK := hK.goA hb
  have t8 := Two.freshA hb
  clear hb
  have t8a := t8.c0
  have t8b := t8.c1
  have t8l := t8.lt
  go_wp2_with fail
  refine (ret_at (pow_any r.1 r.2.1 n _ hx hy I2) EB).mono ?_
  rintro e w4 ⟨rfl, hb⟩
  clear t8a t8b t8l
  replace hK := hK.goA hb
  replace t8 := t8.goA hb
  have t10 := Two.freshA hb
  clear hb
  have t8a := t8.c0
  have t8b := t8.c1
  have t8l := t8.lt
  have t10a := t10.c0
  have t10b := t10.c1
  have t10l := t10.lt
  go_wp2_with fail
  refine (ret_at (pow_any r.1 r.2.1 (m + n) _ hx hy I3) EC).mono ?_
  rintro e w5 ⟨rfl, hb⟩
  clear t8a t8b t8l t10a t10b t10l
  replace hK := hK.goA hb
  replace t8 := t8.goA hb
  replace t10 := t10.goA hb
  have t12 := Two.freshA hb
  clear hb
  have t8a := t8.c0
  have t8b := t8.c1
  have t8l := t8.lt
  have t10a := t10.c0
  have t10b := t10.c1
  have t10l := t10.lt
  have t12a := t12.c0
  have t12b := t12.c1
  have t12l := t12.lt
  go_wp2_with fail
  refine (ret_at (op2_any a b _ ba.x ba.y bb.x bb.y) EP).mono ?_
  rintro e w6 ⟨rfl, hb⟩
  clear t8a t8b t8l t10a t10b t10l t12a t12b t12l
  replace hK := hK.goA hb
  replace t8 := t8.goA hb
  replace t10 := t10.goA hb
  replace t12 := t12.goA hb
  have t14 := Two.freshA hb
  clear hb
  have t8a := t8.c0
  have t8b := t8.c1
  have t8l := t8.lt
  have t10a := t10.c0
  have t10b := t10.c1
  have t10l := t10.lt
  have t12a := t12.c0
  have t12b := t12.c1
  have t12l := t12.lt
  have t14a := t14.c0
  have t14b := t14.c1
  have t14l := t14.lt
  go_wp2_with fail
  refine (agree_any p c _ HAG.out).mono ?_
  rintro e w7 ⟨rfl, hb⟩
  clear t8a t8b t8l t10a t10b t10l t12a t12b t12l t14a t14b t14l
  replace hK := hK.goA hb
  replace t8 := t8.goA hb
  replace t10 := t10.goA hb
  replace t12 := t12.goA hb
  replace t14 := t14.goA hb
  have t16 := Two.freshA hb
  clear hb
  have t8a := t8.c0
  have t8b := t8.c1
  have t8l := t8.lt
  have t10a := t10.c0
  have t10b := t10.c1
  have t10l := t10.lt
  have t12a := t12.c0
  have t12b := t12.c1
  have t12l := t12.lt
  have t14a := t14.c0
  have t14b := t14.c1
  have t14l := t14.lt
  have t16a := t16.c0
  have t16b := t16.c1
  have t16l := t16.lt
  go_wp2_with fail
  refine (ret_at (mul_any r.1 r.2.1 r.1 r.2.1 _ hx hy hx hy) EU).mono ?_
  rintro e w8 ⟨rfl, hb⟩
  clear t8a t8b t8l t10a t10b t10l t12a t12b t12l t14a t14b t14l t16a t16b t16l
  replace hK := hK.go hb
  replace t8 := t8.go hb
  clear hb
  have t8a := t8.c0
  have t8b := t8.c1
  have t8l := t8.lt
  go_wp2_with fail
  refine (ret_at (root_any u.1 u.2.1 _ bu.x bu.y) ES).mono ?_
  rintro e w9 ⟨rfl, hb⟩
  clear t8a t8b t8l
  replace hK := hK.goA hb
  replace t8 := t8.goA hb
  have t18 := Two.freshA hb
  clear hb
  have t8a := t8.c0
  have t8b := t8.c1
  have t8l := t8.lt
  have t18a := t18.c0
  have t18b := t18.c1
  have t18l := t18.lt
  have habs : (r.1.natAbs : Int) = r.1 := by omega
  go_wp2_with fail
  go_ret
  exact ⟨rfl, ((hK.alloc _).alloc _).below⟩
set_option maxRecDepth 100000 in
set_option maxHeartbeats 4000000 in
theorem walk_zn (q d m n : Int) (w : World) (hT : Tabs w) (hq1 : -128 ≤ q) (hq2 : q ≤ 127) (hd1 : -128 ≤ d) (hd2 : d ≤ 127) (hm1 : -128 ≤ m) (hm2 : m ≤ 127) (hn1 : -128 ≤ n) (hn2 : n ≤ 127) (hd : d = 0) (hs : (makeZ q (denZ d)).1 < 0) :
    Calls Tryd.prog 10 #[.agg #[.int .i8 q, .int .i8 d], .int .i8 m, .int .i8 n] w fun e w' => e = .returned (.bool true) ∧ Below w.heap.size w w' := by
  obtain ⟨r, h1⟩ : ∃ r, makeZ q (denZ d) = r := ⟨_, rfl⟩
  obtain ⟨r0, rv⟩ := small_ok (n := q) (d := d) (by omega) (by omega) (by omega) (by omega)
  obtain ⟨l1, l2⟩ := small_le (n := q) (d := d) (by omega) (by omega) (by omega) (by omega)
  rw [h1] at r0 rv l1 l2 hs
  have bx := bd_of (bd_make q (denZ d)) h1
  obtain ⟨s0, sr⟩ := root_size rv l1 l2
  have E1 : Hid (makeZ q 1 = r) := Lib.hid (by rw [← h1, denZ, if_pos hd])
  obtain ⟨a, ea⟩ : ∃ x, powZ r.1 r.2.1 m = x := ⟨_, rfl⟩
  obtain ⟨b, eb⟩ : ∃ x, powZ r.1 r.2.1 n = x := ⟨_, rfl⟩
  obtain ⟨c, ec⟩ : ∃ x, powZ r.1 r.2.1 (m + n) = x := ⟨_, rfl⟩
  obtain ⟨p, ep⟩ : ∃ x, opZ 2 a b = x := ⟨_, rfl⟩
  obtain ⟨u, eu⟩ : ∃ x, mulZ r.1 r.2.1 r.1 r.2.1 = x := ⟨_, rfl⟩
  have hag : agreeB p c = true := by rw [← ep, ← ea, ← eb, ← ec]; exact pow_sum rv
  have ba := bd_of (bd_pow r.1 r.2.1 m) ea
  have bb := bd_of (bd_pow r.1 r.2.1 n) eb
  have bu := bd_of (bd_mul r.1 r.2.1 r.1 r.2.1) eu
  rw [eu] at s0 sr
  have EA := Lib.hid ea
  have EB := Lib.hid eb
  have EC := Lib.hid ec
  have EP := Lib.hid ep
  have EU := Lib.hid eu
  have ES := Lib.hid sr
  have HAG := Lib.hid hag
  have hr0 : (r.2.2 != 0) = false := by simp [r0]
  have hu0 : (u.2.2 == 0) = true := by simp [s0]
  have hdz : (d == 0) = true := by simp [hd]
  have hx := bx.x
  have hy := bx.y
  have I1 : I64 m := ⟨by omega, by omega⟩
  have I2 : I64 n := ⟨by omega, by omega⟩
  have I3 : I64 (m + n) := ⟨by omega, by omega⟩
  clear h1 ea eb ec ep eu sr hag r0 s0 hd bx
  go_enter Tryd.func10, Tryd.ntmps10
  go_wp2_with fail
  have hK := (Kept.refl hT).alloc (.cells #[.int .i8 q, .int .i8 d] 61)
  have t3 := Two.fresh w (.int .i8 q) (.int .i8 d) 61
  refine (awake_any _ hK.tabs).mono ?_
  rintro e w1 ⟨rfl, hb1⟩
  replace hK := hK.go hb1
  replace t3 := t3.go hb1
  clear hb1
  have t3a := t3.c0
  have t3b := t3.c1
  have t3l := t3.lt
  go_wp2_with fail
  refine (makec_ret E1 _ (by omega) (by omega) (by omega) (by omega)).mono ?_
  rintro e w2 ⟨rfl, hb⟩
  clear t3a t3b t3l
  replace hK := hK.go hb
  replace t3 := t3.go hb
  clear hb
  have t3a := t3.c0
  have t3b := t3.c1
  have t3l := t3.lt
  go_wp2_with fail
  refine (ret_at (pow_any r.1 r.2.1 m _ hx hy I1) EA).mono ?_
  rintro e w3 ⟨rfl, hb⟩
  clear t3a t3b t3l
  replace hK := hK.goA hb
  have t8 := Two.freshA hb
  clear hb
  have t8a := t8.c0
  have t8b := t8.c1
  have t8l := t8.lt
  go_wp2_with fail
  refine (ret_at (pow_any r.1 r.2.1 n _ hx hy I2) EB).mono ?_
  rintro e w4 ⟨rfl, hb⟩
  clear t8a t8b t8l
  replace hK := hK.goA hb
  replace t8 := t8.goA hb
  have t10 := Two.freshA hb
  clear hb
  have t8a := t8.c0
  have t8b := t8.c1
  have t8l := t8.lt
  have t10a := t10.c0
  have t10b := t10.c1
  have t10l := t10.lt
  go_wp2_with fail
  refine (ret_at (pow_any r.1 r.2.1 (m + n) _ hx hy I3) EC).mono ?_
  rintro e w5 ⟨rfl, hb⟩
  clear t8a t8b t8l t10a t10b t10l
  replace hK := hK.goA hb
  replace t8 := t8.goA hb
  replace t10 := t10.goA hb
  have t12 := Two.freshA hb
  clear hb
  have t8a := t8.c0
  have t8b := t8.c1
  have t8l := t8.lt
  have t10a := t10.c0
  have t10b := t10.c1
  have t10l := t10.lt
  have t12a := t12.c0
  have t12b := t12.c1
  have t12l := t12.lt
  go_wp2_with fail
  refine (ret_at (op2_any a b _ ba.x ba.y bb.x bb.y) EP).mono ?_
  rintro e w6 ⟨rfl, hb⟩
  clear t8a t8b t8l t10a t10b t10l t12a t12b t12l
  replace hK := hK.goA hb
  replace t8 := t8.goA hb
  replace t10 := t10.goA hb
  replace t12 := t12.goA hb
  have t14 := Two.freshA hb
  clear hb
  have t8a := t8.c0
  have t8b := t8.c1
  have t8l := t8.lt
  have t10a := t10.c0
  have t10b := t10.c1
  have t10l := t10.lt
  have t12a := t12.c0
  have t12b := t12.c1
  have t12l := t12.lt
  have t14a := t14.c0
  have t14b := t14.c1
  have t14l := t14.lt
  go_wp2_with fail
  refine (agree_any p c _ HAG.out).mono ?_
  rintro e w7 ⟨rfl, hb⟩
  clear t8a t8b t8l t10a t10b t10l t12a t12b t12l t14a t14b t14l
  replace hK := hK.goA hb
  replace t8 := t8.goA hb
  replace t10 := t10.goA hb
  replace t12 := t12.goA hb
  replace t14 := t14.goA hb
  have t16 := Two.freshA hb
  clear hb
  have t8a := t8.c0
  have t8b := t8.c1
  have t8l := t8.lt
  have t10a := t10.c0
  have t10b := t10.c1
  have t10l := t10.lt
  have t12a := t12.c0
  have t12b := t12.c1
  have t12l := t12.lt
  have t14a := t14.c0
  have t14b := t14.c1
  have t14l := t14.lt
  have t16a := t16.c0
  have t16b := t16.c1
  have t16l := t16.lt
  go_wp2_with fail
  refine (ret_at (mul_any r.1 r.2.1 r.1 r.2.1 _ hx hy hx hy) EU).mono ?_
  rintro e w8 ⟨rfl, hb⟩
  clear t8a t8b t8l t10a t10b t10l t12a t12b t12l t14a t14b t14l t16a t16b t16l
  replace hK := hK.go hb
  replace t8 := t8.go hb
  clear hb
  have t8a := t8.c0
  have t8b := t8.c1
  have t8l := t8.lt
  go_wp2_with fail
  refine (ret_at (root_any u.1 u.2.1 _ bu.x bu.y) ES).mono ?_
  rintro e w9 ⟨rfl, hb⟩
  clear t8a t8b t8l
  replace hK := hK.goA hb
  replace t8 := t8.goA hb
  have t18 := Two.freshA hb
  clear hb
  have t8a := t8.c0
  have t8b := t8.c1
  have t8l := t8.lt
  have t18a := t18.c0
  have t18b := t18.c1
  have t18l := t18.lt
  have fneg : Hid (negZ r.1 r.2.1 = (-r.1, r.2.1, 0)) := Lib.hid (by rw [negZ, if_pos rv])
  have habs : Hid ((r.1.natAbs : Int) = -r.1) := Lib.hid (by omega)
  have hslt : r.1 < 0 := hs
  go_wp2_with fail
  refine (ret_at (neg_any r.1 r.2.1 _ hx hy) fneg).mono ?_
  rintro e w10 ⟨rfl, hb⟩
  have b20 := ((Blk.fresh w9 #[.int .i64 (r.1.natAbs : Nat), .int .i64 r.2.1] 24).alloc _).go hb
  have b22 := (show Blk _ (w9.heap.size + 1) #[.int .i64 r.1, .int .i64 r.2.1] 24 by simpa using Blk.fresh (w9.alloc _) _ _).go hb
  clear t8a t8b t8l t18a t18b t18l
  have hK2 := ((hK.alloc _).alloc _).go hb
  have hsz := hK.below.size
  have hB := below_setAt hK2.below (w9.heap.size + 1) (by omega) (.int .i64 (-r.1)) (.int .i64 r.2.1)
  clear hb t8 t18
  have c0 := b20.cellv 0 (.int .i64 (r.1.natAbs : Nat)) rfl
  have c1 := b20.cellv 1 (.int .i64 r.2.1) rfl
  have d0 := b22.cellv 0 (.int .i64 r.1) rfl
  have d1 := b22.cellv 1 (.int .i64 r.2.1) rfl
  have g0 := b22.free 0
  have g1 := b22.free 1
  have habs' := habs.out
  go_wp2_with fail
  go_ret
  exact ⟨rfl, hB⟩
theorem walk (q d m n : Int) (w : World) (hT : Tabs w) (hq : I8 q) (hd : I8 d) (hm : I8 m) (hn : I8 n) :
    Calls Tryd.prog 10 #[.agg #[.int .i8 q, .int .i8 d], .int .i8 m, .int .i8 n] w fun e w' => e = .returned (.bool true) ∧ Below w.heap.size w w' := by
  by_cases h0 : d = 0
  · by_cases hs : (makeZ q (denZ d)).1 < 0
    · exact walk_zn q d m n w hT hq.lo hq.hi hd.lo hd.hi hm.lo hm.hi hn.lo hn.hi h0 hs
    · exact walk_zp q d m n w hT hq.lo hq.hi hd.lo hd.hi hm.lo hm.hi hn.lo hn.hi h0 (by omega)
  · by_cases hs : (makeZ q (denZ d)).1 < 0
    · exact walk_pn q d m n w hT hq.lo hq.hi hd.lo hd.hi hm.lo hm.hi hn.lo hn.hi h0 hs
    · exact walk_pp q d m n w hT hq.lo hq.hi hd.lo hd.hi hm.lo hm.hi hn.lo hn.hi h0 (by omega)

theorem readable : ∀ t ∈ Tryd.f10.params.toList, Tryd.prog.readableRec t = true ∧ t < Tryd.prog.types.size := Frame.readable_of (by kernel_rfl)

set_option maxRecDepth 100000 in
theorem contract (H : Type) (enc : TypeId × Value → H) (W : World) (base : Nat) (args : Array Value) (ds gs : List (DataW H)) (before : List MemPlace)
    (hval : ∀ (j : Nat) t v, Tryd.f10.params[j]? = some t → args[j]? = some v → Value.okWide Tryd.prog W .any base t v)
    (hW : DataW.Whole enc Tryd.prog Tryd.f10.params.toList Rows.rationalPowersSpec.vars false W args.toList ds gs before) (hT : Len.Tabs W) :
    Calls Tryd.prog 10 args W fun e W' => ∃ v, e = .returned v ∧ Rows.rationalPowersSpec.post enc Tryd.prog Tryd.f10 false true false false W args v W' := by
  have hW' := hW
  obtain ⟨p, q, hA0, hV, rfl, hfz, hnd⟩ := hW
  have hA : DataW.TrodAll enc Tryd.prog W 0 (fun _ => true) true Tryd.f10.params.toList args.toList ds p := hA0
  rw [Tryd.params10] at hA hval
  obtain ⟨v0, vs0, d0, ds0, p0, q0, hargs, rfl, rfl, h0, r0⟩ := trodAll_cons hA
  obtain ⟨v1, vs1, d1, ds1, p1, q1, rfl, rfl, rfl, h1, r1⟩ := trodAll_cons r0
  obtain ⟨v2, vs2, d2, ds2, p2, q2, rfl, rfl, rfl, h2, r2⟩ := trodAll_cons r1
  obtain ⟨rfl, rfl, rfl⟩ := trodAll_nil r2
  obtain rfl : args = #[v0, v1, v2] := by cases args; simp_all
  obtain ⟨x0, y0, rfl, u0, z0⟩ := Frame.open_pair Tryd.underlying61 Tryd.underlying60 (by kernel_rfl) (by kernel_rfl) (hval 0 61 v0 rfl rfl) h0
  obtain ⟨a1, rfl, rfl, rfl, w1⟩ := open_int Tryd.underlying60 (hval 1 60 v1 rfl rfl) h1
  obtain ⟨a2, rfl, rfl, rfl, w2⟩ := open_int Tryd.underlying60 (hval 2 60 v2 rfl rfl) h2
  refine (walk x0 y0 a1 a2 W hT (i8_of u0) (i8_of z0) (i8_of w1) (i8_of w2)).mono fun e W' ⟨he, hb⟩ => ⟨_, he, Frame.post_law Frame.laidOut readable (by kernel_rfl) Tryd.underlying4 hW' rfl rfl hb⟩

theorem laid_met (os : Os) : laidMetH Tryd.prog Rows.rationalPowersRow.laid ((World.laidAll Tryd.prog os Rows.rationalPowersRow.laid).forCall (fun _ _ => 0) ⟨#[], #[.agg #[.int .i8 0, .int .i8 0], .int .i8 0, .int .i8 0], []⟩).memory := by
  rw [MakeChecks.laidMetH_plain _ _ _ (by kernel_rfl)]; exact laidMet_laidAll _ (by kernel_rfl) (by kernel_rfl)
theorem reads (os : Os) {H : Type} (enc : TypeId × Value → H) : ∃ places, DataW.whole enc Tryd.prog ((World.laidAll Tryd.prog os Rows.rationalPowersRow.laid).forCall (fun _ _ => 0) ⟨#[], #[.agg #[.int .i8 0, .int .i8 0], .int .i8 0, .int .i8 0], []⟩).memory Tryd.f10.params.toList Rows.rationalPowersSpec.vars false (#[.agg #[.int .i8 0, .int .i8 0], .int .i8 0, .int .i8 0] : Array Value).toList 8 = some ([.agg [.lit (.int .i8 0), .lit (.int .i8 0)], .lit (.int .i8 0), .lit (.int .i8 0)], [], places) :=
  ⟨[], by kernel_rfl⟩
set_option maxRecDepth 100000 in
theorem lifted (os : Os) (started : os.Started) (H : Type) (enc : TypeId × Value → H) (F : Stop.Interp) :
    ReturnsInHanded {} Tryd.checked os 10 .any ((OpenSpec.ofChange Rows.rationalPowersSpec).preRow enc Tryd.prog Tryd.f10 Rows.rationalPowersRow.domain false Rows.rationalPowersRow.laid) (((OpenSpec.ofChange Rows.rationalPowersSpec).at F).post enc Tryd.prog Tryd.f10 false true false false) := by
  obtain ⟨places, hx⟩ := reads os enc
  refine returnsInHanded_of_row (C := Tryd.checked) (s := OpenSpec.ofChange Rows.rationalPowersSpec) Frame.own started (by kernel_rfl) Tryd.func10
    (Frame.witness_row_shaped (enc := enc) (C := Tryd.checked) false (World.laidAll Tryd.prog os Rows.rationalPowersRow.laid) #[.agg #[.int .i8 0, .int .i8 0], .int .i8 0, .int .i8 0] (World.laidAll_os _ _ _) (World.shaped_of_ZipB (by kernel_rfl) (by kernel_rfl)) (by kernel_rfl)
      (OpenSpec.preRow_of_cond 8 hx (by kernel_rfl) (fun k hk => by cases hk) (by kernel_rfl) (laid_met os))) ?_
  intro W base args ds gs before hval hW _ _ hsz hL hsh _
  rw [MakeChecks.laidMetH_plain _ _ _ (by kernel_rfl)] at hL
  exact contract H enc W base args ds gs before hval hW (Laid.tabs_of hL)

theorem said : Rows.RationalPowersSaid :=
  OpenClaim.holds_of_cond 10 Tryd.f10 rfl rfl rfl rfl rfl rfl rfl ⟨rfl, rfl, rfl, rfl, rfl⟩ rfl rfl rfl rfl rfl (by kernel_rfl) Tryd.func10 (by kernel_rfl)
    (of_decide_eq_true (by kernel_rfl)) (by unfold Func.isWrapper; first | (rw [if_pos (by decide +kernel)]; kernel_rfl) | (rw [if_neg (by decide +kernel)]; exact ⟨rfl, rfl⟩))
    (fun os started H enc _ F => by rw [OpenClaim.pre_eq_preRow]; exact lifted os started H enc F)

/-- No parameter wants a stand-in; the program's own looks are off. -/
theorem plain (f : FuncId) (fn : Func) (hf : Tryd.pinned.checked.prog.funcNamed "vinculum/vinculumlaw02.RationalPowers" = some f) (hfn : Tryd.pinned.checked.prog.funcs[f]? = some fn) :
    true = Tryd.pinned.checked.prog.looks [] ∧ ∀ (j : Nat) t, fn.params[j]? = some t → Tryd.pinned.checked.prog.wantsStandIn t = false := by
  obtain rfl : f = 10 := Option.some.inj ((show Tryd.prog.funcNamed "vinculum/vinculumlaw02.RationalPowers" = some 10 by kernel_rfl).symm.trans hf) |>.symm
  obtain rfl : fn = Tryd.f10 := (Option.some.inj (Tryd.func10.symm.trans hfn)).symm
  refine ⟨by kernel_rfl, fun j t ht => ?_⟩
  have hall : (Tryd.f10.params.toList.all fun u => !Tryd.prog.wantsStandIn u) = true := by kernel_rfl
  have hm : t ∈ Tryd.f10.params.toList := by simpa using Array.mem_of_getElem? ht
  exact (show Tryd.prog.wantsStandIn t = false by simpa using List.all_eq_true.1 hall t hm)

/-- ████ THE CARD ████ -/
theorem card : Rows.RationalPowersCardSaid :=
  Claim7.holds_tied_plain_at .later [] _ _ _ _ said (fun _ h => by cases h) (by kernel_rfl) (fun _ h => by cases h) rationalPowers_row_tie rfl ⟨rfl, rfl⟩ (by kernel_rfl) rfl plain (by kernel_rfl)
end Go.Proofs.YtimkgbjgdelkeaaDoor.rationalPowers
