/- The contract of Parse of package rational: what it reads from every string of up to 2000000000 bytes. -/
import Derived.Test.YtggiljlndenjoaaDoorRatFrac
namespace Go.Proofs.YtggiljlndenjoaaDoor.RatM
open Go Go.RowKit Len

theorem ret_eq {z r : Res} {w w' : World} (h : z = r) (hb : Below w.heap.size w w') : Ret z w (.returned (.tuple #[.agg #[.int .i64 r.1, .int .i64 r.2.1], .int .i64 r.2.2])) w' := by subst h; exact ⟨rfl, hb⟩
/-- What the first cut and the two tests give for this string. -/
structure Cut3 (s : ByteArray) (D R : List UInt8) (hr bD bR : Bool) : Prop where
  e : Lib.cut s.data.toList [46] = (D, R, hr)
  d : digB D = bD
  r : digB R = bR
  size : s.size ≤ 2000000000
section
variable {s : ByteArray} {D R : List UInt8} {hr bD bR : Bool}
theorem Cut3.lens (h : Cut3 s D R hr bD bR) : D.length ≤ s.size ∧ R.length ≤ s.size := by
  have h2 := cut_form s.data.toList
  have hl : s.data.toList.length = s.size := by simp
  rw [h.e] at h2
  rcases h2 with ⟨_, e⟩ | ⟨_, e, e'⟩
  · have := congrArg List.length e
    simp at this
    omega
  · simp only at e e'
    subst e'
    have := congrArg List.length e
    simp at this
    exact ⟨by omega, by simp⟩
theorem Cut3.none (h : Cut3 s D R false bD bR) : R = [] := by
  have h2 := cut_form s.data.toList
  rw [h.e] at h2
  rcases h2 with ⟨h, _⟩ | ⟨_, _, e'⟩
  · cases h
  · exact e'
theorem Cut3.cut (h : Cut3 s D R hr bD bR) (w : World) (hT : PTabs w) :
    Calls Tryd.prog 26 #[.string s, .string ⟨#[46]⟩] w fun e w' => e = .returned (.tuple #[.string ⟨D.toArray⟩, .string ⟨R.toArray⟩, .bool hr]) ∧ Below w.heap.size w w' := by
  have := cutat s w hT (by have := h.size; omega)
  rw [h.e] at this
  exact this
theorem Cut3.digD (h : Cut3 s D R hr bD bR) (w : World) : Calls Tryd.prog 27 #[.string ⟨D.toArray⟩] w fun e w' => e = .returned (.bool bD) ∧ Below w.heap.size w w' := by
  have := isdigits_any ⟨D.toArray⟩ w (by have := h.lens; have := h.size; show D.length ≤ _; omega)
  rw [show (⟨D.toArray⟩ : ByteArray).data.toList = D from rfl, h.d] at this
  exact this
theorem Cut3.digR (h : Cut3 s D R hr bD bR) (w : World) : Calls Tryd.prog 27 #[.string ⟨R.toArray⟩] w fun e w' => e = .returned (.bool bR) ∧ Below w.heap.size w w' := by
  have := isdigits_any ⟨R.toArray⟩ w (by have := h.lens; have := h.size; show R.length ≤ _; omega)
  rw [show (⟨R.toArray⟩ : ByteArray).data.toList = R from rfl, h.r] at this
  exact this
theorem Cut3.bad (h : Cut3 s D R hr bD bR) (hb : 40 < s.size ∨ bD = false ∨ (hr = true ∧ bR = false)) : parseZ s.data.toList = (0, 0, 3) := by
  unfold parseZ
  rw [h.e]
  simp only
  rw [h.d, h.r, if_pos (by simpa using hb)]
theorem Cut3.good (h : Cut3 s D R hr bD bR) (hb : ¬ (40 < s.size ∨ bD = false ∨ (hr = true ∧ bR = false))) : parseZ s.data.toList = valZ D R := by
  unfold parseZ
  rw [h.e]
  simp only
  rw [h.d, h.r, if_neg (by simpa using hb)]
theorem Cut3.frac (h : Cut3 s D R hr bD bR) (hs : s.size ≤ 40) (hd : R.all isD = true) {f : Res} (hf : Hid (fracZ R = f)) (w : World) :
    Calls Tryd.prog 28 #[.string ⟨R.toArray⟩] w (Ret f w) := by
  have := fraction_any ⟨R.toArray⟩ w (by have := h.lens; show R.length ≤ _; omega) hd
  rw [show (⟨R.toArray⟩ : ByteArray).data.toList = R from rfl, hf.out] at this
  exact this
end
set_option maxRecDepth 100000 in
set_option maxHeartbeats 1000000 in
theorem parse_long {s : ByteArray} {D R : List UInt8} {hr bD bR : Bool} (w : World) (hT : PTabs w) (h : Cut3 s D R hr bD bR) (h1 : 40 < s.size) :
    Calls Tryd.prog 8 #[.string s] w (Ret (parseZ s.data.toList) w) := by
  have fin := Lib.hid (h.bad (.inl h1))
  have HC := Lib.hid h
  have h2 : (40 : Int) < (s.size : Int) := by omega
  clear h
  go_enter Tryd.func8, Tryd.ntmps8
  go_wp2_with fail
  refine (HC.out.cut _ (hT.below ((Below.refl _ _).alloc (Nat.le_refl _) _))).mono ?_
  rintro e w1 ⟨rfl, hb⟩
  have tz := Blk.freshA hb
  have hB := ((Below.refl _ _).alloc (Nat.le_refl _) _).trans (hb.mono (by simp))
  clear hb
  have z0 := tz.cellv 0 (.int .i64 0) rfl
  have z1 := tz.cellv 1 (.int .i64 0) rfl
  have f0 := tz.free 0
  have f1 := tz.free 1
  go_wp2
  exact bodyPost_ret (v := .tuple #[.agg #[.int .i64 0, .int .i64 0], .int .i64 3]) (by simp [results, Tryd.results8, go_sem, z0, z1]) rfl (ret_of fin.out (below_setAt hB w.heap.size (Nat.le_refl _) _ _))
set_option maxRecDepth 100000 in
set_option maxHeartbeats 1000000 in
theorem parse_nod {s : ByteArray} {D R : List UInt8} {hr bR : Bool} (w : World) (hT : PTabs w) (h : Cut3 s D R hr false bR) (h1 : s.size ≤ 40) :
    Calls Tryd.prog 8 #[.string s] w (Ret (parseZ s.data.toList) w) := by
  have fin := Lib.hid (h.bad (.inr (.inl rfl)))
  have HC := Lib.hid h
  have h2 : (s.size : Int) ≤ 40 := by omega
  clear h
  go_enter Tryd.func8, Tryd.ntmps8
  go_wp2_with fail
  refine (HC.out.cut _ (hT.below ((Below.refl _ _).alloc (Nat.le_refl _) _))).mono ?_
  rintro e w1 ⟨rfl, hb⟩
  have tz := Blk.freshA hb
  have hB := ((Below.refl _ _).alloc (Nat.le_refl _) _).trans (hb.mono (by simp))
  clear hb
  go_wp2_with fail
  refine (HC.out.digD _).mono ?_
  rintro e w2 ⟨rfl, hb⟩
  replace tz := tz.go hb
  replace hB := hB.trans (hb.mono hB.size)
  clear hb
  have z0 := tz.cellv 0 (.int .i64 0) rfl
  have z1 := tz.cellv 1 (.int .i64 0) rfl
  have f0 := tz.free 0
  have f1 := tz.free 1
  go_wp2
  exact bodyPost_ret (v := .tuple #[.agg #[.int .i64 0, .int .i64 0], .int .i64 3]) (by simp [results, Tryd.results8, go_sem, z0, z1]) rfl (ret_of fin.out (below_setAt hB w.heap.size (Nat.le_refl _) _ _))
set_option maxRecDepth 100000 in
set_option maxHeartbeats 1000000 in
theorem parse_nor {s : ByteArray} {D R : List UInt8} (w : World) (hT : PTabs w) (h : Cut3 s D R true true false) (h1 : s.size ≤ 40) :
    Calls Tryd.prog 8 #[.string s] w (Ret (parseZ s.data.toList) w) := by
  have fin := Lib.hid (h.bad (.inr (.inr ⟨rfl, rfl⟩)))
  have HC := Lib.hid h
  have h2 : (s.size : Int) ≤ 40 := by omega
  clear h
  go_enter Tryd.func8, Tryd.ntmps8
  go_wp2_with fail
  refine (HC.out.cut _ (hT.below ((Below.refl _ _).alloc (Nat.le_refl _) _))).mono ?_
  rintro e w1 ⟨rfl, hb⟩
  have tz := Blk.freshA hb
  have hB := ((Below.refl _ _).alloc (Nat.le_refl _) _).trans (hb.mono (by simp))
  clear hb
  go_wp2_with fail
  refine (HC.out.digD _).mono ?_
  rintro e w2 ⟨rfl, hb⟩
  replace tz := tz.go hb
  replace hB := hB.trans (hb.mono hB.size)
  clear hb
  go_wp2_with fail
  refine (HC.out.digR _).mono ?_
  rintro e w3 ⟨rfl, hb⟩
  replace tz := tz.go hb
  replace hB := hB.trans (hb.mono hB.size)
  clear hb
  have z0 := tz.cellv 0 (.int .i64 0) rfl
  have z1 := tz.cellv 1 (.int .i64 0) rfl
  have f0 := tz.free 0
  have f1 := tz.free 1
  go_wp2
  exact bodyPost_ret (v := .tuple #[.agg #[.int .i64 0, .int .i64 0], .int .i64 3]) (by simp [results, Tryd.results8, go_sem, z0, z1]) rfl (ret_of fin.out (below_setAt hB w.heap.size (Nat.le_refl _) _ _))
set_option maxRecDepth 100000 in
set_option maxHeartbeats 1000000 in
theorem parse_t_err {s : ByteArray} {D R : List UInt8} (w : World) (hT : PTabs w) (h : Cut3 s D R true true true) (h1 : s.size ≤ 40) (hbad : fracZ R = (0, 0, 2)) :
    Calls Tryd.prog 8 #[.string s] w (Ret (parseZ s.data.toList) w) := by
  have hv := h.good (by rintro (h | h | h); omega; cases h; cases h.2)
  have hR : R.all isD = true := by exact digB_all h.r
  have HF := Lib.hid hbad
  have HRD := Lib.hid hR
  have HC := Lib.hid h
  have h2 : (s.size : Int) ≤ 40 := by omega
  have fin : Hid (parseZ s.data.toList = (0, 0, 2)) := Lib.hid (hv.trans (val_stop hR (by rw [hbad]; decide)))
  clear h hv hR hbad
  go_enter Tryd.func8, Tryd.ntmps8
  go_wp2_with fail
  refine (HC.out.cut _ (hT.below ((Below.refl _ _).alloc (Nat.le_refl _) _))).mono ?_
  rintro e w1 ⟨rfl, hb⟩
  have tz := Blk.freshA hb
  have hB := ((Below.refl _ _).alloc (Nat.le_refl _) _).trans (hb.mono (by simp))
  clear hb
  go_wp2_with fail
  refine (HC.out.digD _).mono ?_
  rintro e w2 ⟨rfl, hb⟩
  replace tz := tz.go hb
  replace hB := hB.trans (hb.mono hB.size)
  clear hb
  go_wp2_with fail
  refine (HC.out.digR _).mono ?_
  rintro e w3 ⟨rfl, hb⟩
  replace tz := tz.go hb
  replace hB := hB.trans (hb.mono hB.size)
  clear hb
  go_wp2_with fail
  refine (HC.out.frac h1 HRD.out HF _).mono ?_
  rintro e w4 ⟨rfl, hb⟩
  replace tz := tz.go hb
  replace hB := hB.trans (hb.mono hB.size)
  clear hb
  have z0 := tz.cellv 0 (.int .i64 0) rfl
  have z1 := tz.cellv 1 (.int .i64 0) rfl
  have f0 := tz.free 0
  have f1 := tz.free 1
  have tl := tz.lt
  go_wp2
  exact bodyPost_ret (v := .tuple #[.agg #[.int .i64 0, .int .i64 0], .int .i64 2]) (by simp [results, Tryd.results8, go_sem, z0, z1, tl]) rfl (ret_of fin.out ((below_setAt hB w.heap.size (Nat.le_refl _) (.int .i64 0) (.int .i64 0)).alloc (below_setAt hB w.heap.size (Nat.le_refl _) (.int .i64 0) (.int .i64 0)).size _))
set_option maxRecDepth 100000 in
set_option maxHeartbeats 1000000 in
theorem parse_t_wide {s : ByteArray} {D R : List UInt8} (w : World) (hT : PTabs w) (h : Cut3 s D R true true true) (h1 : s.size ≤ 40) (hok : (fracZ R).2.2 = 0) (hw : ¬ num D < 9223372036854775808) :
    Calls Tryd.prog 8 #[.string s] w (Ret (parseZ s.data.toList) w) := by
  have hv := h.good (by rintro (h | h | h); omega; cases h; cases h.2)
  have hR : R.all isD = true := by exact digB_all h.r
  obtain ⟨f, hf⟩ : ∃ f, fracZ R = f := ⟨_, rfl⟩
  rw [hf] at hok
  have hx : (f.2.2 != 0) = false := by simp [hok]
  have HF := Lib.hid hf
  have HRD := Lib.hid hR
  have HC := Lib.hid h
  have h2 : (s.size : Int) ≤ 40 := by omega
  have hDd : D.all isD = true := digB_all h.d
  have hDn : D ≠ [] := digB_ne h.d
  have hDl : D.length ≤ 40 := Nat.le_trans h.lens.1 h1
  have fin : Hid (parseZ s.data.toList = (0, 0, 2)) := Lib.hid (hv.trans (val_big (by omega)))
  have HA : Hid (∀ W : World, PTabs W → Calls Tryd.prog 29 #[.string ⟨D.toArray⟩] W (Refused W)) := Lib.hid fun W hW => atoi_range D W hW (by omega) hDd hDn hw
  clear h hv hR hok hf hDd hDn hw
  go_enter Tryd.func8, Tryd.ntmps8
  go_wp2_with fail
  refine (HC.out.cut _ (hT.below ((Below.refl _ _).alloc (Nat.le_refl _) _))).mono ?_
  rintro e w1 ⟨rfl, hb⟩
  have tz := Blk.freshA hb
  have hB := ((Below.refl _ _).alloc (Nat.le_refl _) _).trans (hb.mono (by simp))
  clear hb
  go_wp2_with fail
  refine (HC.out.digD _).mono ?_
  rintro e w2 ⟨rfl, hb⟩
  replace tz := tz.go hb
  replace hB := hB.trans (hb.mono hB.size)
  clear hb
  go_wp2_with fail
  refine (HC.out.digR _).mono ?_
  rintro e w3 ⟨rfl, hb⟩
  replace tz := tz.go hb
  replace hB := hB.trans (hb.mono hB.size)
  clear hb
  go_wp2_with fail
  refine (HC.out.frac h1 HRD.out HF _).mono ?_
  rintro e w4 ⟨rfl, hb⟩
  replace tz := tz.go hb
  replace hB := hB.trans (hb.mono hB.size)
  clear hb
  replace tz := tz.alloc (.cells #[.int .i64 f.1, .int .i64 f.2.1] 24)
  have ty := Blk.fresh w4 #[.int .i64 f.1, .int .i64 f.2.1] 24
  replace hB := hB.alloc (o := .cells #[.int .i64 f.1, .int .i64 f.2.1] 24) hB.size
  go_wp2_with fail
  refine (HA.out _ (hT.below hB)).mono ?_
  rintro e w5 ⟨v, x, y, rfl, hb⟩
  replace tz := tz.go hb
  replace hB := hB.trans (hb.mono hB.size)
  clear hb ty
  have z0 := tz.cellv 0 (.int .i64 0) rfl
  have z1 := tz.cellv 1 (.int .i64 0) rfl
  have f0 := tz.free 0
  have f1 := tz.free 1
  go_wp2
  exact bodyPost_ret (v := .tuple #[.agg #[.int .i64 0, .int .i64 0], .int .i64 2]) (by simp [results, Tryd.results8, go_sem, z0, z1]) rfl (ret_of fin.out (below_setAt hB w.heap.size (Nat.le_refl _) _ _))
set_option maxRecDepth 100000 in
set_option maxHeartbeats 1000000 in
theorem parse_t_big {s : ByteArray} {D R : List UInt8} (w : World) (hT : PTabs w) (h : Cut3 s D R true true true) (h1 : s.size ≤ 40) (hok : (fracZ R).2.2 = 0) (hw : num D < 9223372036854775808) (hw2 : 2147483647 < num D) :
    Calls Tryd.prog 8 #[.string s] w (Ret (parseZ s.data.toList) w) := by
  have hv := h.good (by rintro (h | h | h); omega; cases h; cases h.2)
  have hR : R.all isD = true := by exact digB_all h.r
  obtain ⟨f, hf⟩ : ∃ f, fracZ R = f := ⟨_, rfl⟩
  rw [hf] at hok
  have hx : (f.2.2 != 0) = false := by simp [hok]
  have HF := Lib.hid hf
  have HRD := Lib.hid hR
  have HC := Lib.hid h
  have h2 : (s.size : Int) ≤ 40 := by omega
  have hDd : D.all isD = true := digB_all h.d
  have hDn : D ≠ [] := digB_ne h.d
  have hDl : D.length ≤ 40 := Nat.le_trans h.lens.1 h1
  have fin : Hid (parseZ s.data.toList = (0, 0, 2)) := Lib.hid (hv.trans (val_big hw2))
  have HA : Hid (∀ W : World, Calls Tryd.prog 29 #[.string ⟨D.toArray⟩] W fun e w' => e = .returned (.tuple #[.int .i64 (num D : Int), .nilIface]) ∧ Below W.heap.size W w') := Lib.hid fun W => atoi_ok D W (by omega) hDd hDn hw
  obtain ⟨n, hn⟩ : ∃ n, num D = n := ⟨_, rfl⟩
  rw [hn] at HA hw2
  have hgt : (2147483647 : Int) < (n : Int) := by omega
  clear h hv hR hok hf hDd hDn hw hn
  go_enter Tryd.func8, Tryd.ntmps8
  go_wp2_with fail
  refine (HC.out.cut _ (hT.below ((Below.refl _ _).alloc (Nat.le_refl _) _))).mono ?_
  rintro e w1 ⟨rfl, hb⟩
  have tz := Blk.freshA hb
  have hB := ((Below.refl _ _).alloc (Nat.le_refl _) _).trans (hb.mono (by simp))
  clear hb
  go_wp2_with fail
  refine (HC.out.digD _).mono ?_
  rintro e w2 ⟨rfl, hb⟩
  replace tz := tz.go hb
  replace hB := hB.trans (hb.mono hB.size)
  clear hb
  go_wp2_with fail
  refine (HC.out.digR _).mono ?_
  rintro e w3 ⟨rfl, hb⟩
  replace tz := tz.go hb
  replace hB := hB.trans (hb.mono hB.size)
  clear hb
  go_wp2_with fail
  refine (HC.out.frac h1 HRD.out HF _).mono ?_
  rintro e w4 ⟨rfl, hb⟩
  replace tz := tz.go hb
  replace hB := hB.trans (hb.mono hB.size)
  clear hb
  replace tz := tz.alloc (.cells #[.int .i64 f.1, .int .i64 f.2.1] 24)
  have ty := Blk.fresh w4 #[.int .i64 f.1, .int .i64 f.2.1] 24
  replace hB := hB.alloc (o := .cells #[.int .i64 f.1, .int .i64 f.2.1] 24) hB.size
  go_wp2_with fail
  refine (HA.out _).mono ?_
  rintro e w5 ⟨rfl, hb⟩
  replace tz := tz.go hb
  replace hB := hB.trans (hb.mono hB.size)
  clear hb
  clear ty
  have z0 := tz.cellv 0 (.int .i64 0) rfl
  have z1 := tz.cellv 1 (.int .i64 0) rfl
  have f0 := tz.free 0
  have f1 := tz.free 1
  go_wp2
  exact bodyPost_ret (v := .tuple #[.agg #[.int .i64 0, .int .i64 0], .int .i64 2]) (by simp [results, Tryd.results8, go_sem, z0, z1]) rfl (ret_of fin.out (below_setAt hB w.heap.size (Nat.le_refl _) _ _))
set_option maxRecDepth 100000 in
set_option maxHeartbeats 1000000 in
theorem parse_t_ok {s : ByteArray} {D R : List UInt8} (w : World) (hT : PTabs w) (h : Cut3 s D R true true true) (h1 : s.size ≤ 40) (hok : (fracZ R).2.2 = 0) (hw2 : num D ≤ 2147483647) :
    Calls Tryd.prog 8 #[.string s] w (Ret (parseZ s.data.toList) w) := by
  have hv := h.good (by rintro (h | h | h); omega; cases h; cases h.2)
  have hR : R.all isD = true := by exact digB_all h.r
  obtain ⟨f, hf⟩ : ∃ f, fracZ R = f := ⟨_, rfl⟩
  rw [hf] at hok
  have hx : (f.2.2 != 0) = false := by simp [hok]
  have HF := Lib.hid hf
  have HRD := Lib.hid hR
  have HC := Lib.hid h
  have h2 : (s.size : Int) ≤ 40 := by omega
  have hDd : D.all isD = true := digB_all h.d
  have hDn : D ≠ [] := digB_ne h.d
  have hDl : D.length ≤ 40 := Nat.le_trans h.lens.1 h1
  have HA : Hid (∀ W : World, Calls Tryd.prog 29 #[.string ⟨D.toArray⟩] W fun e w' => e = .returned (.tuple #[.int .i64 (num D : Int), .nilIface]) ∧ Below W.heap.size W w') := Lib.hid fun W => atoi_ok D W (by omega) hDd hDn (by omega)
  have hval := val_next (d := D) (f := R) (by rw [hf]; exact hok)
  have vf := (repr_ok (q := Rat.divInt (num R : Int) ((10 ^ R.length : Nat) : Int)) (by show (fracZ R).2.2 = 0; rw [hf]; exact hok)).1
  change validR (fracZ R).1 (fracZ R).2.1 = true at vf
  rw [hf] at hval vf
  obtain ⟨v1, v2, v3, v4, _⟩ := valid_parts vf
  obtain ⟨r, hr⟩ : ∃ r, valZ D R = r := ⟨_, rfl⟩
  have fin : Hid (parseZ s.data.toList = r) := Lib.hid (hv.trans hr)
  rw [hr] at hval
  obtain ⟨n, hn⟩ : ∃ n, num D = n := ⟨_, rfl⟩
  rw [hn] at HA hw2 hval
  have E := Lib.hid hval
  have hle : (n : Int) ≤ 2147483647 := by omega
  obtain ⟨m1, m2⟩ := prod_bd (a := (n : Int)) (d := f.2.1) (by omega) hle (by omega) v2
  have m0 : 0 ≤ (n : Int) * f.2.1 := Int.mul_nonneg (by omega) (by omega)
  have HNE : Hid (f.2.1 ≠ 0) := Lib.hid (by omega)
  clear h hv hR hok hf hDd hDn hn hval vf hr
  go_enter Tryd.func8, Tryd.ntmps8
  go_wp2_with fail
  refine (HC.out.cut _ (hT.below ((Below.refl _ _).alloc (Nat.le_refl _) _))).mono ?_
  rintro e w1 ⟨rfl, hb⟩
  have tz := Blk.freshA hb
  have hB := ((Below.refl _ _).alloc (Nat.le_refl _) _).trans (hb.mono (by simp))
  clear hb
  go_wp2_with fail
  refine (HC.out.digD _).mono ?_
  rintro e w2 ⟨rfl, hb⟩
  replace tz := tz.go hb
  replace hB := hB.trans (hb.mono hB.size)
  clear hb
  go_wp2_with fail
  refine (HC.out.digR _).mono ?_
  rintro e w3 ⟨rfl, hb⟩
  replace tz := tz.go hb
  replace hB := hB.trans (hb.mono hB.size)
  clear hb
  go_wp2_with fail
  refine (HC.out.frac h1 HRD.out HF _).mono ?_
  rintro e w4 ⟨rfl, hb⟩
  replace tz := tz.go hb
  replace hB := hB.trans (hb.mono hB.size)
  clear hb
  replace tz := tz.alloc (.cells #[.int .i64 f.1, .int .i64 f.2.1] 24)
  have ty := Blk.fresh w4 #[.int .i64 f.1, .int .i64 f.2.1] 24
  replace hB := hB.alloc (o := .cells #[.int .i64 f.1, .int .i64 f.2.1] 24) hB.size
  go_wp2_with fail
  refine (HA.out _).mono ?_
  rintro e w5 ⟨rfl, hb⟩
  replace tz := tz.go hb
  replace ty := ty.go hb
  replace hB := hB.trans (hb.mono hB.size)
  clear hb
  have y0 := ty.cellv 0 (.int .i64 f.1) rfl
  have y1 := ty.cellv 1 (.int .i64 f.2.1) rfl
  go_wp2_with fail
  refine (reduce_ret E _ (by omega) (by omega) (by omega) (by omega) HNE.out).mono ?_
  rintro e w6 ⟨rfl, hb⟩
  replace tz := tz.go hb
  replace hB := hB.trans (hb.mono hB.size)
  clear hb y0 y1 ty
  have z0 := tz.cellv 0 (.int .i64 0) rfl
  have z1 := tz.cellv 1 (.int .i64 0) rfl
  have f0 := tz.free 0
  have f1 := tz.free 1
  go_wp2
  exact bodyPost_ret (v := .tuple #[.agg #[.int .i64 r.1, .int .i64 r.2.1], .int .i64 r.2.2]) (by simp [results, Tryd.results8, go_sem, z0, z1]) rfl (ret_eq fin.out (below_setAt hB w.heap.size (Nat.le_refl _) _ _))
set_option maxRecDepth 100000 in
set_option maxHeartbeats 1000000 in
theorem parse_n_err {s : ByteArray} {D R : List UInt8} (w : World) (hT : PTabs w) {bR : Bool} (h : Cut3 s D R false true bR) (h1 : s.size ≤ 40) (hbad : fracZ R = (0, 0, 2)) :
    Calls Tryd.prog 8 #[.string s] w (Ret (parseZ s.data.toList) w) := by
  have hv := h.good (by rintro (h | h | h); omega; cases h; cases h.1)
  have hR : R.all isD = true := by rw [h.none]; rfl
  have HF := Lib.hid hbad
  have HRD := Lib.hid hR
  have HC := Lib.hid h
  have h2 : (s.size : Int) ≤ 40 := by omega
  have fin : Hid (parseZ s.data.toList = (0, 0, 2)) := Lib.hid (hv.trans (val_stop hR (by rw [hbad]; decide)))
  clear h hv hR hbad
  go_enter Tryd.func8, Tryd.ntmps8
  go_wp2_with fail
  refine (HC.out.cut _ (hT.below ((Below.refl _ _).alloc (Nat.le_refl _) _))).mono ?_
  rintro e w1 ⟨rfl, hb⟩
  have tz := Blk.freshA hb
  have hB := ((Below.refl _ _).alloc (Nat.le_refl _) _).trans (hb.mono (by simp))
  clear hb
  go_wp2_with fail
  refine (HC.out.digD _).mono ?_
  rintro e w2 ⟨rfl, hb⟩
  replace tz := tz.go hb
  replace hB := hB.trans (hb.mono hB.size)
  clear hb
  go_wp2_with fail
  refine (HC.out.frac h1 HRD.out HF _).mono ?_
  rintro e w4 ⟨rfl, hb⟩
  replace tz := tz.go hb
  replace hB := hB.trans (hb.mono hB.size)
  clear hb
  have z0 := tz.cellv 0 (.int .i64 0) rfl
  have z1 := tz.cellv 1 (.int .i64 0) rfl
  have f0 := tz.free 0
  have f1 := tz.free 1
  have tl := tz.lt
  go_wp2
  exact bodyPost_ret (v := .tuple #[.agg #[.int .i64 0, .int .i64 0], .int .i64 2]) (by simp [results, Tryd.results8, go_sem, z0, z1, tl]) rfl (ret_of fin.out ((below_setAt hB w.heap.size (Nat.le_refl _) (.int .i64 0) (.int .i64 0)).alloc (below_setAt hB w.heap.size (Nat.le_refl _) (.int .i64 0) (.int .i64 0)).size _))
set_option maxRecDepth 100000 in
set_option maxHeartbeats 1000000 in
theorem parse_n_wide {s : ByteArray} {D R : List UInt8} (w : World) (hT : PTabs w) {bR : Bool} (h : Cut3 s D R false true bR) (h1 : s.size ≤ 40) (hok : (fracZ R).2.2 = 0) (hw : ¬ num D < 9223372036854775808) :
    Calls Tryd.prog 8 #[.string s] w (Ret (parseZ s.data.toList) w) := by
  have hv := h.good (by rintro (h | h | h); omega; cases h; cases h.1)
  have hR : R.all isD = true := by rw [h.none]; rfl
  obtain ⟨f, hf⟩ : ∃ f, fracZ R = f := ⟨_, rfl⟩
  rw [hf] at hok
  have hx : (f.2.2 != 0) = false := by simp [hok]
  have HF := Lib.hid hf
  have HRD := Lib.hid hR
  have HC := Lib.hid h
  have h2 : (s.size : Int) ≤ 40 := by omega
  have hDd : D.all isD = true := digB_all h.d
  have hDn : D ≠ [] := digB_ne h.d
  have hDl : D.length ≤ 40 := Nat.le_trans h.lens.1 h1
  have fin : Hid (parseZ s.data.toList = (0, 0, 2)) := Lib.hid (hv.trans (val_big (by omega)))
  have HA : Hid (∀ W : World, PTabs W → Calls Tryd.prog 29 #[.string ⟨D.toArray⟩] W (Refused W)) := Lib.hid fun W hW => atoi_range D W hW (by omega) hDd hDn hw
  clear h hv hR hok hf hDd hDn hw
  go_enter Tryd.func8, Tryd.ntmps8
  go_wp2_with fail
  refine (HC.out.cut _ (hT.below ((Below.refl _ _).alloc (Nat.le_refl _) _))).mono ?_
  rintro e w1 ⟨rfl, hb⟩
  have tz := Blk.freshA hb
  have hB := ((Below.refl _ _).alloc (Nat.le_refl _) _).trans (hb.mono (by simp))
  clear hb
  go_wp2_with fail
  refine (HC.out.digD _).mono ?_
  rintro e w2 ⟨rfl, hb⟩
  replace tz := tz.go hb
  replace hB := hB.trans (hb.mono hB.size)
  clear hb
  go_wp2_with fail
  refine (HC.out.frac h1 HRD.out HF _).mono ?_
  rintro e w4 ⟨rfl, hb⟩
  replace tz := tz.go hb
  replace hB := hB.trans (hb.mono hB.size)
  clear hb
  replace tz := tz.alloc (.cells #[.int .i64 f.1, .int .i64 f.2.1] 24)
  have ty := Blk.fresh w4 #[.int .i64 f.1, .int .i64 f.2.1] 24
  replace hB := hB.alloc (o := .cells #[.int .i64 f.1, .int .i64 f.2.1] 24) hB.size
  go_wp2_with fail
  refine (HA.out _ (hT.below hB)).mono ?_
  rintro e w5 ⟨v, x, y, rfl, hb⟩
  replace tz := tz.go hb
  replace hB := hB.trans (hb.mono hB.size)
  clear hb ty
  have z0 := tz.cellv 0 (.int .i64 0) rfl
  have z1 := tz.cellv 1 (.int .i64 0) rfl
  have f0 := tz.free 0
  have f1 := tz.free 1
  go_wp2
  exact bodyPost_ret (v := .tuple #[.agg #[.int .i64 0, .int .i64 0], .int .i64 2]) (by simp [results, Tryd.results8, go_sem, z0, z1]) rfl (ret_of fin.out (below_setAt hB w.heap.size (Nat.le_refl _) _ _))
set_option maxRecDepth 100000 in
set_option maxHeartbeats 1000000 in
theorem parse_n_big {s : ByteArray} {D R : List UInt8} (w : World) (hT : PTabs w) {bR : Bool} (h : Cut3 s D R false true bR) (h1 : s.size ≤ 40) (hok : (fracZ R).2.2 = 0) (hw : num D < 9223372036854775808) (hw2 : 2147483647 < num D) :
    Calls Tryd.prog 8 #[.string s] w (Ret (parseZ s.data.toList) w) := by
  have hv := h.good (by rintro (h | h | h); omega; cases h; cases h.1)
  have hR : R.all isD = true := by rw [h.none]; rfl
  obtain ⟨f, hf⟩ : ∃ f, fracZ R = f := ⟨_, rfl⟩
  rw [hf] at hok
  have hx : (f.2.2 != 0) = false := by simp [hok]
  have HF := Lib.hid hf
  have HRD := Lib.hid hR
  have HC := Lib.hid h
  have h2 : (s.size : Int) ≤ 40 := by omega
  have hDd : D.all isD = true := digB_all h.d
  have hDn : D ≠ [] := digB_ne h.d
  have hDl : D.length ≤ 40 := Nat.le_trans h.lens.1 h1
  have fin : Hid (parseZ s.data.toList = (0, 0, 2)) := Lib.hid (hv.trans (val_big hw2))
  have HA : Hid (∀ W : World, Calls Tryd.prog 29 #[.string ⟨D.toArray⟩] W fun e w' => e = .returned (.tuple #[.int .i64 (num D : Int), .nilIface]) ∧ Below W.heap.size W w') := Lib.hid fun W => atoi_ok D W (by omega) hDd hDn hw
  obtain ⟨n, hn⟩ : ∃ n, num D = n := ⟨_, rfl⟩
  rw [hn] at HA hw2
  have hgt : (2147483647 : Int) < (n : Int) := by omega
  clear h hv hR hok hf hDd hDn hw hn
  go_enter Tryd.func8, Tryd.ntmps8
  go_wp2_with fail
  refine (HC.out.cut _ (hT.below ((Below.refl _ _).alloc (Nat.le_refl _) _))).mono ?_
  rintro e w1 ⟨rfl, hb⟩
  have tz := Blk.freshA hb
  have hB := ((Below.refl _ _).alloc (Nat.le_refl _) _).trans (hb.mono (by simp))
  clear hb
  go_wp2_with fail
  refine (HC.out.digD _).mono ?_
  rintro e w2 ⟨rfl, hb⟩
  replace tz := tz.go hb
  replace hB := hB.trans (hb.mono hB.size)
  clear hb
  go_wp2_with fail
  refine (HC.out.frac h1 HRD.out HF _).mono ?_
  rintro e w4 ⟨rfl, hb⟩
  replace tz := tz.go hb
  replace hB := hB.trans (hb.mono hB.size)
  clear hb
  replace tz := tz.alloc (.cells #[.int .i64 f.1, .int .i64 f.2.1] 24)
  have ty := Blk.fresh w4 #[.int .i64 f.1, .int .i64 f.2.1] 24
  replace hB := hB.alloc (o := .cells #[.int .i64 f.1, .int .i64 f.2.1] 24) hB.size
  go_wp2_with fail
  refine (HA.out _).mono ?_
  rintro e w5 ⟨rfl, hb⟩
  replace tz := tz.go hb
  replace hB := hB.trans (hb.mono hB.size)
  clear hb
  clear ty
  have z0 := tz.cellv 0 (.int .i64 0) rfl
  have z1 := tz.cellv 1 (.int .i64 0) rfl
  have f0 := tz.free 0
  have f1 := tz.free 1
  go_wp2
  exact bodyPost_ret (v := .tuple #[.agg #[.int .i64 0, .int .i64 0], .int .i64 2]) (by simp [results, Tryd.results8, go_sem, z0, z1]) rfl (ret_of fin.out (below_setAt hB w.heap.size (Nat.le_refl _) _ _))
set_option maxRecDepth 100000 in
set_option maxHeartbeats 1000000 in
theorem parse_n_ok {s : ByteArray} {D R : List UInt8} (w : World) (hT : PTabs w) {bR : Bool} (h : Cut3 s D R false true bR) (h1 : s.size ≤ 40) (hok : (fracZ R).2.2 = 0) (hw2 : num D ≤ 2147483647) :
    Calls Tryd.prog 8 #[.string s] w (Ret (parseZ s.data.toList) w) := by
  have hv := h.good (by rintro (h | h | h); omega; cases h; cases h.1)
  have hR : R.all isD = true := by rw [h.none]; rfl
  obtain ⟨f, hf⟩ : ∃ f, fracZ R = f := ⟨_, rfl⟩
  rw [hf] at hok
  have hx : (f.2.2 != 0) = false := by simp [hok]
  have HF := Lib.hid hf
  have HRD := Lib.hid hR
  have HC := Lib.hid h
  have h2 : (s.size : Int) ≤ 40 := by omega
  have hDd : D.all isD = true := digB_all h.d
  have hDn : D ≠ [] := digB_ne h.d
  have hDl : D.length ≤ 40 := Nat.le_trans h.lens.1 h1
  have HA : Hid (∀ W : World, Calls Tryd.prog 29 #[.string ⟨D.toArray⟩] W fun e w' => e = .returned (.tuple #[.int .i64 (num D : Int), .nilIface]) ∧ Below W.heap.size W w') := Lib.hid fun W => atoi_ok D W (by omega) hDd hDn (by omega)
  have hval := val_next (d := D) (f := R) (by rw [hf]; exact hok)
  have vf := (repr_ok (q := Rat.divInt (num R : Int) ((10 ^ R.length : Nat) : Int)) (by show (fracZ R).2.2 = 0; rw [hf]; exact hok)).1
  change validR (fracZ R).1 (fracZ R).2.1 = true at vf
  rw [hf] at hval vf
  obtain ⟨v1, v2, v3, v4, _⟩ := valid_parts vf
  obtain ⟨r, hr⟩ : ∃ r, valZ D R = r := ⟨_, rfl⟩
  have fin : Hid (parseZ s.data.toList = r) := Lib.hid (hv.trans hr)
  rw [hr] at hval
  obtain ⟨n, hn⟩ : ∃ n, num D = n := ⟨_, rfl⟩
  rw [hn] at HA hw2 hval
  have E := Lib.hid hval
  have hle : (n : Int) ≤ 2147483647 := by omega
  obtain ⟨m1, m2⟩ := prod_bd (a := (n : Int)) (d := f.2.1) (by omega) hle (by omega) v2
  have m0 : 0 ≤ (n : Int) * f.2.1 := Int.mul_nonneg (by omega) (by omega)
  have HNE : Hid (f.2.1 ≠ 0) := Lib.hid (by omega)
  clear h hv hR hok hf hDd hDn hn hval vf hr
  go_enter Tryd.func8, Tryd.ntmps8
  go_wp2_with fail
  refine (HC.out.cut _ (hT.below ((Below.refl _ _).alloc (Nat.le_refl _) _))).mono ?_
  rintro e w1 ⟨rfl, hb⟩
  have tz := Blk.freshA hb
  have hB := ((Below.refl _ _).alloc (Nat.le_refl _) _).trans (hb.mono (by simp))
  clear hb
  go_wp2_with fail
  refine (HC.out.digD _).mono ?_
  rintro e w2 ⟨rfl, hb⟩
  replace tz := tz.go hb
  replace hB := hB.trans (hb.mono hB.size)
  clear hb
  go_wp2_with fail
  refine (HC.out.frac h1 HRD.out HF _).mono ?_
  rintro e w4 ⟨rfl, hb⟩
  replace tz := tz.go hb
  replace hB := hB.trans (hb.mono hB.size)
  clear hb
  replace tz := tz.alloc (.cells #[.int .i64 f.1, .int .i64 f.2.1] 24)
  have ty := Blk.fresh w4 #[.int .i64 f.1, .int .i64 f.2.1] 24
  replace hB := hB.alloc (o := .cells #[.int .i64 f.1, .int .i64 f.2.1] 24) hB.size
  go_wp2_with fail
  refine (HA.out _).mono ?_
  rintro e w5 ⟨rfl, hb⟩
  replace tz := tz.go hb
  replace ty := ty.go hb
  replace hB := hB.trans (hb.mono hB.size)
  clear hb
  have y0 := ty.cellv 0 (.int .i64 f.1) rfl
  have y1 := ty.cellv 1 (.int .i64 f.2.1) rfl
  go_wp2_with fail
  refine (reduce_ret E _ (by omega) (by omega) (by omega) (by omega) HNE.out).mono ?_
  rintro e w6 ⟨rfl, hb⟩
  replace tz := tz.go hb
  replace hB := hB.trans (hb.mono hB.size)
  clear hb y0 y1 ty
  have z0 := tz.cellv 0 (.int .i64 0) rfl
  have z1 := tz.cellv 1 (.int .i64 0) rfl
  have f0 := tz.free 0
  have f1 := tz.free 1
  go_wp2
  exact bodyPost_ret (v := .tuple #[.agg #[.int .i64 r.1, .int .i64 r.2.1], .int .i64 r.2.2]) (by simp [results, Tryd.results8, go_sem, z0, z1]) rfl (ret_eq fin.out (below_setAt hB w.heap.size (Nat.le_refl _) _ _))
/-- rational.Parse -/
theorem parse_any (s : ByteArray) (w : World) (hT : PTabs w) (hs : s.size ≤ 2000000000) :
    Calls Tryd.prog 8 #[.string s] w (Ret (parseZ s.data.toList) w) := by
  obtain ⟨D, R, hr, e⟩ : ∃ D R hr, Lib.cut s.data.toList [46] = (D, R, hr) := ⟨_, _, _, rfl⟩
  by_cases h1 : 40 < s.size
  · exact parse_long w hT ⟨e, rfl, rfl, hs⟩ h1
  · cases hD : digB D with
    | false => exact parse_nod w hT ⟨e, hD, rfl, hs⟩ (by omega)
    | true =>
      cases hr with
      | true =>
        cases hR : digB R with
        | false => exact parse_nor w hT ⟨e, hD, hR, hs⟩ (by omega)
        | true =>
          rcases frac_errs R with hf | hf
          · by_cases hw : num D < 9223372036854775808
            · by_cases hw2 : 2147483647 < num D
              · exact parse_t_big w hT ⟨e, hD, hR, hs⟩ (by omega) hf hw hw2
              · exact parse_t_ok w hT ⟨e, hD, hR, hs⟩ (by omega) hf (by omega)
            · exact parse_t_wide w hT ⟨e, hD, hR, hs⟩ (by omega) hf hw
          · exact parse_t_err w hT ⟨e, hD, hR, hs⟩ (by omega) hf
      | false =>
        rcases frac_errs R with hf | hf
        · by_cases hw : num D < 9223372036854775808
          · by_cases hw2 : 2147483647 < num D
            · exact parse_n_big w hT ⟨e, hD, rfl, hs⟩ (by omega) hf hw hw2
            · exact parse_n_ok w hT ⟨e, hD, rfl, hs⟩ (by omega) hf (by omega)
          · exact parse_n_wide w hT ⟨e, hD, rfl, hs⟩ (by omega) hf hw
        · exact parse_n_err w hT ⟨e, hD, rfl, hs⟩ (by omega) hf
end Go.Proofs.YtggiljlndenjoaaDoor.RatM
