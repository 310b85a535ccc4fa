/- head, integer and text of the reader of package codec. -/
import Derived.Test.YtohoobgbmhondaaCodTake
import Derived.Test.YtohoobgbmhondaaCodFew
import Derived.Deep.DeepCutAuto
namespace Go.Proofs.Ytohoobgbmhondaa.Cod
open Go Go.RowKit

theorem BytAt.pos {w : World} {n0 : Nat} {A : Option Addr} {l : List UInt8} (h : BytAt w n0 A l) (hl : 0 < l.length) : ∃ g off, A = some ⟨g, off, none⟩ ∧ g < n0 ∧ ∀ j (h : j < l.length), w.cell? ⟨g, off + j, none⟩ = some (.int .u8 (l[j].toNat : Int)) := by
  rcases h with rfl | h
  · simp at hl
  · exact h
/-- codec.integer -/
theorem integer_any (n : Nat) (w : World) (h : n < 18446744073709551616) : Calls Try.prog 39 #[.int .u64 n] w fun e w' => e = .returned (.int .i64 (intg n)) ∧ w = w' := by
  have hn : (n : Int) ≤ 18446744073709551615 := by omega
  by_cases hp : n % 2 = 1
  · have hI : Hid (intg n = -((n : Int) / 2) - 1) := Lib.hid (by unfold intg; rw [if_pos hp]; push_cast; rfl)
    have hp' : (n : Int) % 2 = 1 := by omega
    clear hp
    go_enter Try.func39, Try.ntmps39
    go_wp2
    go_ret
    exact ⟨ret_int (by rw [hI.out]), rfl⟩
  · have hI : Hid (intg n = (n : Int) / 2) := Lib.hid (by unfold intg; rw [if_neg hp]; push_cast; rfl)
    have hp' : (n : Int) % 2 = 0 := by omega
    clear hp
    go_enter Try.func39, Try.ntmps39
    go_wp2
    go_ret
    exact ⟨ret_int (by rw [hI.out]), rfl⟩
/-- what head answers -/
def HeadR (w : World) (R : Nat) (x : Option (Nat × Nat × List UInt8)) (e : Ending) (w' : World) : Prop :=
  w.grownBy w' (some R) ∧ match x with
    | none => e = .returned (.tuple #[.agg #[.int .i64 0, .int .u64 0], .bool false]) ∧ ∃ r, Rd w' R r
    | some (k, n, r) => e = .returned (.tuple #[.agg #[.int .i64 (k : Int), .int .u64 (n : Int)], .bool true]) ∧ Rd w' R r
set_option maxRecDepth 100000 in
theorem head_nil {R : Nat} {w : World} (h : Rd w R []) : Calls Try.prog 38 #[.pointer (some ⟨R, 0, none⟩)] w (HeadR w R none) := by
  have HR := Lib.hid (h.below (below_new w (.cells #[.int .i64 0, .int .u64 0] 74)))
  have HG := Lib.hid (by_below (below_new w (.cells #[.int .i64 0, .int .u64 0] 74)) (some R))
  obtain ⟨N, hN⟩ : ∃ N, w.heap.size = N := ⟨_, rfl⟩
  have c0 : (w.alloc (.cells #[.int .i64 0, .int .u64 0] 74)).cell? ⟨N, 0, none⟩ = some (.int .i64 0) := new_cell hN _ _ 0 rfl
  have c1 : (w.alloc (.cells #[.int .i64 0, .int .u64 0] 74)).cell? ⟨N, 1, none⟩ = some (.int .u64 0) := new_cell hN _ _ 1 rfl
  go_enter Try.func38, Try.ntmps38
  go_wp2_with (first | (go_at_call 45; refine (take_few (n := 1) HR.out (by omega) (by simp)).mono ?_; rintro e w' ⟨rfl, rfl⟩) | fail)
  exact bodyPost_ret (v := .tuple #[.agg #[.int .i64 0, .int .u64 0], .bool false]) (by simp [results, Try.results38, go_sem, c0, c1]) rfl ⟨HG.out, rfl, _, HR.out⟩
theorem some_ne {a b : Nat} (h : a ≠ b) : some a ≠ some b := fun e => h (Option.some.inj e)
theorem by_frozen {w w' : World} {R N j : Nat} (hg : w.grownBy w' (some R)) (hN : N < w.heap.size) (hne : R < N) (h : w.frozen? ⟨N, j, none⟩ = false) : w'.frozen? ⟨N, j, none⟩ = false :=
  (World.frozen?_of_block (a := ⟨N, j, none⟩) (hg.block N hN (some_ne (by omega)))).trans h
theorem by_cell {w w' : World} {R N j : Nat} {v : Value} (hg : w.grownBy w' (some R)) (hne : R < N) (h : w.cell? ⟨N, j, none⟩ = some v) : w'.cell? ⟨N, j, none⟩ = some v :=
  hg.cell h (some_ne (by show N ≠ R; omega))
theorem set2_cells {w : World} {B : Nat} {y0 y1 : Value} (h0 : w.cell? ⟨B, 0, none⟩ = some y0) (h1 : w.cell? ⟨B, 1, none⟩ = some y1) (x0 x1 : Value) {w' : World}
    (hw : w' = (w.setCell ⟨B, 0, none⟩ x0).setCell ⟨B, 1, none⟩ x1) : w'.cell? ⟨B, 0, none⟩ = some x0 ∧ w'.cell? ⟨B, 1, none⟩ = some x1 := by
  have ne : ∀ {p q : Nat}, p ≠ q → (⟨B, p, none⟩ : Addr) ≠ ⟨B, q, none⟩ := fun h e => h (by injection e)
  subst hw
  have a0 := World.cell?_setCell_same w ⟨B, 0, none⟩ x0 h0
  have a1 := World.cell?_setCell_same (w.setCell ⟨B, 0, none⟩ x0) ⟨B, 1, none⟩ x1 ((World.cell?_setCell_other w _ _ x0 (ne (by omega : 0 ≠ 1))).trans h1)
  exact ⟨(World.cell?_setCell_other _ _ _ x1 (ne (by omega : 1 ≠ 0))).trans a0, a1⟩
theorem by_set2 {w0 w : World} {R B : Nat} (h : w0.grownBy w (some R)) (hB : w0.heap.size ≤ B) (x0 x1 : Value) : w0.grownBy ((w.setCell ⟨B, 0, none⟩ x0).setCell ⟨B, 1, none⟩ x1) (some R) :=
  by_comp (by_comp h (by_set w B 0 x0) (fun k e => by have := Option.some.inj e; omega)) (by_set _ B 1 x1) (fun k e => by have := Option.some.inj e; omega)
theorem Rd.set2 {w : World} {R B : Nat} {l : List UInt8} (h : Rd w R l) (hB : R < B) (x0 x1 : Value) : Rd ((w.setCell ⟨B, 0, none⟩ x0).setCell ⟨B, 1, none⟩ x1) R l :=
  (h.by_ (by_set w B 0 x0) (fun k e => by have := Option.some.inj e; omega)).by_ (by_set _ B 1 x1) (fun k e => by have := Option.some.inj e; omega)
set_option maxRecDepth 100000 in
set_option maxHeartbeats 1000000 in
theorem head_short {R : Nat} {w : World} {x : UInt8} {r : List UInt8} (h : Rd w R (x :: r)) (hm : x.toNat % 64 < 56) : Calls Try.prog 38 #[.pointer (some ⟨R, 0, none⟩)] w (HeadR w R (rdHead (x :: r))) := by
  have hx := x.toNat_lt
  obtain ⟨y, hy⟩ : ∃ y : Nat, x.toNat = y := ⟨_, rfl⟩
  rw [hy] at hm hx
  have HX : Hid (rdHead (x :: r) = some (y / 64, y % 64, r)) := Lib.hid (by simp only [rdHead, hy]; rw [if_pos hm])
  have HR := Lib.hid (h.below (below_new w (.cells #[.int .i64 0, .int .u64 0] 74)))
  have HG := Lib.hid (by_below (below_new w (.cells #[.int .i64 0, .int .u64 0] 74)) (some R))
  obtain ⟨N, hN⟩ : ∃ N, w.heap.size = N := ⟨_, rfl⟩
  have hRN : R < N := hN ▸ h.lt
  have c0 : (w.alloc (.cells #[.int .i64 0, .int .u64 0] 74)).cell? ⟨N, 0, none⟩ = some (.int .i64 0) := new_cell hN _ _ 0 rfl
  have c1 : (w.alloc (.cells #[.int .i64 0, .int .u64 0] 74)).cell? ⟨N, 1, none⟩ = some (.int .u64 0) := new_cell hN _ _ 1 rfl
  have cf : ∀ j, (w.alloc (.cells #[.int .i64 0, .int .u64 0] 74)).frozen? ⟨N, j, none⟩ = false := fun j => new_frozen hN _ _ j
  have CF := Lib.hid cf
  have HY := Lib.hid hy
  have HN := Lib.hid hN
  have hm' : (y : Int) % 64 < 56 := by omega
  have hy0 : (0 : Int) ≤ (y : Int) := by omega
  have hy1 : (y : Int) ≤ 255 := by omega
  have hszN : N < (w.alloc (.cells #[.int .i64 0, .int .u64 0] 74)).heap.size := by simp [hN]
  have HSZ := Lib.hid hszN
  clear h cf hy hm hx hszN
  go_enter Try.func38, Try.ntmps38
  go_wp2_with (first
    | (go_at_call 45; refine (take_ok (n := 1) HR.out (by simp)).mono ?_; rintro e w1 ⟨A, c, rfl, hBT, hA0, hc1, hc2, hRd, hg⟩
       obtain ⟨g, off, rfl, hgR, hcell⟩ := hBT.pos (by simp)
       have hb0 : w1.cell? ⟨g, off, none⟩ = some (.int .u8 (y : Int)) := by have := hcell 0 (by simp); rw [← HY.out]; simpa using this
       have e0 := by_cell hg hRN c0
       have e1 := by_cell hg hRN c1
       have f0 := by_frozen hg HSZ.out hRN (CF.out 0)
       have f1 := by_frozen hg HSZ.out hRN (CF.out 1)
       clear hBT hcell)
    | fail)
  go_quiet ((fail))
  have hdn : Below w1.heap.size w1 (w1.drewN nq) := below_drewN (Below.refl _ _) nq
  replace e0 : (w1.drewN nq).cell? ⟨N, 0, none⟩ = some (.int .i64 0) := e0
  replace e1 : (w1.drewN nq).cell? ⟨N, 1, none⟩ = some (.int .u64 0) := e1
  replace f0 : (w1.drewN nq).frozen? ⟨N, 0, none⟩ = false := f0
  replace f1 : (w1.drewN nq).frozen? ⟨N, 1, none⟩ = false := f1
  have hRd2 := hRd.below hdn
  have hg2 := by_trans HG.out (by_trans hg (by_below hdn _))
  generalize w1.drewN nq = w2 at *
  have HF : Hid (∀ W4, W4 = (w2.setCell ⟨N, 0, none⟩ (.int .i64 ((y : Int) / 64))).setCell ⟨N, 1, none⟩ (.int .u64 ((y : Int) % 64)) → (W4.cell? ⟨N, 0, none⟩ = some (.int .i64 ((y : Int) / 64)) ∧ W4.cell? ⟨N, 1, none⟩ = some (.int .u64 ((y : Int) % 64))) ∧
      HeadR w R (rdHead (x :: r)) (.returned (.tuple #[.agg #[.int .i64 ((y : Int) / 64), .int .u64 ((y : Int) % 64)], .bool true])) W4) := Lib.hid (by
    intro W4 h
    refine ⟨set2_cells e0 e1 _ _ h, ?_⟩
    subst h
    rw [HX.out]
    refine ⟨by_set2 hg2 (by rw [HN.out]; exact Nat.le_refl _) _ _, by push_cast; rfl, ?_⟩
    simpa using hRd2.set2 hRN _ _)
  clear hg hg2 hRd hRd2 hdn hb0
  go_wp2
  obtain ⟨W4, hW4⟩ : ∃ W4, W4 = (w2.setCell ⟨N, 0, none⟩ (.int .i64 ((y : Int) / 64))).setCell ⟨N, 1, none⟩ (.int .u64 ((y : Int) % 64)) := ⟨_, rfl⟩
  rw [← hW4]
  obtain ⟨⟨g0, g1⟩, hp⟩ := HF.out W4 hW4
  clear hW4
  exact bodyPost_ret (v := .tuple #[.agg #[.int .i64 ((y : Int) / 64), .int .u64 ((y : Int) % 64)], .bool true]) (by simp [results, Try.results38, go_sem, g0, g1]) rfl hp
theorem val_take {F : List UInt8} {j : Nat} (h : j < F.length) : val (F.take (j + 1)) = val (F.take j) * 256 + F[j].toNat := by
  rw [List.take_succ_eq_append_getElem h, val_append, val_one]; simp
theorem head_fail {R N : Nat} {w w2 : World} {l : List UInt8} {i0 i1 : Value} (hx : rdHead l = none) (hg : w.grownBy w2 (some R)) (hN : w.heap.size = N) (hRN : R < N) {r : List UInt8} (hRd : Rd w2 R r) (e0 : w2.cell? ⟨N, 0, none⟩ = some i0) (e1 : w2.cell? ⟨N, 1, none⟩ = some i1) :
    ∀ W4, W4 = (w2.setCell ⟨N, 0, none⟩ (.int .i64 0)).setCell ⟨N, 1, none⟩ (.int .u64 0) → (W4.cell? ⟨N, 0, none⟩ = some (.int .i64 0) ∧ W4.cell? ⟨N, 1, none⟩ = some (.int .u64 0)) ∧
      HeadR w R (rdHead l) (.returned (.tuple #[.agg #[.int .i64 0, .int .u64 0], .bool false])) W4 := by
  intro W4 h
  refine ⟨set2_cells e0 e1 _ _ h, ?_⟩
  subst h
  rw [hx]
  exact ⟨by_set2 hg (by omega) _ _, rfl, _, hRd.set2 hRN _ _⟩
theorem head_good {R N k n : Nat} {w w2 : World} {l r : List UInt8} {i0 i1 : Value} {a b : Int} (hx : rdHead l = some (k, n, r)) (ha : a = (k : Int)) (hb : b = (n : Int)) (hg : w.grownBy w2 (some R)) (hN : w.heap.size = N) (hRN : R < N) (hRd : Rd w2 R r) (e0 : w2.cell? ⟨N, 0, none⟩ = some i0) (e1 : w2.cell? ⟨N, 1, none⟩ = some i1) :
    ∀ W4, W4 = (w2.setCell ⟨N, 0, none⟩ (.int .i64 a)).setCell ⟨N, 1, none⟩ (.int .u64 b) → (W4.cell? ⟨N, 0, none⟩ = some (.int .i64 a) ∧ W4.cell? ⟨N, 1, none⟩ = some (.int .u64 b)) ∧
      HeadR w R (rdHead l) (.returned (.tuple #[.agg #[.int .i64 a, .int .u64 b], .bool true])) W4 := by
  intro W4 h
  refine ⟨set2_cells e0 e1 _ _ h, ?_⟩
  subst h ha hb
  rw [hx]
  exact ⟨by_set2 hg (by omega) _ _, rfl, hRd.set2 hRN _ _⟩
set_option maxRecDepth 100000 in
set_option maxHeartbeats 2000000 in
theorem head_long {R : Nat} {w : World} {x : UInt8} {r : List UInt8} (h : Rd w R (x :: r)) (hm : ¬ x.toNat % 64 < 56) : Calls Try.prog 38 #[.pointer (some ⟨R, 0, none⟩)] w (HeadR w R (rdHead (x :: r))) := by
  have hx := x.toNat_lt
  obtain ⟨y, hy⟩ : ∃ y : Nat, x.toNat = y := ⟨_, rfl⟩
  rw [hy] at hm hx
  obtain ⟨kk, hkk⟩ : ∃ kk, y % 64 - 55 = kk := ⟨_, rfl⟩
  have hk1 : 1 ≤ kk := by omega
  have hk8 : kk ≤ 8 := by omega
  have hke : (y : Int) % 64 - 55 = (kk : Int) := by omega
  have HX : Hid (rdHead (x :: r) = if r.length < kk then none else if val (r.take kk) < 56 ∨ r.head? = some 0 then none else some (y / 64, val (r.take kk), r.drop kk)) := Lib.hid (by simp only [rdHead, hy]; rw [if_neg hm, hkk])
  have HR := Lib.hid (h.below (below_new w (.cells #[.int .i64 0, .int .u64 0] 74)))
  have HG := Lib.hid (by_below (below_new w (.cells #[.int .i64 0, .int .u64 0] 74)) (some R))
  obtain ⟨N, hN⟩ : ∃ N, w.heap.size = N := ⟨_, rfl⟩
  have hRN : R < N := hN ▸ h.lt
  have c0 : (w.alloc (.cells #[.int .i64 0, .int .u64 0] 74)).cell? ⟨N, 0, none⟩ = some (.int .i64 0) := new_cell hN _ _ 0 rfl
  have c1 : (w.alloc (.cells #[.int .i64 0, .int .u64 0] 74)).cell? ⟨N, 1, none⟩ = some (.int .u64 0) := new_cell hN _ _ 1 rfl
  have cf : ∀ j, (w.alloc (.cells #[.int .i64 0, .int .u64 0] 74)).frozen? ⟨N, j, none⟩ = false := fun j => new_frozen hN _ _ j
  have CF := Lib.hid cf
  have HY := Lib.hid hy
  have HN := Lib.hid hN
  have hm' : ¬ (y : Int) % 64 < 56 := by omega
  have hy0 : (0 : Int) ≤ (y : Int) := by omega
  have hy1 : (y : Int) ≤ 255 := by omega
  have hszN : N < (w.alloc (.cells #[.int .i64 0, .int .u64 0] 74)).heap.size := by simp [hN]
  have HSZ := Lib.hid hszN
  have HKE := Lib.hid hke
  clear h cf hy hm hx hszN hkk hke
  go_enter Try.func38, Try.ntmps38
  go_wp2_with (first
    | (go_at_call 45; refine (take_ok (n := 1) HR.out (by simp)).mono ?_; rintro e w1 ⟨A, c, rfl, hBT, hA0, hc1, hc2, hRd, hg⟩
       obtain ⟨g, off, rfl, hgR, hcell⟩ := hBT.pos (by simp)
       have hb0 : w1.cell? ⟨g, off, none⟩ = some (.int .u8 (y : Int)) := by have := hcell 0 (by simp); rw [← HY.out]; simpa using this
       have e0 := by_cell hg hRN c0
       have e1 := by_cell hg hRN c1
       have f0 := by_frozen hg HSZ.out hRN (CF.out 0)
       have f1 := by_frozen hg HSZ.out hRN (CF.out 1)
       clear hBT hcell)
    | fail)
  go_quiet ((fail))
  have hdn : Below w1.heap.size w1 (w1.drewN nq) := below_drewN (Below.refl _ _) nq
  replace e0 : (w1.drewN nq).cell? ⟨N, 0, none⟩ = some (.int .i64 0) := e0
  replace e1 : (w1.drewN nq).cell? ⟨N, 1, none⟩ = some (.int .u64 0) := e1
  replace f0 : (w1.drewN nq).frozen? ⟨N, 0, none⟩ = false := f0
  replace f1 : (w1.drewN nq).frozen? ⟨N, 1, none⟩ = false := f1
  have hRd2 : Rd (w1.drewN nq) R r := by simpa using hRd.below hdn
  have hg2 := by_trans HG.out (by_trans hg (by_below hdn _))
  have hsz2 : N < (w1.drewN nq).heap.size := Nat.lt_of_lt_of_le HSZ.out (Nat.le_trans hg.size hdn.size)
  generalize w1.drewN nq = w2 at *
  clear hg hRd hdn hb0
  have HRd := Lib.hid hRd2
  have HG2 := Lib.hid hg2
  clear hRd2 hg2
  by_cases hlt : r.length < kk
  · have HT : Hid (Calls Try.prog 45 #[.pointer (some ⟨R, 0, none⟩), .int .u64 ((y : Int) % 64 - 55)] w2 fun e w' => e = .returned (.tuple #[.slice none 0 0, .bool false]) ∧ w2 = w') := Lib.hid (by rw [HKE.out]; exact take_few HRd.out (by omega) hlt)
    have HF := Lib.hid (head_fail (l := x :: r) (by rw [HX.out, if_pos hlt]) HG2.out HN.out hRN HRd.out e0 e1)
    go_wp2_with (first | (go_at_call 45; refine HT.out.mono ?_; rintro e w' ⟨rfl, rfl⟩) | fail)
    obtain ⟨W4, hW4⟩ : ∃ W4, W4 = (w2.setCell ⟨N, 0, none⟩ (.int .i64 0)).setCell ⟨N, 1, none⟩ (.int .u64 0) := ⟨_, rfl⟩
    rw [← hW4]
    obtain ⟨⟨g0, g1⟩, hp⟩ := HF.out W4 hW4
    clear hW4
    exact bodyPost_ret (v := .tuple #[.agg #[.int .i64 0, .int .u64 0], .bool false]) (by simp [results, Try.results38, go_sem, g0, g1]) rfl hp
  · have HT : Hid (Calls Try.prog 45 #[.pointer (some ⟨R, 0, none⟩), .int .u64 ((y : Int) % 64 - 55)] w2 (TakeR w2 R kk r)) := Lib.hid (by rw [HKE.out]; exact take_ok HRd.out (by omega))
    obtain ⟨F, hF⟩ : ∃ F, r.take kk = F := ⟨_, rfl⟩
    have hFl : F.length = kk := by rw [← hF, List.length_take]; omega
    have hF0 : r.head? = F.head? := by
      rw [← hF]
      cases r with
      | nil => simp
      | cons a q => cases kk with
        | zero => omega
        | succ n => simp
    obtain ⟨z, hz⟩ : ∃ z : Nat, (F[0]'(by omega)).toNat = z := ⟨_, rfl⟩
    have hFh : (F.head? = some 0) ↔ z = 0 := by
      rw [← hz]
      cases F with
      | nil => simp at hFl; omega
      | cons a q =>
        simp only [List.head?_cons, Option.some.injEq, List.getElem_cons_zero]
        constructor
        · rintro rfl; rfl
        · intro h; exact UInt8.toNat_inj.1 h
    have HX2 : Hid (rdHead (x :: r) = if val F < 56 ∨ z = 0 then none else some (y / 64, val F, r.drop kk)) := Lib.hid (by
      rw [HX.out, if_neg hlt, hF, hF0]; simp only [hFh])
    have HFE := Lib.hid hF
    have HZ := Lib.hid hz
    have hFv : val F < 18446744073709551616 := by
      have h1 := val_lt F
      have h2 : 256 ^ F.length ≤ 256 ^ 8 := Nat.pow_le_pow_right (by omega) (by omega)
      have h3 : (256 : Nat) ^ 8 = 18446744073709551616 := rfl
      omega
    have HFV := Lib.hid hFv
    have HL := Lib.hid hFl
    clear hF hF0 hz hFh hFv
    go_wp2_with (first
      | (go_at_call 45; refine HT.out.mono ?_; rintro e w3 ⟨A2, c2, rfl, hBT, hA0', hc1', hc2', hRd3, hg3⟩
         rw [HFE.out] at hBT
         obtain ⟨g2, off2, rfl, hgR2, hcell⟩ := hBT.pos (by omega)
         have HCE := Lib.hid hcell
         have e0' := by_cell hg3 hRN e0
         have e1' := by_cell hg3 hRN e1
         have f0' := by_frozen hg3 hsz2 hRN f0
         have f1' := by_frozen hg3 hsz2 hRN f1
         have HRd3 := Lib.hid hRd3
         have HG3 := Lib.hid (by_trans HG2.out hg3)
         clear hBT hcell hRd3 hg3)
      | fail)
    go_loop [9, 47] (fun a i => ∃ j : Nat, j ≤ kk ∧ i = .int .i64 j ∧ a = .int .u64 ((val (F.take j) : Nat) : Int)) (fun _ i => kk - (intOf i).toNat)
    case atStart => exact ⟨0, Nat.zero_le _, rfl, rfl⟩
    case round =>
      obtain ⟨j, hj, rfl, rfl⟩ := hrel
      by_cases hjl : j < kk
      · have hjF : j < F.length := by omega
        obtain ⟨u, hu⟩ : ∃ u : Nat, F[j].toNat = u := ⟨_, rfl⟩
        have hcj : w3.cell? ⟨g2, off2 + j, none⟩ = some (.int .u8 (u : Int)) := by have := HCE.out j hjF; rwa [hu] at this
        have hu2 : u < 256 := by rw [← hu]; exact F[j].toNat_lt
        obtain ⟨q, hq⟩ : ∃ q, val (F.take j) = q := ⟨_, rfl⟩
        have hq2 : q < 72057594037927936 := by
          have h1 := val_lt (F.take j)
          have h2 : 256 ^ (F.take j).length ≤ 256 ^ 7 := Nat.pow_le_pow_right (by omega) (by rw [List.length_take]; omega)
          have h3 : (256 : Nat) ^ 7 = 72057594037927936 := rfl
          omega
        have HQ : Hid (val (F.take (j + 1)) = q * 256 + u) := Lib.hid (by rw [val_take hjF, hq, hu])
        rw [hq]
        clear hu hq
        go_wp2_with fail
        go_round
        case rel => exact ⟨j + 1, by omega, by go_num, by rw [HQ.out]; push_cast; rfl⟩
        case measure => simp [intOf]; omega
      · have hjk : j = kk := by omega
        subst hjk
        rw [List.take_of_length_le (by omega)]
        obtain ⟨V, hV⟩ : ∃ V, val F = V := ⟨_, rfl⟩
        rw [hV] at HX2 HFV ⊢
        have hVb : (V : Int) ≤ 18446744073709551615 := by have := HFV.out; omega
        have hz0 : w3.cell? ⟨g2, off2, none⟩ = some (.int .u8 (z : Int)) := by have := HCE.out 0 (by omega); rw [HZ.out] at this; simpa using this
        clear hV
        by_cases hbad : V < 56 ∨ z = 0
        · have HF := Lib.hid (head_fail (l := x :: r) (by rw [HX2.out, if_pos hbad]) HG3.out HN.out hRN HRd3.out e0' e1')
          rcases Nat.lt_or_ge V 56 with hv | hv
          · have hv' : (V : Int) < 56 := by omega
            clear hbad
            go_wp2_with fail
            obtain ⟨W4, hW4⟩ : ∃ W4, W4 = (w3.setCell ⟨N, 0, none⟩ (.int .i64 0)).setCell ⟨N, 1, none⟩ (.int .u64 0) := ⟨_, rfl⟩
            rw [← hW4]
            obtain ⟨⟨g0, g1⟩, hp⟩ := HF.out W4 hW4
            clear hW4
            exact bodyPost_ret (v := .tuple #[.agg #[.int .i64 0, .int .u64 0], .bool false]) (by simp [results, Try.results38, go_sem, g0, g1]) rfl hp
          · have hv' : ¬ (V : Int) < 56 := by omega
            have hzz : z = 0 := by omega
            subst hzz
            clear hbad
            go_wp2_with fail
            obtain ⟨W4, hW4⟩ : ∃ W4, W4 = (w3.setCell ⟨N, 0, none⟩ (.int .i64 0)).setCell ⟨N, 1, none⟩ (.int .u64 0) := ⟨_, rfl⟩
            rw [← hW4]
            obtain ⟨⟨g0, g1⟩, hp⟩ := HF.out W4 hW4
            clear hW4
            exact bodyPost_ret (v := .tuple #[.agg #[.int .i64 0, .int .u64 0], .bool false]) (by simp [results, Try.results38, go_sem, g0, g1]) rfl hp
        · have hv' : ¬ (V : Int) < 56 := by omega
          have hzz : ((z : Int) == 0) = false := by simp; omega
          have HF := Lib.hid (head_good (l := x :: r) (a := (y : Int) / 64) (b := (V : Int)) (by rw [HX2.out, if_neg hbad]) (by push_cast; rfl) rfl HG3.out HN.out hRN HRd3.out e0' e1')
          clear hbad
          go_wp2_with fail
          obtain ⟨W4, hW4⟩ : ∃ W4, W4 = (w3.setCell ⟨N, 0, none⟩ (.int .i64 ((y : Int) / 64))).setCell ⟨N, 1, none⟩ (.int .u64 (V : Int)) := ⟨_, rfl⟩
          rw [← hW4]
          obtain ⟨⟨g0, g1⟩, hp⟩ := HF.out W4 hW4
          clear hW4
          exact bodyPost_ret (v := .tuple #[.agg #[.int .i64 ((y : Int) / 64), .int .u64 (V : Int)], .bool true]) (by simp [results, Try.results38, go_sem, g0, g1]) rfl hp
/-- codec.reader.head -/
theorem head_rd_any {R : Nat} {w : World} {l : List UInt8} (h : Rd w R l) : Calls Try.prog 38 #[.pointer (some ⟨R, 0, none⟩)] w (HeadR w R (rdHead l)) := by
  cases l with
  | nil => exact head_nil h
  | cons x r =>
    by_cases hm : x.toNat % 64 < 56
    · exact head_short h hm
    · exact head_long h hm
end Go.Proofs.Ytohoobgbmhondaa.Cod
