/- Contracts of Root of package rational, by sort.Search at its closure, and of the reference's. -/
import Derived.Test.YtimkgbjgdelkeaaDoorRatTwo
import Derived.Deep.RegionHeld3
namespace Go.Proofs.YtimkgbjgdelkeaaDoor.RatM
open Go Go.RowKit

theorem sq_mono {a b : Nat} (h : a ≤ b) : (a : Int) * a ≤ (b : Int) * b := by
  exact_mod_cast Nat.mul_le_mul h h
theorem sq_bd (r : Nat) (h : r ≤ 65536) : 0 ≤ (r : Int) * r ∧ (r : Int) * r ≤ 4294967296 := by
  have := sq_mono h
  have := sq_mono (Nat.zero_le r)
  omega

theorem root_fn (r : Nat) (B : Nat) (n : Int) (w : World) (h : r ≤ 65536) (hc : w.cell? ⟨B, 0, none⟩ = some (.int .i64 n)) :
    Calls Tryd.prog 70 #[.int .i64 r, .pointer (some ⟨B, 0, none⟩)] w fun e w' => e = .returned (.bool (decide (n ≤ (r : Int) * r))) ∧ w = w' := by
  obtain ⟨b1, b2⟩ := sq_bd r h
  go_enter Tryd.func70, Tryd.ntmps70
  go_wp2
  go_ret
  exact ⟨rfl, rfl⟩

/-- What the search knows: below lo no square reaches n; hi's does. -/
def Mid (n : Int) (lo hi : Nat) : Prop := (∀ j : Nat, j < lo → (j : Int) * j < n) ∧ (hi < 65536 → n ≤ (hi : Int) * hi)
theorem Mid.up {n : Int} {lo hi m : Nat} (h : Mid n lo hi) (hm : (m : Int) * m < n) : Mid n (m + 1) hi :=
  ⟨fun j hj => by have := sq_mono (show j ≤ m by omega); omega, h.2⟩
theorem Mid.down {n : Int} {lo hi m : Nat} (h : Mid n lo hi) (hm : n ≤ (m : Int) * m) : Mid n lo m := ⟨h.1, fun _ => hm⟩
theorem Mid.fin {n : Int} {lo : Nat} (h : Mid n lo lo) (hl : lo ≤ 65536) : sqN n = lo := sq_unique hl h.2 h.1

set_option maxHeartbeats 1000000 in
theorem search_any (B : Nat) (n : Int) (w : World) (hc : w.cell? ⟨B, 0, none⟩ = some (.int .i64 n)) :
    Calls Tryd.prog 69 #[.int .i64 65536, .func (.func 70) #[] #[.pointer (some ⟨B, 0, none⟩)]] w fun e w' => e = .returned (.int .i64 (sqN n : Nat)) ∧ w = w' := by
  go_enter Tryd.func69, Tryd.ntmps69
  go_wp2
  go_loop [5, 6] (fun x y => ∃ lo hi : Nat, x = .int .i64 lo ∧ y = .int .i64 hi ∧ lo ≤ hi ∧ hi ≤ 65536 ∧ Mid n lo hi) (fun x y => (intOf y - intOf x).toNat)
  case atStart => exact ⟨0, 65536, rfl, rfl, by omega, by omega, fun j hj => absurd hj (Nat.not_lt_zero _), fun h => absurd h (by omega)⟩
  case round =>
    obtain ⟨lo, hi, rfl, rfl, h1, h2, hm⟩ := hrel
    have HM := Lib.hid hm
    clear hm
    by_cases hlt : lo < hi
    · have hf := root_fn ((lo + hi) / 2) B n w (by omega) hc
      rw [show (((lo + hi) / 2 : Nat) : Int) = ((lo : Int) + (hi : Int)) / 2 by omega] at hf
      by_cases hp : n ≤ (((lo : Int) + (hi : Int)) / 2) * (((lo : Int) + (hi : Int)) / 2)
      · rw [decide_eq_true hp] at hf
        have nxt := Lib.hid (HM.out.down (m := (lo + hi) / 2) (by rw [show (((lo + hi) / 2 : Nat) : Int) = ((lo : Int) + (hi : Int)) / 2 by omega]; exact hp))
        clear hp
        go_wp2_with fail
        refine hf.mono ?_
        rintro e w' ⟨rfl, rfl⟩
        go_wp2
        go_round
        case rel => exact ⟨lo, (lo + hi) / 2, rfl, by go_num, by omega, by omega, nxt.out⟩
        case measure => simp [intOf]; omega
      · rw [decide_eq_false hp] at hf
        have nxt := Lib.hid (HM.out.up (m := (lo + hi) / 2) (by rw [show (((lo + hi) / 2 : Nat) : Int) = ((lo : Int) + (hi : Int)) / 2 by omega]; omega))
        clear hp
        go_wp2_with fail
        refine hf.mono ?_
        rintro e w' ⟨rfl, rfl⟩
        go_wp2
        go_round
        case rel => exact ⟨(lo + hi) / 2 + 1, hi, by go_num, rfl, by omega, by omega, nxt.out⟩
        case measure => simp [intOf]; omega
    · obtain rfl : lo = hi := by omega
      have fin := Lib.hid (HM.out.fin h2)
      go_wp2
      go_ret
      exact ⟨ret_int (by rw [fin.out]), rfl⟩
/-- rational.rootAbove -/
theorem rootabove_any (n : Int) (w : World) :
    Calls Tryd.prog 57 #[.int .i64 n] w fun e w' => e = .returned (.int .i64 (sqN n : Nat)) ∧ Below w.heap.size w w' := by
  go_enter Tryd.func57, Tryd.ntmps57
  go_wp2_with fail
  refine (search_any w.heap.size n _ (by simp)).mono ?_
  rintro e w1 ⟨rfl, rfl⟩
  go_wp2
  go_ret
  exact ⟨rfl, (Below.refl _ _).alloc (Nat.le_refl _) _⟩

theorem ret_whole {n : Int} {lo : Nat} (h : sqN n = lo) : Ending.returned (.tuple #[.int .i64 lo, .bool ((lo : Int) * lo == n)]) = .returned (.tuple #[.int .i64 (sqN n : Nat), .bool ((sqN n : Int) * sqN n == n)]) := by rw [h]
set_option maxHeartbeats 1000000 in
/-- the reference's whole -/
theorem whole_any (n : Int) (w : World) :
    Calls Tryd.prog 58 #[.int .i64 n] w fun e w' => e = .returned (.tuple #[.int .i64 (sqN n : Nat), .bool ((sqN n : Int) * sqN n == n)]) ∧ w = w' := by
  go_enter Tryd.func58, Tryd.ntmps58
  go_wp2
  go_loop [4, 5] (fun x y => ∃ lo hi : Nat, x = .int .i64 lo ∧ y = .int .i64 hi ∧ lo ≤ hi ∧ hi ≤ 65536 ∧ Mid n lo hi) (fun x y => (intOf y - intOf x).toNat)
  case atStart => exact ⟨0, 65536, rfl, rfl, by omega, by omega, fun j hj => absurd hj (Nat.not_lt_zero _), fun h => absurd h (by omega)⟩
  case round =>
    obtain ⟨lo, hi, rfl, rfl, h1, h2, hm⟩ := hrel
    have HM := Lib.hid hm
    clear hm
    by_cases hlt : lo < hi
    · obtain ⟨b1, b2⟩ := sq_bd ((lo + hi) / 2) (by omega)
      rw [show (((lo + hi) / 2 : Nat) : Int) = ((lo : Int) + (hi : Int)) / 2 by omega] at b1 b2
      by_cases hp : (((lo : Int) + (hi : Int)) / 2) * (((lo : Int) + (hi : Int)) / 2) < n
      · have nxt := Lib.hid (HM.out.up (m := (lo + hi) / 2) (by rw [show (((lo + hi) / 2 : Nat) : Int) = ((lo : Int) + (hi : Int)) / 2 by omega]; omega))
        go_wp2
        go_round
        case rel => exact ⟨(lo + hi) / 2 + 1, hi, by go_num, rfl, by omega, by omega, nxt.out⟩
        case measure => simp [intOf]; omega
      · have nxt := Lib.hid (HM.out.down (m := (lo + hi) / 2) (by rw [show (((lo + hi) / 2 : Nat) : Int) = ((lo : Int) + (hi : Int)) / 2 by omega]; omega))
        go_wp2
        go_round
        case rel => exact ⟨lo, (lo + hi) / 2, rfl, by go_num, by omega, by omega, nxt.out⟩
        case measure => simp [intOf]; omega
    · obtain rfl : lo = hi := by omega
      have fin := Lib.hid (HM.out.fin h2)
      obtain ⟨b1, b2⟩ := sq_bd lo h2
      go_wp2
      go_ret2
      exact ⟨ret_whole fin.out, rfl⟩

theorem sqN_le (n : Int) : sqN n ≤ 65536 := by
  unfold sqN
  cases h : (List.range 65536).find? (fun r : Nat => decide (n ≤ (r : Int) * r)) with
  | none => exact Nat.le_refl _
  | some i =>
    have := List.mem_range.1 (List.mem_of_find?_eq_some h)
    show i ≤ 65536
    omega
theorem rootabove_at {n : Int} {p : Nat} (hp : Hid (sqN n = p)) (w : World) :
    Calls Tryd.prog 57 #[.int .i64 n] w fun e w' => e = .returned (.int .i64 p) ∧ Below w.heap.size w w' := hp.out ▸ rootabove_any n w
theorem whole_at {n : Int} {p : Nat} (hp : Hid (sqN n = p)) (w : World) :
    Calls Tryd.prog 58 #[.int .i64 n] w fun e w' => e = .returned (.tuple #[.int .i64 p, .bool ((p : Int) * p == n)]) ∧ w = w' := hp.out ▸ whole_any n w
theorem whole_is {n : Int} {p : Nat} {c : Bool} (hp : Hid (sqN n = p)) (hc : Hid (((p : Int) * p == n) = c)) (w : World) :
    Calls Tryd.prog 58 #[.int .i64 n] w fun e w' => e = .returned (.tuple #[.int .i64 p, .bool c]) ∧ w = w' := by
  have h := whole_at hp w
  rw [hc.out] at h
  exact h
theorem root_arg {a b : Int} (h : validR a b = false) : rootZ a b = (0, 0, 1) := by simp [rootZ, h]
theorem root_yes {a b : Int} {p q : Nat} (h : validR a b = true) (hp : sqN a = p) (hq : sqN b = q) (h1 : (p : Int) * p = a) (h2 : (q : Int) * q = b) : rootZ a b = ((p : Int), (q : Int), 0) := by
  subst hp; subst hq
  rw [rootZ, if_pos h, if_pos ⟨h1, h2⟩]
theorem root_no {a b : Int} {p q : Nat} (h : validR a b = true) (hp : sqN a = p) (hq : sqN b = q) (h1 : (p : Int) * p ≠ a ∨ (q : Int) * q ≠ b) : rootZ a b = (0, 0, 2) := by
  subst hp; subst hq
  rw [rootZ, if_pos h, if_neg (fun k => by rcases h1 with h1 | h1; exact h1 k.1; exact h1 k.2)]

structure Since (w0 w : World) : Prop where
  below : Below w0.heap.size w0 w
theorem Since.go {w0 w w' : World} (h : Since w0 w) (hb : Below w.heap.size w w') : Since w0 w' := ⟨h.below.trans (hb.mono h.below.size)⟩
theorem Since.drew {w0 w : World} (h : Since w0 w) : Since w0 w.drew := h.go (below_drewN (Below.refl _ _) 1)

theorem rootc_arg (a b : Int) (w : World) (ha : I64 a) (hb : I64 b) (h : validR a b = false) :
    Calls Tryd.prog 34 #[.agg #[.int .i64 a, .int .i64 b]] w (Ret (rootZ a b) w) := by
  obtain ⟨a1, a2⟩ := ha
  obtain ⟨b1, b2⟩ := hb
  have fin := Lib.hid (root_arg h)
  go_enter Tryd.func34, Tryd.ntmps34
  go_wp2_with fail
  refine (valid_any a b _ (by omega) (by omega) (by omega) (by omega)).mono ?_
  rintro e w1 ⟨rfl, hb1⟩
  obtain ⟨hc1, hf1⟩ := bcell hb1
  obtain ⟨hz1, hz2⟩ := size_alloc2 hb1
  have hB := Lib.hid (below_alloc2 hb1)
  clear hb1
  go_wp2
  exact bodyPost_ret (v := .tuple #[.agg #[.int .i64 0, .int .i64 0], .int .i64 1]) (by simp [results, Tryd.results34, go_sem, hc1]) rfl (ret_of fin.out (below_set1 hB.out))
theorem refroot_arg (a b : Int) (w : World) (ha : I64 a) (hb : I64 b) (h : validR a b = false) :
    Calls Tryd.prog 35 #[.agg #[.int .i64 a, .int .i64 b]] w (Ret (rootZ a b) w) := by
  obtain ⟨a1, a2⟩ := ha
  obtain ⟨b1, b2⟩ := hb
  have fin := Lib.hid (root_arg h)
  go_enter Tryd.func35, Tryd.ntmps35
  go_wp2_with fail
  refine (refvalid_any a b _ (by omega) (by omega) (by omega) (by omega)).mono ?_
  rintro e w1 ⟨rfl, hb1⟩
  obtain ⟨hc1, hf1⟩ := bcell hb1
  obtain ⟨hz1, hz2⟩ := size_alloc2 hb1
  have hB := Lib.hid (below_alloc2 hb1)
  clear hb1
  go_wp2
  exact bodyPost_ret (v := .tuple #[.agg #[.int .i64 0, .int .i64 0], .int .i64 1]) (by simp [results, Tryd.results35, go_sem, hc1]) rfl (ret_of fin.out (below_set1 hB.out))

set_option maxHeartbeats 1000000 in
theorem rootc_ok (a b : Int) (w : World) (h : validR a b = true) :
    Calls Tryd.prog 34 #[.agg #[.int .i64 a, .int .i64 b]] w (Ret (rootZ a b) w) := by
  obtain ⟨a1, a2, a3, a4, _⟩ := valid_parts h
  obtain ⟨p, hp⟩ : ∃ p, sqN a = p := ⟨_, rfl⟩
  obtain ⟨q, hq⟩ : ∃ q, sqN b = q := ⟨_, rfl⟩
  have lp : p ≤ 65536 := hp ▸ sqN_le a
  have lq : q ≤ 65536 := hq ▸ sqN_le b
  obtain ⟨p1, p2⟩ := sq_bd p lp
  obtain ⟨q1, q2⟩ := sq_bd q lq
  have HP := Lib.hid hp
  have HQ := Lib.hid hq
  clear hp hq
  obtain ⟨r, hr⟩ : ∃ r, rootZ a b = r := ⟨_, rfl⟩
  have hways : (((p : Int) * p != a) = true ∧ r = (0, 0, 2)) ∨ (((p : Int) * p != a) = false ∧ ((q : Int) * q != b) = true ∧ r = (0, 0, 2)) ∨ (((p : Int) * p != a) = false ∧ ((q : Int) * q != b) = false ∧ r = ((p : Int), (q : Int), 0)) := by
    by_cases e1 : (p : Int) * p = a
    · by_cases e2 : (q : Int) * q = b
      · exact .inr (.inr ⟨by simp [e1], by simp [e2], by rw [← hr, root_yes h HP.out HQ.out e1 e2]⟩)
      · exact .inr (.inl ⟨by simp [e1], by simp [e2], by rw [← hr, root_no h HP.out HQ.out (.inr e2)]⟩)
    · exact .inl ⟨by simp [e1], by rw [← hr, root_no h HP.out HQ.out (.inl e1)]⟩
  have HW := Lib.hid hways
  rw [hr]
  clear hr hways
  go_enter Tryd.func34, Tryd.ntmps34
  go_wp2_with fail
  refine (valid_any a b _ (by omega) (by omega) (by omega) (by omega)).mono ?_
  rintro e w1 ⟨rfl, hb1⟩
  obtain ⟨hc1, hf1⟩ := bcell hb1
  obtain ⟨hz1, hz2⟩ := size_alloc2 hb1
  have hB := Lib.hid (below_alloc2 hb1)
  have hS : Since w1 w1 := ⟨Below.refl _ _⟩
  have k0 : w1.cell? ⟨w.heap.size, 0, none⟩ = some (.int .i64 a) := by rw [hc1 _ _ (by simp; omega)]; simp
  have k1 : w1.cell? ⟨w.heap.size, 1, none⟩ = some (.int .i64 b) := by rw [hc1 _ _ (by simp; omega)]; simp
  have z0 : w1.cell? ⟨w.heap.size + 1, 0, none⟩ = some (.int .i64 0) := by rw [hc1 _ _ (by simp)]; simp
  have z1 : w1.cell? ⟨w.heap.size + 1, 1, none⟩ = some (.int .i64 0) := by rw [hc1 _ _ (by simp)]; simp
  have f0 : w1.frozen? ⟨w.heap.size + 1, 0, none⟩ = false := by rw [hf1 _ _ (by simp)]; simp
  have f1 : w1.frozen? ⟨w.heap.size + 1, 1, none⟩ = false := by rw [hf1 _ _ (by simp)]; simp
  clear hb1 hc1 hf1
  go_wp2_with fail
  go_region_held3 (fun w' => w'.cell? ⟨w.heap.size, 0, none⟩ = some (.int .i64 a) ∧ w'.cell? ⟨w.heap.size, 1, none⟩ = some (.int .i64 b) ∧ Since w1 w')
    (first
      | (refine ⟨?_, ?_, Since.drew (by assumption)⟩
         · go_keep
         · go_keep)
      | (go_split_ands
         refine ⟨?_, ?_, ?_⟩
         · (rw [hbx.cell (World.block_lt_of_cell? _ _ (by assumption))]; assumption)
         · (rw [hbx.cell (World.block_lt_of_cell? _ _ (by assumption))]; assumption)
         · exact Since.go (by assumption) hbx)
      | (go_keep; done))
    (first
      | (go_at_call_of 57 (Value.int .i64 a); refine (rootabove_at HP _).mono ?_; rintro e w' ⟨rfl, hbx⟩)
      | (go_at_call_of 57 (Value.int .i64 b); refine (rootabove_at HQ _).mono ?_; rintro e w' ⟨rfl, hbx⟩))
  all_goals
    go_split_ands
    have hS2 := (by assumption : Since w1 w').below
    have y0 := (hS2.cell (p := ⟨w.heap.size + 1, 0, none⟩) hz2).trans z0
    have y1 := (hS2.cell (p := ⟨w.heap.size + 1, 1, none⟩) hz2).trans z1
    have g0 := (hS2.frozen (p := ⟨w.heap.size + 1, 0, none⟩) hz2).trans f0
    have g1 := (hS2.frozen (p := ⟨w.heap.size + 1, 1, none⟩) hz2).trans f1
    have hB2 := Lib.hid (hB.out.trans (hS2.mono hB.out.size))
    clear hS2 hbx
    rcases HW.out with ⟨e1, hr⟩ | ⟨e1, e2, hr⟩ | ⟨e1, e2, hr⟩
    · have fin := Lib.hid hr
      clear hr
      go_wp2
      exact bodyPost_ret (v := .tuple #[.agg #[.int .i64 0, .int .i64 0], .int .i64 2]) (by simp [results, Tryd.results34, go_sem, *]) rfl (ret_of fin.out (below_set1 hB2.out))
    · have fin := Lib.hid hr
      clear hr
      go_wp2
      exact bodyPost_ret (v := .tuple #[.agg #[.int .i64 0, .int .i64 0], .int .i64 2]) (by simp [results, Tryd.results34, go_sem, *]) rfl (ret_of fin.out (below_set1 hB2.out))
    · have fin := Lib.hid hr
      clear hr
      go_wp2
      exact bodyPost_ret (v := .tuple #[.agg #[.int .i64 p, .int .i64 q], .int .i64 0]) (by simp [results, Tryd.results34, go_sem, *]) rfl (ret_of fin.out (below_set1 hB2.out))
/-- rational.Root -/
theorem root_any (a b : Int) (w : World) (ha : I64 a) (hb : I64 b) :
    Calls Tryd.prog 34 #[.agg #[.int .i64 a, .int .i64 b]] w (Ret (rootZ a b) w) := by
  cases h : validR a b
  · exact rootc_arg a b w ha hb h
  · exact rootc_ok a b w h

set_option maxRecDepth 100000 in
set_option maxHeartbeats 1000000 in
theorem refroot_ok (a b : Int) (w : World) (h : validR a b = true) :
    Calls Tryd.prog 35 #[.agg #[.int .i64 a, .int .i64 b]] w (Ret (rootZ a b) w) := by
  obtain ⟨a1, a2, a3, a4, _⟩ := valid_parts h
  obtain ⟨p, hp⟩ : ∃ p, sqN a = p := ⟨_, rfl⟩
  obtain ⟨q, hq⟩ : ∃ q, sqN b = q := ⟨_, rfl⟩
  have lp : p ≤ 65536 := hp ▸ sqN_le a
  have lq : q ≤ 65536 := hq ▸ sqN_le b
  obtain ⟨p1, p2⟩ := sq_bd p lp
  obtain ⟨q1, q2⟩ := sq_bd q lq
  have HP := Lib.hid hp
  have HQ := Lib.hid hq
  clear hp hq
  obtain ⟨r, hr⟩ : ∃ r, rootZ a b = r := ⟨_, rfl⟩
  have hways : (a < 0 ∧ r = (0, 0, 2)) ∨ (0 ≤ a ∧ ((p : Int) * p == a) = false ∧ r = (0, 0, 2)) ∨ (0 ≤ a ∧ ((p : Int) * p == a) = true ∧ ((q : Int) * q == b) = false ∧ r = (0, 0, 2)) ∨ (0 ≤ a ∧ ((p : Int) * p == a) = true ∧ ((q : Int) * q == b) = true ∧ r = ((p : Int), (q : Int), 0)) := by
    by_cases e0 : a < 0
    · exact .inl ⟨e0, by rw [← hr, root_no h HP.out HQ.out (.inl (by omega))]⟩
    · by_cases e1 : (p : Int) * p = a
      · by_cases e2 : (q : Int) * q = b
        · exact .inr (.inr (.inr ⟨by omega, by simp [e1], by simp [e2], by rw [← hr, root_yes h HP.out HQ.out e1 e2]⟩))
        · exact .inr (.inr (.inl ⟨by omega, by simp [e1], by simp [e2], by rw [← hr, root_no h HP.out HQ.out (.inr e2)]⟩))
      · exact .inr (.inl ⟨by omega, by simp [e1], by rw [← hr, root_no h HP.out HQ.out (.inl e1)]⟩)
  have HW := Lib.hid hways
  rw [hr]
  clear hr hways
  have hc1 : Hid (((p : Int) * p == a) = ((p : Int) * p == a)) := Lib.hid rfl
  have hc2 : Hid (((q : Int) * q == b) = ((q : Int) * q == b)) := Lib.hid rfl
  obtain ⟨c1, C1⟩ : ∃ c : Bool, Hid (((p : Int) * p == a) = c) := ⟨_, hc1⟩
  obtain ⟨c2, C2⟩ : ∃ c : Bool, Hid (((q : Int) * q == b) = c) := ⟨_, hc2⟩
  have HV : (a < 0 ∧ r = (0, 0, 2)) ∨ (0 ≤ a ∧ c1 = false ∧ r = (0, 0, 2)) ∨ (0 ≤ a ∧ c1 = true ∧ c2 = false ∧ r = (0, 0, 2)) ∨ (0 ≤ a ∧ c1 = true ∧ c2 = true ∧ r = ((p : Int), (q : Int), 0)) := by
    have h := HW.out
    rw [C1.out, C2.out] at h
    exact h
  clear hc1 hc2 HW p1 p2 q1 q2 lp lq
  rcases HV with ⟨e0, hr⟩ | ⟨e0, rfl, hr⟩ | ⟨e0, rfl, rfl, hr⟩ | ⟨e0, rfl, rfl, hr⟩
  all_goals
    have fin := Lib.hid hr
    clear hr
    go_enter Tryd.func35, Tryd.ntmps35
    go_wp2_with fail
    refine (refvalid_any a b _ (by omega) (by omega) (by omega) (by omega)).mono ?_
    rintro e w1 ⟨rfl, hb1⟩
    obtain ⟨hc1, hf1⟩ := bcell hb1
    obtain ⟨hz1, hz2⟩ := size_alloc2 hb1
    have hB := Lib.hid (below_alloc2 hb1)
    clear hb1
    go_wp2_with fail
    refine (whole_is HP C1 _).mono ?_
    rintro e w2 ⟨rfl, rfl⟩
    go_wp2_with fail
    refine (whole_is HQ C2 _).mono ?_
    rintro e w2 ⟨rfl, rfl⟩
    go_wp2
    first
      | exact bodyPost_ret (v := .tuple #[.agg #[.int .i64 0, .int .i64 0], .int .i64 2]) (by simp [results, Tryd.results35, go_sem, hc1]) rfl (ret_of fin.out (below_set1 hB.out))
      | exact bodyPost_ret (v := .tuple #[.agg #[.int .i64 p, .int .i64 q], .int .i64 0]) (by simp [results, Tryd.results35, go_sem, hc1]) rfl (ret_of fin.out (below_set1 hB.out))
/-- the reference's Root -/
theorem refroot_any (a b : Int) (w : World) (ha : I64 a) (hb : I64 b) :
    Calls Tryd.prog 35 #[.agg #[.int .i64 a, .int .i64 b]] w (Ret (rootZ a b) w) := by
  cases h : validR a b
  · exact refroot_arg a b w ha hb h
  · exact refroot_ok a b w h
end Go.Proofs.YtimkgbjgdelkeaaDoor.RatM
