/- The program's package font: slices.IndexFunc and ContainsFunc over integers, allWithin. -/
import Derived.Test.YtjhpajdkklklhaaFntName
import Derived.Lib.Walk
import Derived.Shelf.Abstract
namespace Go.Proofs.Ytjhpajdkklklhaa.Fon
open Go Go.RowKit By

/-- the place of the first element of this kind, or -1 -/
def idxOf {α : Type} (f : α → Bool) (l : List α) : Int := match l.findIdx? f with
  | some i => (i : Int)
  | none => -1
theorem idx_hit {α : Type} {f : α → Bool} {l : List α} {k : Nat} (hk : k < l.length) (h : f l[k] = true) (h0 : ∀ j (hj : j < l.length), j < k → f l[j] = false) : idxOf f l = (k : Int) := by
  unfold idxOf
  rw [show l.findIdx? f = some k from List.findIdx?_eq_some_iff_getElem.2 ⟨hk, h, fun j hj => by rw [h0 j (by omega) hj]; decide⟩]
theorem idx_miss {α : Type} {f : α → Bool} {l : List α} (h0 : ∀ j (hj : j < l.length), f l[j] = false) : idxOf f l = -1 := by
  unfold idxOf
  rw [show l.findIdx? f = none from List.findIdx?_eq_none_iff.2 fun x hx => by
    obtain ⟨j, hj, rfl⟩ := List.getElem_of_mem hx
    exact h0 j hj]
theorem idx_any {α : Type} {f : α → Bool} {l : List α} : decide (0 ≤ idxOf f l) = l.any f := by
  unfold idxOf
  cases h : l.findIdx? f with
  | none =>
    have h2 : l.any f = false := by
      rw [List.any_eq_false]
      intro x hx
      rw [List.findIdx?_eq_none_iff.1 h x hx]; decide
    rw [h2]; decide
  | some i =>
    obtain ⟨hi, h1, _⟩ := List.findIdx?_eq_some_iff_getElem.1 h
    have h2 : l.any f = true := List.any_eq_true.2 ⟨l[i], List.getElem_mem hi, h1⟩
    rw [h2]
    exact decide_eq_true (by show (0 : Int) ≤ (i : Int); omega)
theorem idx_lt {α : Type} {f : α → Bool} {l : List α} : idxOf f l < (l.length : Int) ∧ -1 ≤ idxOf f l := by
  unfold idxOf
  cases h : l.findIdx? f with
  | none => exact ⟨by show (-1 : Int) < (l.length : Int); omega, by decide⟩
  | some i =>
    obtain ⟨hi, _⟩ := List.findIdx?_eq_some_iff_getElem.1 h
    exact ⟨by show (i : Int) < (l.length : Int); omega, by show (-1 : Int) ≤ (i : Int); omega⟩
set_option maxRecDepth 100000 in
set_option maxHeartbeats 1000000 in
theorem idxint_any {b n c X Y : Nat} {m : List Int} {a z : Int} (w : World) (hn : n = m.length) (hl : m.length ≤ 100) (hc : ∀ k (h : k < m.length), w.cell? ⟨b, k, none⟩ = some (.int .i64 m[k]))
    (ha : w.cell? ⟨X, 0, none⟩ = some (.int .i64 a)) (hb : w.cell? ⟨Y, 0, none⟩ = some (.int .i64 z)) :
    Calls Try.prog 57 #[.slice (some ⟨b, 0, none⟩) n c, .func (.func 55) #[] #[.pointer (some ⟨X, 0, none⟩), .pointer (some ⟨Y, 0, none⟩)]] w
      fun e w' => e = .returned (.int .i64 (idxOf (fun x => !within x a z) m)) ∧ w' = w := by
  obtain ⟨R, hR⟩ : ∃ R, idxOf (fun x => !within x a z) m = R := ⟨_, rfl⟩
  have HR := Lib.hid hR
  rw [hR]
  have HN := Lib.hid hn
  have HC := Lib.hid hc
  have HO : Hid (∀ x, Calls Try.prog 55 #[.int .i64 x, .pointer (some ⟨X, 0, none⟩), .pointer (some ⟨Y, 0, none⟩)] w fun e w' => e = .returned (.bool (!within x a z)) ∧ w' = w) := Lib.hid fun x => out_any x a z X Y w ha hb
  have eg : ∀ args w, (callFunc 55 args).run Try.prog w = .ok (.enter 55 args) w := enters_of Try.func55 (by kernel_rfl) rfl
  have hn1 : (n : Int) ≤ 100 := by omega
  have H0 : Hid (∀ j (hj : j < m.length), j < 0 → (!within m[j] a z) = false) := Lib.hid fun j _ h => by omega
  clear hR hn hl hc ha hb
  go_enter Try.func57, Try.ntmps57
  go_wp2
  go_loop [8] (fun i => ∃ k : Nat, k ≤ n ∧ i = .int .i64 k ∧ Hid (∀ j (hj : j < m.length), j < k → (!within m[j] a z) = false)) (fun i => n - (intOf i).toNat)
  case atStart => exact ⟨0, Nat.zero_le _, rfl, H0⟩
  case round =>
    obtain ⟨k, hk, rfl, HK⟩ := hrel
    by_cases hlt : k < n
    · have hkl : k < m.length := by rw [← HN.out]; exact hlt
      have hck := HC.out k hkl
      obtain ⟨x, hx⟩ : ∃ x, m[k] = x := ⟨_, rfl⟩
      rw [hx] at hck
      have HO1 := HO.out x
      cases hv : !within x a z with
      | true =>
        rw [hv] at HO1
        have HX : Hid (R = (k : Int)) := Lib.hid (HR.out ▸ idx_hit hkl (by rw [hx]; exact hv) HK.out)
        have HO2 := Lib.hid HO1
        clear hx hv HO1
        go_wp2_with (first | (go_at_call 55; refine HO2.out.mono ?_; rintro e w' ⟨rfl, rfl⟩) | fail)
        go_ret
        exact ⟨ret_int HX.out.symm, rfl⟩
      | false =>
        rw [hv] at HO1
        have HX : Hid (∀ j (hj : j < m.length), j < k + 1 → (!within m[j] a z) = false) := Lib.hid fun j hj h => by
          rcases Nat.lt_succ_iff_lt_or_eq.1 h with h' | rfl
          · exact HK.out j hj h'
          · rw [hx]; exact hv
        have HO2 := Lib.hid HO1
        clear hx hv HO1
        go_wp2_with (first | (go_at_call 55; refine HO2.out.mono ?_; rintro e w' ⟨rfl, rfl⟩) | fail)
        go_round
        case rel => exact ⟨k + 1, by omega, by go_num, HX⟩
        case measure => simp [intOf]; omega
    · have HX : Hid (R = -1) := Lib.hid (HR.out ▸ idx_miss fun j hj => HK.out j hj (by have := HN.out; omega))
      go_wp2_with fail
      go_ret
      exact ⟨ret_int HX.out.symm, rfl⟩
theorem not_all {m : List Int} {a z : Int} : (m.any fun x => !within x a z) = !(m.all fun x => within x a z) := by
  induction m with
  | nil => rfl
  | cons x r ih => simp [ih, Bool.not_and]
theorem contains_any {b n c X Y : Nat} {m : List Int} {a z : Int} (w : World) (hn : n = m.length) (hl : m.length ≤ 100) (hc : ∀ k (h : k < m.length), w.cell? ⟨b, k, none⟩ = some (.int .i64 m[k]))
    (ha : w.cell? ⟨X, 0, none⟩ = some (.int .i64 a)) (hb : w.cell? ⟨Y, 0, none⟩ = some (.int .i64 z)) :
    Calls Try.prog 54 #[.slice (some ⟨b, 0, none⟩) n c, .func (.func 55) #[] #[.pointer (some ⟨X, 0, none⟩), .pointer (some ⟨Y, 0, none⟩)]] w
      fun e w' => e = .returned (.bool (!(m.all fun x => within x a z))) ∧ w' = w := by
  have HC := Lib.hid (idxint_any (c := c) w hn hl hc ha hb)
  have HE : Hid (decide (0 ≤ idxOf (fun x => !within x a z) m) = !(m.all fun x => within x a z)) := Lib.hid (idx_any.trans not_all)
  obtain ⟨R, hR⟩ : ∃ R, idxOf (fun x => !within x a z) m = R := ⟨_, rfl⟩
  rw [hR] at HC HE
  obtain ⟨B, hB⟩ : ∃ B, (!(m.all fun x => within x a z)) = B := ⟨_, rfl⟩
  rw [hB] at HE ⊢
  clear hR hB hn hl hc ha hb
  go_enter Try.func54, Try.ntmps54
  go_wp2_with (first | (go_at_call 57; refine HC.out.mono ?_; rintro e w' ⟨rfl, rfl⟩) | fail)
  go_ret
  exact ⟨ret_bool HE.out, rfl⟩
/-- allWithin -/
theorem within_all {b n c : Nat} {m : List Int} {a z : Int} (w : World) (hn : n = m.length) (hl : m.length ≤ 100) (hbk : b < w.heap.size) (hc : ∀ k (h : k < m.length), w.cell? ⟨b, k, none⟩ = some (.int .i64 m[k])) :
    Calls Try.prog 49 #[.int .i64 a, .int .i64 z, .slice (some ⟨b, 0, none⟩) n c] w fun e w' => e = .returned (.bool (m.all fun x => within x a z)) ∧ Below w.heap.size w w' := by
  obtain ⟨N, hN⟩ : ∃ N, w.heap.size = N := ⟨_, rfl⟩
  obtain ⟨Wa, hWa⟩ : ∃ W', W' = w.alloc (.cells #[.int .i64 a] 3) := ⟨_, rfl⟩
  obtain ⟨W1, hW1⟩ : ∃ W', W' = Wa.alloc (.cells #[.int .i64 z] 3) := ⟨_, rfl⟩
  have sa : Wa.heap.size = N + 1 := by rw [hWa]; exact size_new hN _
  have ba : Below w.heap.size w Wa := by rw [hWa]; exact below_new _ _
  have bb : Below Wa.heap.size Wa W1 := by rw [hW1]; exact below_new _ _
  have c0 := keep_cell bb (show Wa.cell? ⟨N, 0, none⟩ = some (.int .i64 a) by rw [hWa]; exact new_cell hN _ _ 0 rfl)
  have c1 : W1.cell? ⟨N + 1, 0, none⟩ = some (.int .i64 z) := by rw [hW1]; exact new_cell sa _ _ 0 rfl
  have HB := Lib.hid (below_self ba bb)
  have HC := Lib.hid (contains_any (c := c) W1 hn hl (fun k h => keep_cell (below_self ba bb) (hc k h)) c0 c1)
  have HW : Hid (W1 = (w.alloc (.cells #[.int .i64 a] 3)).alloc (.cells #[.int .i64 z] 3)) := Lib.hid (by rw [hW1, hWa])
  obtain ⟨B, hB⟩ : ∃ B, (m.all fun x => within x a z) = B := ⟨_, rfl⟩
  rw [hB] at HC ⊢
  clear c0 c1 sa ba bb hWa hW1 hB hn hl hc
  go_enter Try.func49, Try.ntmps49
  go_wp2_with (first
    | (go_at_call 54; rw [← HW.out]; refine HC.out.mono ?_; rintro e w' ⟨rfl, rfl⟩)
    | fail)
  go_ret
  exact ⟨rfl, hN ▸ HB.out⟩
end Go.Proofs.Ytjhpajdkklklhaa.Fon
