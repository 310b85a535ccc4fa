/- Contracts of Sum and Add of package length and of the reference's: the specified sum or error of a list of integers in memory. -/
import Derived.Test.YtokdeeplblaieaaDoorLenCalls
namespace Go.Proofs.YtokdeeplblaieaaDoor.Len
open Go Go.RowKit

/-- The slice lies in memory as these integers. -/
def IntsAt (w : World) (A : Option Addr) (zs : List Int) : Prop := zs = [] ∨ ∃ b off, A = some ⟨b, off, none⟩ ∧ ∀ j, j < zs.length → w.cell? ⟨b, off + j, none⟩ = some (.int .i64 (zs.getD j 0))

def runSum : Int → List Int → Option Int
  | s, [] => some s
  | s, z :: zs => if validZ (s + z) = true then runSum (s + z) zs else none
/-- What the sum of a list is, with the error's number. -/
def sumSpec (zs : List Int) : Int × Int := if zs.all validZ = true then (match runSum 0 zs with | some s => (s, 0) | none => (0, 2)) else (0, 1)

theorem run_drop {zs : List Int} {k : Nat} (hk : k < zs.length) (s : Int) : runSum s (zs.drop k) = if validZ (s + zs[k]) = true then runSum (s + zs[k]) (zs.drop (k + 1)) else none := by
  rw [List.drop_eq_getElem_cons hk, runSum]
theorem all_take {zs : List Int} {k : Nat} (hk : k < zs.length) (h : (zs.take k).all validZ = true) (hz : validZ zs[k] = true) : (zs.take (k + 1)).all validZ = true := by
  rw [List.take_succ_eq_append_getElem hk, List.all_append, h]
  simpa using hz
theorem not_all {zs : List Int} {k : Nat} (hk : k < zs.length) (hz : validZ zs[k] = false) : zs.all validZ = false :=
  List.all_eq_false.2 ⟨zs[k], List.getElem_mem hk, by simpa using hz⟩
theorem all_get {zs : List Int} {k : Nat} (hk : k < zs.length) (h : zs.all validZ = true) : validZ zs[k] = true := List.all_eq_true.1 h _ (List.getElem_mem hk)

theorem ret_pair {x : Int × Int} {a b : Int} (h : x = (a, b)) : Ending.returned (.tuple #[.int .i64 a, .int .i64 b]) = .returned (.tuple #[.int .i64 x.1, .int .i64 x.2]) := by cases h; rfl

theorem sum_cells (b off c : Nat) (zs : List Int) (w : World) (hlen : zs.length ≤ 4611686018427387904) (hc : ∀ j, j < zs.length → w.cell? ⟨b, off + j, none⟩ = some (.int .i64 (zs.getD j 0))) :
    Calls Tryd.prog 19 #[.slice (some ⟨b, off, none⟩) zs.length c] w fun e w' => e = .returned (.tuple #[.int .i64 (sumSpec zs).1, .int .i64 (sumSpec zs).2]) ∧ w' = w := by
  have HC : Hid (∀ j (h : j < zs.length), w.cell? ⟨b, off + j, none⟩ = some (.int .i64 zs[j])) := Lib.hid fun j h => by rw [hc j h, List.getD, List.getElem?_eq_getElem h]; rfl
  clear hc
  go_enter Tryd.func19, Tryd.ntmps19
  go_wp2
  go_loop [11] (fun i => ∃ k : Nat, k ≤ zs.length ∧ i = .int .i64 k ∧ (zs.take k).all validZ = true) (fun i => zs.length - (intOf i).toNat)
  case atStart => exact ⟨0, Nat.zero_le _, rfl, rfl⟩
  case round =>
    obtain ⟨k, hk, rfl, hall⟩ := hrel
    have HA := Lib.hid hall
    clear hall
    by_cases hlt : k < zs.length
    · have hcell := HC.out k hlt
      cases hv : validZ zs[k] with
      | false =>
        have fin : Hid (sumSpec zs = (0, 1)) := Lib.hid (by rw [sumSpec, not_all hlt hv, if_neg (by simp)])
        go_wp2_with (go_at_call 11; refine (valid_any _ _).mono ?_; rintro e w' ⟨rfl, rfl⟩)
        go_ret2
        exact ⟨ret_pair fin.out, rfl⟩
      | true =>
        have nxt := Lib.hid (all_take hlt HA.out hv)
        go_wp2_with (go_at_call 11; refine (valid_any _ _).mono ?_; rintro e w' ⟨rfl, rfl⟩)
        go_round
        case rel => exact ⟨k + 1, by omega, by go_num, nxt.out⟩
        case measure => simp [intOf]; omega
    · have hall : Hid (zs.all validZ = true) := Lib.hid (by have := HA.out; rwa [List.take_of_length_le (by omega)] at this)
      clear HA
      go_wp2
      go_loop [6, 21] (fun s i => ∃ (k : Nat) (t : Int), k ≤ zs.length ∧ i = .int .i64 k ∧ s = .int .i64 t ∧ -1073741824 ≤ t ∧ t ≤ 1073741824 ∧ runSum 0 zs = runSum t (zs.drop k)) (fun _ i => zs.length - (intOf i).toNat)
      case atStart => exact ⟨0, 0, Nat.zero_le _, rfl, rfl, by omega, by omega, rfl⟩
      case round =>
        obtain ⟨k, t, hk, rfl, rfl, ht1, ht2, hrun⟩ := hrel
        have HR := Lib.hid hrun
        clear hrun
        by_cases hlt : k < zs.length
        · have hcell := HC.out k hlt
          have hz := all_get hlt hall.out
          obtain ⟨hz1, hz2⟩ := valid_bd hz
          cases hv : validZ (t + zs[k]) with
          | false =>
            have fin : Hid (sumSpec zs = (0, 2)) := Lib.hid (by rw [sumSpec, if_pos hall.out, HR.out, run_drop hlt, hv]; rfl)
            go_wp2_with (go_at_call 11; refine (valid_any _ _).mono ?_; rintro e w' ⟨rfl, rfl⟩)
            go_ret2
            exact ⟨ret_pair fin.out, rfl⟩
          | true =>
            have nxt : Hid (runSum 0 zs = runSum (t + zs[k]) (zs.drop (k + 1))) := Lib.hid (by rw [HR.out, run_drop hlt, if_pos hv])
            obtain ⟨hs1, hs2⟩ := valid_bd hv
            go_wp2_with (go_at_call 11; refine (valid_any _ _).mono ?_; rintro e w' ⟨rfl, rfl⟩)
            go_round
            case rel => exact ⟨k + 1, _, by omega, by go_num, rfl, hs1, hs2, nxt.out⟩
            case measure => simp [intOf]; omega
        · have fin : Hid (sumSpec zs = (t, 0)) := Lib.hid (by rw [sumSpec, if_pos hall.out, HR.out, List.drop_eq_nil_of_le (by omega), runSum])
          go_wp2
          go_ret2
          exact ⟨ret_pair fin.out, rfl⟩
theorem refsum_cells (b off c : Nat) (zs : List Int) (w : World) (hlen : zs.length ≤ 4611686018427387904) (hc : ∀ j, j < zs.length → w.cell? ⟨b, off + j, none⟩ = some (.int .i64 (zs.getD j 0))) :
    Calls Tryd.prog 20 #[.slice (some ⟨b, off, none⟩) zs.length c] w fun e w' => e = .returned (.tuple #[.int .i64 (sumSpec zs).1, .int .i64 (sumSpec zs).2]) ∧ w' = w := by
  have HC : Hid (∀ j (h : j < zs.length), w.cell? ⟨b, off + j, none⟩ = some (.int .i64 zs[j])) := Lib.hid fun j h => by rw [hc j h, List.getD, List.getElem?_eq_getElem h]; rfl
  clear hc
  go_enter Tryd.func20, Tryd.ntmps20
  go_wp2
  go_loop [4] (fun i => ∃ k : Nat, k ≤ zs.length ∧ i = .int .i64 k ∧ (zs.take k).all validZ = true) (fun i => zs.length - (intOf i).toNat)
  case atStart => exact ⟨0, Nat.zero_le _, rfl, rfl⟩
  case round =>
    obtain ⟨k, hk, rfl, hall⟩ := hrel
    have HA := Lib.hid hall
    clear hall
    by_cases hlt : k < zs.length
    · have hcell := HC.out k hlt
      cases hv : validZ zs[k] with
      | false =>
        have fin : Hid (sumSpec zs = (0, 1)) := Lib.hid (by rw [sumSpec, not_all hlt hv, if_neg (by simp)])
        go_wp2_with (go_at_call 12; refine (refvalid_any _ _).mono ?_; rintro e w' ⟨rfl, rfl⟩)
        go_ret2
        exact ⟨ret_pair fin.out, rfl⟩
      | true =>
        have nxt := Lib.hid (all_take hlt HA.out hv)
        go_wp2_with (go_at_call 12; refine (refvalid_any _ _).mono ?_; rintro e w' ⟨rfl, rfl⟩)
        go_round
        case rel => exact ⟨k + 1, by omega, by go_num, nxt.out⟩
        case measure => simp [intOf]; omega
    · have hall : Hid (zs.all validZ = true) := Lib.hid (by have := HA.out; rwa [List.take_of_length_le (by omega)] at this)
      clear HA
      go_wp2
      go_loop [5, 6] (fun s i => ∃ (k : Nat) (t : Int), k ≤ zs.length ∧ i = .int .i64 k ∧ s = .int .i64 t ∧ -1073741824 ≤ t ∧ t ≤ 1073741824 ∧ runSum 0 zs = runSum t (zs.drop k)) (fun _ i => zs.length - (intOf i).toNat)
      case atStart => exact ⟨0, 0, Nat.zero_le _, rfl, rfl, by omega, by omega, rfl⟩
      case round =>
        obtain ⟨k, t, hk, rfl, rfl, ht1, ht2, hrun⟩ := hrel
        have HR := Lib.hid hrun
        clear hrun
        by_cases hlt : k < zs.length
        · have hcell := HC.out k hlt
          have hz := all_get hlt hall.out
          obtain ⟨hz1, hz2⟩ := valid_bd hz
          cases hv : validZ (t + zs[k]) with
          | false =>
            have fin : Hid (sumSpec zs = (0, 2)) := Lib.hid (by rw [sumSpec, if_pos hall.out, HR.out, run_drop hlt, hv]; rfl)
            go_wp2_with (go_at_call 12; refine (refvalid_any _ _).mono ?_; rintro e w' ⟨rfl, rfl⟩)
            go_ret2
            exact ⟨ret_pair fin.out, rfl⟩
          | true =>
            have nxt : Hid (runSum 0 zs = runSum (t + zs[k]) (zs.drop (k + 1))) := Lib.hid (by rw [HR.out, run_drop hlt, if_pos hv])
            obtain ⟨hs1, hs2⟩ := valid_bd hv
            go_wp2_with (go_at_call 12; refine (refvalid_any _ _).mono ?_; rintro e w' ⟨rfl, rfl⟩)
            go_round
            case rel => exact ⟨k + 1, _, by omega, by go_num, rfl, hs1, hs2, nxt.out⟩
            case measure => simp [intOf]; omega
        · have fin : Hid (sumSpec zs = (t, 0)) := Lib.hid (by rw [sumSpec, if_pos hall.out, HR.out, List.drop_eq_nil_of_le (by omega), runSum])
          go_wp2
          go_ret2
          exact ⟨ret_pair fin.out, rfl⟩

theorem sum_empty (A : Option Addr) (c : Nat) (w : World) :
    Calls Tryd.prog 19 #[.slice A 0 c] w fun e w' => e = .returned (.tuple #[.int .i64 0, .int .i64 0]) ∧ w' = w := by
  go_enter Tryd.func19, Tryd.ntmps19
  go_wp2
  go_loop [11] (fun i => i = .int .i64 0) (fun _ => 0)
  case atStart => rfl
  case round =>
    obtain rfl := hrel
    go_wp2
    go_loop [6, 21] (fun s i => s = .int .i64 0 ∧ i = .int .i64 0) (fun _ _ => 0)
    case atStart => exact ⟨rfl, rfl⟩
    case round =>
      obtain ⟨rfl, rfl⟩ := hrel
      go_wp2
      go_ret2
      exact ⟨rfl, rfl⟩
theorem refsum_empty (A : Option Addr) (c : Nat) (w : World) :
    Calls Tryd.prog 20 #[.slice A 0 c] w fun e w' => e = .returned (.tuple #[.int .i64 0, .int .i64 0]) ∧ w' = w := by
  go_enter Tryd.func20, Tryd.ntmps20
  go_wp2
  go_loop [4] (fun i => i = .int .i64 0) (fun _ => 0)
  case atStart => rfl
  case round =>
    obtain rfl := hrel
    go_wp2
    go_loop [5, 6] (fun s i => s = .int .i64 0 ∧ i = .int .i64 0) (fun _ _ => 0)
    case atStart => exact ⟨rfl, rfl⟩
    case round =>
      obtain ⟨rfl, rfl⟩ := hrel
      go_wp2
      go_ret2
      exact ⟨rfl, rfl⟩

/-- Sum, whatever the slice. -/
theorem sum_any (A : Option Addr) (n c : Nat) (zs : List Int) (w : World) (hn : n = zs.length) (hlen : zs.length ≤ 4611686018427387904) (h : IntsAt w A zs) :
    Calls Tryd.prog 19 #[.slice A n c] w fun e w' => e = .returned (.tuple #[.int .i64 (sumSpec zs).1, .int .i64 (sumSpec zs).2]) ∧ w' = w := by
  subst hn
  rcases h with rfl | ⟨b, off, rfl, hc⟩
  · exact sum_empty A c w
  · exact sum_cells b off c zs w hlen hc
theorem refsum_any (A : Option Addr) (n c : Nat) (zs : List Int) (w : World) (hn : n = zs.length) (hlen : zs.length ≤ 4611686018427387904) (h : IntsAt w A zs) :
    Calls Tryd.prog 20 #[.slice A n c] w fun e w' => e = .returned (.tuple #[.int .i64 (sumSpec zs).1, .int .i64 (sumSpec zs).2]) ∧ w' = w := by
  subst hn
  rcases h with rfl | ⟨b, off, rfl, hc⟩
  · exact refsum_empty A c w
  · exact refsum_cells b off c zs w hlen hc

theorem pair_at (w : World) (a b : Int) (T : TypeId) : IntsAt (w.alloc (.cells #[.int .i64 a, .int .i64 b] T)) (some ⟨w.heap.size, 0, none⟩) [a, b] := by
  refine .inr ⟨_, _, rfl, fun j hj => ?_⟩
  match j, hj with
  | 0, _ => simp
  | 1, _ => simp

/-- Add: the sum of the list of the two. -/
theorem add_any (a b : Int) (w : World) :
    Calls Tryd.prog 21 #[.int .i64 a, .int .i64 b] w fun e w' => e = .returned (.tuple #[.int .i64 (sumSpec [a, b]).1, .int .i64 (sumSpec [a, b]).2]) ∧ Below w.heap.size w w' := by
  go_enter Tryd.func21, Tryd.ntmps21
  go_wp2_with fail
  refine (sum_any _ _ _ [a, b] _ rfl (by simp) (pair_at _ _ _ _)).mono ?_
  rintro e w1 ⟨rfl, rfl⟩
  go_wp2_with fail
  go_ret2
  exact ⟨rfl, (Below.refl _ _).alloc (Nat.le_refl _) _⟩
theorem refadd_any (a b : Int) (w : World) :
    Calls Tryd.prog 22 #[.int .i64 a, .int .i64 b] w fun e w' => e = .returned (.tuple #[.int .i64 (sumSpec [a, b]).1, .int .i64 (sumSpec [a, b]).2]) ∧ Below w.heap.size w w' := by
  go_enter Tryd.func22, Tryd.ntmps22
  go_wp2_with fail
  refine (refsum_any _ _ _ [a, b] _ rfl (by simp) (pair_at _ _ _ _)).mono ?_
  rintro e w1 ⟨rfl, rfl⟩
  go_wp2_with fail
  go_ret2
  exact ⟨rfl, (Below.refl _ _).alloc (Nat.le_refl _) _⟩
end Go.Proofs.YtokdeeplblaieaaDoor.Len
