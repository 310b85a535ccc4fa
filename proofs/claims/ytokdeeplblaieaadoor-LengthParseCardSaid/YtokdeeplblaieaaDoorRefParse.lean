/- The contract of the reference's Parse: one theorem for each way through it. -/
import Derived.Test.YtokdeeplblaieaaDoorRefText
namespace Go.Proofs.YtokdeeplblaieaaDoor.Len
open Go Go.RowKit

/-- What a run that ends with these two numbers leaves. -/
def Ends (p : Int × Int) (w : World) (e : Ending) (w' : World) : Prop := e = .returned (.tuple #[.int .i64 p.1, .int .i64 p.2]) ∧ Below w.heap.size w w'
theorem ends_of {p : Int × Int} {a b : Int} {w w' : World} (h : p = (a, b)) (hb : Below w.heap.size w w') : Ends p w (.returned (.tuple #[.int .i64 a, .int .i64 b])) w' := by subst h; exact ⟨rfl, hb⟩

/-- The sign, and what stands behind it. -/
structure Sg (s b : ByteArray) (neg : Bool) (hpos : 0 < s.size) : Prop where
  first : ((s[0].toNat : Int) == 45) = neg
  rest : (if neg = true then s.extract 1 s.size else s) = b
  small : s.size ≤ 40

set_option maxRecDepth 100000 in
set_option maxHeartbeats 1000000 in
theorem way_none {s b : ByteArray} {neg : Bool} {hpos : 0 < s.size} (hS : Sg s b neg hpos) (w : World) {r : Nat} (HR : Hid (runL b.data.toList = r)) (hr : r ≤ b.size) (hb : b.size ≤ 40) (h0 : r = 0) :
    Calls Tryd.prog 26 #[.string s] w (Ends (0, 3) w) := by
  cases neg with
  | false =>
    subst h0
    obtain rfl : s = b := hS.rest
    have h45 := hS.first
    have h40 := hS.small
    clear hS
    go_enter Tryd.func26, Tryd.ntmps26
    go_wp2_with fail
    refine (run_any _ _ (by omega)).mono ?_
    rintro e w1 ⟨rfl, rfl⟩
    rw [HR.out]
    go_wp2_with fail
    go_ret2
    exact ends_of rfl (Below.refl _ _)
  | true =>
    subst h0
    have e1 : s.extract 1 s.size = b := hS.rest
    have h45 := hS.first
    have h40 := hS.small
    clear hS
    go_enter Tryd.func26, Tryd.ntmps26
    go_wp2_with fail
    refine (run_any _ _ (by omega)).mono ?_
    rintro e w1 ⟨rfl, rfl⟩
    rw [HR.out]
    go_wp2_with fail
    go_ret2
    exact ends_of rfl (Below.refl _ _)

set_option maxRecDepth 100000 in
set_option maxHeartbeats 1000000 in
theorem way_lead {s b : ByteArray} {neg : Bool} {hpos : 0 < s.size} (hS : Sg s b neg hpos) (w : World) {r : Nat} (HR : Hid (runL b.data.toList = r)) (hr : r ≤ b.size) (hb : b.size ≤ 40) (h1 : 1 < r) (h48 : (((b[0]'(by omega)).toNat : Int) == 48) = true) :
    Calls Tryd.prog 26 #[.string s] w (Ends (0, 3) w) := by
  cases neg with
  | false =>
    obtain rfl : s = b := hS.rest
    have h45 := hS.first
    have h40 := hS.small
    clear hS
    have hr0 : ((r : Int) == 0) = false := by simp; omega
    go_enter Tryd.func26, Tryd.ntmps26
    go_wp2_with fail
    refine (run_any _ _ (by omega)).mono ?_
    rintro e w1 ⟨rfl, rfl⟩
    rw [HR.out]
    go_wp2_with fail
    go_ret2
    exact ends_of rfl (Below.refl _ _)
  | true =>
    have e1 : s.extract 1 s.size = b := hS.rest
    have h45 := hS.first
    have h40 := hS.small
    clear hS
    have hr0 : ((r : Int) == 0) = false := by simp; omega
    go_enter Tryd.func26, Tryd.ntmps26
    go_wp2_with fail
    refine (run_any _ _ (by omega)).mono ?_
    rintro e w1 ⟨rfl, rfl⟩
    rw [HR.out]
    go_wp2_with fail
    go_ret2
    exact ends_of rfl (Below.refl _ _)

set_option maxRecDepth 100000 in
set_option maxHeartbeats 1000000 in
theorem way_nobad1 {s b d x : ByteArray} {neg : Bool} {hpos : 0 < s.size} (hS : Sg s b neg hpos) (w : World) {r : Nat} (HR : Hid (runL b.data.toList = r)) (hr : r ≤ b.size) (hb : b.size ≤ 40) (h0 : 1 ≤ r) (hlead : r ≤ 1 ∨ (1 < r ∧ (((b[0]'(by omega)).toNat : Int) == 48) = false)) (ed : b.extract 0 r = d) (ex : b.extract r b.size = x) (hx0 : x.size = 0) (hxp : (x.toList == [112, 116]) = false) :
    Calls Tryd.prog 26 #[.string s] w (Ends (0, 3) w) := by
  have hr0 : ((r : Int) == 0) = false := by simp; omega
  cases neg with
  | false =>
    rcases hlead with h1 | ⟨h1, h48⟩
    all_goals
      obtain rfl : s = b := hS.rest
      have h45 := hS.first
      have h40 := hS.small
      clear hS
      go_enter Tryd.func26, Tryd.ntmps26
      go_wp2_with fail
      refine (run_any _ _ (by omega)).mono ?_
      rintro e w1 ⟨rfl, rfl⟩
      rw [HR.out]
      go_wp2_with fail
      go_quiet (fail)
      go_wp2_with fail
      go_ret2
      exact ends_of rfl (below_drewN (Below.refl _ _) _)
  | true =>
    rcases hlead with h1 | ⟨h1, h48⟩
    all_goals
      have e1 : s.extract 1 s.size = b := hS.rest
      have h45 := hS.first
      have h40 := hS.small
      clear hS
      go_enter Tryd.func26, Tryd.ntmps26
      go_wp2_with fail
      refine (run_any _ _ (by omega)).mono ?_
      rintro e w1 ⟨rfl, rfl⟩
      rw [HR.out]
      go_wp2_with fail
      go_quiet (fail)
      go_wp2_with fail
      go_ret2
      exact ends_of rfl (below_drewN (Below.refl _ _) _)

set_option maxRecDepth 100000 in
set_option maxHeartbeats 1000000 in
theorem way_nobad2 {s b d x : ByteArray} {neg : Bool} {hpos : 0 < s.size} (hS : Sg s b neg hpos) (w : World) {r : Nat} (HR : Hid (runL b.data.toList = r)) (hr : r ≤ b.size) (hb : b.size ≤ 40) (h0 : 1 ≤ r) (hlead : r ≤ 1 ∨ (1 < r ∧ (((b[0]'(by omega)).toNat : Int) == 48) = false)) (ed : b.extract 0 r = d) (ex : b.extract r b.size = x) (hx0 : 0 < x.size) (hx : (((x[0]'hx0).toNat : Int) == 46) = false) (hxp : (x.toList == [112, 116]) = false) :
    Calls Tryd.prog 26 #[.string s] w (Ends (0, 3) w) := by
  have hr0 : ((r : Int) == 0) = false := by simp; omega
  cases neg with
  | false =>
    rcases hlead with h1 | ⟨h1, h48⟩
    all_goals
      obtain rfl : s = b := hS.rest
      have h45 := hS.first
      have h40 := hS.small
      clear hS
      go_enter Tryd.func26, Tryd.ntmps26
      go_wp2_with fail
      refine (run_any _ _ (by omega)).mono ?_
      rintro e w1 ⟨rfl, rfl⟩
      rw [HR.out]
      go_wp2_with fail
      go_quiet (fail)
      go_wp2_with fail
      go_ret2
      exact ends_of rfl (below_drewN (Below.refl _ _) _)
  | true =>
    rcases hlead with h1 | ⟨h1, h48⟩
    all_goals
      have e1 : s.extract 1 s.size = b := hS.rest
      have h45 := hS.first
      have h40 := hS.small
      clear hS
      go_enter Tryd.func26, Tryd.ntmps26
      go_wp2_with fail
      refine (run_any _ _ (by omega)).mono ?_
      rintro e w1 ⟨rfl, rfl⟩
      rw [HR.out]
      go_wp2_with fail
      go_quiet (fail)
      go_wp2_with fail
      go_ret2
      exact ends_of rfl (below_drewN (Below.refl _ _) _)

theorem numF_lt (l : List UInt8) (hd : l.all isD = true) : ∀ acc, numF acc l < (acc + 1) * 10 ^ l.length := by
  induction l with
  | nil => intro acc; rw [numF_nil]; simp
  | cons c r ih =>
    intro acc
    simp only [List.all_cons, Bool.and_eq_true] at hd
    have hc : 48 ≤ c.toNat ∧ c.toNat ≤ 57 := by simpa [isD] using hd.1
    rw [numF_cons, List.length_cons, Nat.pow_succ]
    have h1 := ih hd.2 (acc * 10 + (c.toNat - 48))
    have h2 : (acc * 10 + (c.toNat - 48) + 1) * 10 ^ r.length ≤ ((acc + 1) * 10) * 10 ^ r.length := Nat.mul_le_mul_right _ (by omega)
    have e : (acc + 1) * (10 ^ r.length * 10) = (acc + 1) * 10 * 10 ^ r.length := by rw [Nat.mul_assoc, Nat.mul_comm 10]
    omega
theorem num_lt (l : List UInt8) (hd : l.all isD = true) : num l < 10 ^ l.length := by
  have := numF_lt l hd 0
  rw [num_eq]; omega
theorem ten (k : Nat) (h : k ≤ 10) : 10 ^ k ≤ 10000000000 := by
  have : 10 ^ k ≤ 10 ^ 10 := Nat.pow_le_pow_right (by omega) h
  exact this
theorem digit_bd {c : UInt8} (h : isD c = true) : 48 ≤ (c.toNat : Int) ∧ (c.toNat : Int) ≤ 57 := by
  have : 48 ≤ c.toNat ∧ c.toNat ≤ 57 := by simpa [isD] using h
  omega
theorem ends_at {p : Int × Int} {w w' : World} {a b : Int} (h : p = (a, b)) (hb : Below w.heap.size w w') : Ends p w (.returned (.tuple #[.int .i64 a, .int .i64 b])) w' := ends_of h hb

set_option maxRecDepth 100000 in
set_option maxHeartbeats 1000000 in
theorem way_nozero {s b d x : ByteArray} {neg : Bool} {hpos : 0 < s.size} (hS : Sg s b neg hpos) (w : World) {r : Nat} (HR : Hid (runL b.data.toList = r)) (hr : r ≤ b.size) (hb : b.size ≤ 40) (h0 : 1 ≤ r) (hlead : r ≤ 1 ∨ (1 < r ∧ (((b[0]'(by omega)).toNat : Int) == 48) = false)) (ed : b.extract 0 r = d) (ex : b.extract r b.size = x) (hx0 : 0 < x.size) (hx : (((x[0]'hx0).toNat : Int) == 46) = false) (hxp : (x.toList == [112, 116]) = true) (hneg : neg = true) (hd : (d.toList == [48]) = true) :
    Calls Tryd.prog 26 #[.string s] w (Ends (0, 3) w) := by
  have hr0 : ((r : Int) == 0) = false := by simp; omega
  cases neg with
  | false =>
    cases hneg
  | true =>
    rcases hlead with h1 | ⟨h1, h48⟩
    all_goals
      have e1 : s.extract 1 s.size = b := hS.rest
      have h45 := hS.first
      have h40 := hS.small
      clear hS
      go_enter Tryd.func26, Tryd.ntmps26
      go_wp2_with fail
      refine (run_any _ _ (by omega)).mono ?_
      rintro e w1 ⟨rfl, rfl⟩
      rw [HR.out]
      go_wp2_with fail
      go_quiet (fail)
      go_wp2_with fail
      go_ret2
      exact ends_of rfl (below_drewN (Below.refl _ _) _)

set_option maxRecDepth 100000 in
set_option maxHeartbeats 1000000 in
theorem way_nolong {s b d x : ByteArray} {neg : Bool} {hpos : 0 < s.size} (hS : Sg s b neg hpos) (w : World) {r : Nat} (HR : Hid (runL b.data.toList = r)) (hr : r ≤ b.size) (hb : b.size ≤ 40) (h0 : 1 ≤ r) (hlead : r ≤ 1 ∨ (1 < r ∧ (((b[0]'(by omega)).toNat : Int) == 48) = false)) (ed : b.extract 0 r = d) (ex : b.extract r b.size = x) (hx0 : 0 < x.size) (hx : (((x[0]'hx0).toNat : Int) == 46) = false) (hxp : (x.toList == [112, 116]) = true) (hd : neg = true → (d.toList == [48]) = false) (hl : 7 < d.size) :
    Calls Tryd.prog 26 #[.string s] w (Ends (0, 2) w) := by
  have hr0 : ((r : Int) == 0) = false := by simp; omega
  cases neg with
  | false =>
    clear hd
    rcases hlead with h1 | ⟨h1, h48⟩
    all_goals
      obtain rfl : s = b := hS.rest
      have h45 := hS.first
      have h40 := hS.small
      clear hS
      go_enter Tryd.func26, Tryd.ntmps26
      go_wp2_with fail
      refine (run_any _ _ (by omega)).mono ?_
      rintro e w1 ⟨rfl, rfl⟩
      rw [HR.out]
      go_wp2_with fail
      go_quiet (fail)
      go_wp2_with fail
      go_ret2
      exact ends_of rfl (below_drewN (Below.refl _ _) _)
  | true =>
    have hd' : (d.toList == [48]) = false := hd rfl
    clear hd
    rcases hlead with h1 | ⟨h1, h48⟩
    all_goals
      have e1 : s.extract 1 s.size = b := hS.rest
      have h45 := hS.first
      have h40 := hS.small
      clear hS
      go_enter Tryd.func26, Tryd.ntmps26
      go_wp2_with fail
      refine (run_any _ _ (by omega)).mono ?_
      rintro e w1 ⟨rfl, rfl⟩
      rw [HR.out]
      go_wp2_with fail
      go_quiet (fail)
      go_wp2_with fail
      go_ret2
      exact ends_of rfl (below_drewN (Below.refl _ _) _)

set_option maxRecDepth 100000 in
set_option maxHeartbeats 1000000 in
theorem way_nobig {s b d x : ByteArray} {neg : Bool} {hpos : 0 < s.size} (hS : Sg s b neg hpos) (w : World) {r : Nat} (HR : Hid (runL b.data.toList = r)) (hr : r ≤ b.size) (hb : b.size ≤ 40) (h0 : 1 ≤ r) (hlead : r ≤ 1 ∨ (1 < r ∧ (((b[0]'(by omega)).toNat : Int) == 48) = false)) (ed : b.extract 0 r = d) (ex : b.extract r b.size = x) (hx0 : 0 < x.size) (hx : (((x[0]'hx0).toNat : Int) == 46) = false) (hxp : (x.toList == [112, 116]) = true) (hd : neg = true → (d.toList == [48]) = false) (hl : d.size ≤ 7) {V : Nat} (a : ByteArray) (ha : a.size ≤ 10) (HL : Hid (a.data.toList.all isD = true)) (HV : Hid (num a.data.toList = V)) (hV : V ≤ 10000000000) (ea : d ++ (({ data := #[] } : ByteArray) ++ { data := #[48, 48, 48] }).extract 0 3 = a) (hval : validZ (if neg = true then -(V : Int) else V) = false) :
    Calls Tryd.prog 26 #[.string s] w (Ends (0, 2) w) := by
  have hr0 : ((r : Int) == 0) = false := by simp; omega
  cases neg with
  | false =>
    clear hd
    have hval' : validZ (V : Int) = false := hval
    clear hval
    rcases hlead with h1 | ⟨h1, h48⟩
    all_goals
      obtain rfl : s = b := hS.rest
      have h45 := hS.first
      have h40 := hS.small
      clear hS
      go_enter Tryd.func26, Tryd.ntmps26
      go_wp2_with fail
      refine (run_any _ _ (by omega)).mono ?_
      rintro e w1 ⟨rfl, rfl⟩
      rw [HR.out]
      go_wp2_with fail
      go_quiet (fail)
      go_wp2_with fail
      go_loop [10, 12] (fun v i => ∃ k : Nat, k ≤ a.size ∧ i = .int .i64 k ∧ v = .int .i64 (num (a.data.toList.take k) : Int)) (fun _ i => a.size - (intOf i).toNat)
      case atStart => exact ⟨0, Nat.zero_le _, rfl, by rw [List.take_zero, num_eq, numF_nil]; rfl⟩
      case round =>
        obtain ⟨k, hk, rfl, rfl⟩ := hrel
        by_cases hlt : k < a.size
        · obtain ⟨c1, c2⟩ := digit_bd (List.all_eq_true.1 HL.out _ (byte_in a k hlt))
          have hM := num_lt (a.data.toList.take k) (List.all_eq_true.2 fun c hc => List.all_eq_true.1 HL.out c (List.mem_of_mem_take hc))
          have hM2 : num (a.data.toList.take k) ≤ 10000000000 := by
            have h1 := ten k (by omega)
            have h2 : (a.data.toList.take k).length ≤ k := List.length_take_le _ _
            have h3 : 10 ^ (a.data.toList.take k).length ≤ 10 ^ k := Nat.pow_le_pow_right (by omega) h2
            omega
          clear hM
          have nxt : Hid (num (a.data.toList.take (k + 1)) = num (a.data.toList.take k) * 10 + (a[k].toNat - 48)) := Lib.hid (by rw [byte_take a k hlt, num_snoc])
          generalize num (a.data.toList.take k) = M at *
          have hM3 : (M : Int) ≤ 10000000000 := by omega
          go_wp2_with fail
          go_round
          case rel => exact ⟨k + 1, by omega, by go_num, by rw [nxt.out]; congr 1; omega⟩
          case measure => simp [intOf]; omega
        · have hfull : Hid (num (a.data.toList.take k) = V) := Lib.hid (by rw [List.take_of_length_le (by simp; omega)]; exact HV.out)
          rw [hfull.out]
          go_wp2_with (go_at_call 12; refine (refvalid_any _ _).mono ?_; rintro e w' ⟨rfl, rfl⟩)
          go_ret2
          exact ends_of rfl (below_drewN (Below.refl _ _) _)
  | true =>
    have hd' : (d.toList == [48]) = false := hd rfl
    clear hd
    have hval' : validZ (-V : Int) = false := hval
    clear hval
    rcases hlead with h1 | ⟨h1, h48⟩
    all_goals
      have e1 : s.extract 1 s.size = b := hS.rest
      have h45 := hS.first
      have h40 := hS.small
      clear hS
      go_enter Tryd.func26, Tryd.ntmps26
      go_wp2_with fail
      refine (run_any _ _ (by omega)).mono ?_
      rintro e w1 ⟨rfl, rfl⟩
      rw [HR.out]
      go_wp2_with fail
      go_quiet (fail)
      go_wp2_with fail
      go_loop [10, 12] (fun v i => ∃ k : Nat, k ≤ a.size ∧ i = .int .i64 k ∧ v = .int .i64 (num (a.data.toList.take k) : Int)) (fun _ i => a.size - (intOf i).toNat)
      case atStart => exact ⟨0, Nat.zero_le _, rfl, by rw [List.take_zero, num_eq, numF_nil]; rfl⟩
      case round =>
        obtain ⟨k, hk, rfl, rfl⟩ := hrel
        by_cases hlt : k < a.size
        · obtain ⟨c1, c2⟩ := digit_bd (List.all_eq_true.1 HL.out _ (byte_in a k hlt))
          have hM := num_lt (a.data.toList.take k) (List.all_eq_true.2 fun c hc => List.all_eq_true.1 HL.out c (List.mem_of_mem_take hc))
          have hM2 : num (a.data.toList.take k) ≤ 10000000000 := by
            have h1 := ten k (by omega)
            have h2 : (a.data.toList.take k).length ≤ k := List.length_take_le _ _
            have h3 : 10 ^ (a.data.toList.take k).length ≤ 10 ^ k := Nat.pow_le_pow_right (by omega) h2
            omega
          clear hM
          have nxt : Hid (num (a.data.toList.take (k + 1)) = num (a.data.toList.take k) * 10 + (a[k].toNat - 48)) := Lib.hid (by rw [byte_take a k hlt, num_snoc])
          generalize num (a.data.toList.take k) = M at *
          have hM3 : (M : Int) ≤ 10000000000 := by omega
          go_wp2_with fail
          go_round
          case rel => exact ⟨k + 1, by omega, by go_num, by rw [nxt.out]; congr 1; omega⟩
          case measure => simp [intOf]; omega
        · have hfull : Hid (num (a.data.toList.take k) = V) := Lib.hid (by rw [List.take_of_length_le (by simp; omega)]; exact HV.out)
          rw [hfull.out]
          go_wp2_with (go_at_call 12; refine (refvalid_any _ _).mono ?_; rintro e w' ⟨rfl, rfl⟩)
          go_ret2
          exact ends_of rfl (below_drewN (Below.refl _ _) _)

set_option maxRecDepth 100000 in
set_option maxHeartbeats 1000000 in
theorem way_nook {s b d x : ByteArray} {neg : Bool} {hpos : 0 < s.size} (hS : Sg s b neg hpos) (w : World) {r : Nat} (HR : Hid (runL b.data.toList = r)) (hr : r ≤ b.size) (hb : b.size ≤ 40) (h0 : 1 ≤ r) (hlead : r ≤ 1 ∨ (1 < r ∧ (((b[0]'(by omega)).toNat : Int) == 48) = false)) (ed : b.extract 0 r = d) (ex : b.extract r b.size = x) (hx0 : 0 < x.size) (hx : (((x[0]'hx0).toNat : Int) == 46) = false) (hxp : (x.toList == [112, 116]) = true) (hd : neg = true → (d.toList == [48]) = false) (hl : d.size ≤ 7) {V : Nat} (a : ByteArray) (ha : a.size ≤ 10) (HL : Hid (a.data.toList.all isD = true)) (HV : Hid (num a.data.toList = V)) (hV : V ≤ 10000000000) (ea : d ++ (({ data := #[] } : ByteArray) ++ { data := #[48, 48, 48] }).extract 0 3 = a) (hval : validZ (if neg = true then -(V : Int) else V) = true) :
    Calls Tryd.prog 26 #[.string s] w (Ends ((if neg = true then -(V : Int) else V), 0) w) := by
  have hr0 : ((r : Int) == 0) = false := by simp; omega
  cases neg with
  | false =>
    clear hd
    have hval' : validZ (V : Int) = true := hval
    clear hval
    rcases hlead with h1 | ⟨h1, h48⟩
    all_goals
      obtain rfl : s = b := hS.rest
      have h45 := hS.first
      have h40 := hS.small
      clear hS
      go_enter Tryd.func26, Tryd.ntmps26
      go_wp2_with fail
      refine (run_any _ _ (by omega)).mono ?_
      rintro e w1 ⟨rfl, rfl⟩
      rw [HR.out]
      go_wp2_with fail
      go_quiet (fail)
      go_wp2_with fail
      go_loop [10, 12] (fun v i => ∃ k : Nat, k ≤ a.size ∧ i = .int .i64 k ∧ v = .int .i64 (num (a.data.toList.take k) : Int)) (fun _ i => a.size - (intOf i).toNat)
      case atStart => exact ⟨0, Nat.zero_le _, rfl, by rw [List.take_zero, num_eq, numF_nil]; rfl⟩
      case round =>
        obtain ⟨k, hk, rfl, rfl⟩ := hrel
        by_cases hlt : k < a.size
        · obtain ⟨c1, c2⟩ := digit_bd (List.all_eq_true.1 HL.out _ (byte_in a k hlt))
          have hM := num_lt (a.data.toList.take k) (List.all_eq_true.2 fun c hc => List.all_eq_true.1 HL.out c (List.mem_of_mem_take hc))
          have hM2 : num (a.data.toList.take k) ≤ 10000000000 := by
            have h1 := ten k (by omega)
            have h2 : (a.data.toList.take k).length ≤ k := List.length_take_le _ _
            have h3 : 10 ^ (a.data.toList.take k).length ≤ 10 ^ k := Nat.pow_le_pow_right (by omega) h2
            omega
          clear hM
          have nxt : Hid (num (a.data.toList.take (k + 1)) = num (a.data.toList.take k) * 10 + (a[k].toNat - 48)) := Lib.hid (by rw [byte_take a k hlt, num_snoc])
          generalize num (a.data.toList.take k) = M at *
          have hM3 : (M : Int) ≤ 10000000000 := by omega
          go_wp2_with fail
          go_round
          case rel => exact ⟨k + 1, by omega, by go_num, by rw [nxt.out]; congr 1; omega⟩
          case measure => simp [intOf]; omega
        · have hfull : Hid (num (a.data.toList.take k) = V) := Lib.hid (by rw [List.take_of_length_le (by simp; omega)]; exact HV.out)
          rw [hfull.out]
          go_wp2_with (go_at_call 12; refine (refvalid_any _ _).mono ?_; rintro e w' ⟨rfl, rfl⟩)
          go_ret2
          exact ends_of rfl (below_drewN (Below.refl _ _) _)
  | true =>
    have hd' : (d.toList == [48]) = false := hd rfl
    clear hd
    have hval' : validZ (-V : Int) = true := hval
    clear hval
    rcases hlead with h1 | ⟨h1, h48⟩
    all_goals
      have e1 : s.extract 1 s.size = b := hS.rest
      have h45 := hS.first
      have h40 := hS.small
      clear hS
      go_enter Tryd.func26, Tryd.ntmps26
      go_wp2_with fail
      refine (run_any _ _ (by omega)).mono ?_
      rintro e w1 ⟨rfl, rfl⟩
      rw [HR.out]
      go_wp2_with fail
      go_quiet (fail)
      go_wp2_with fail
      go_loop [10, 12] (fun v i => ∃ k : Nat, k ≤ a.size ∧ i = .int .i64 k ∧ v = .int .i64 (num (a.data.toList.take k) : Int)) (fun _ i => a.size - (intOf i).toNat)
      case atStart => exact ⟨0, Nat.zero_le _, rfl, by rw [List.take_zero, num_eq, numF_nil]; rfl⟩
      case round =>
        obtain ⟨k, hk, rfl, rfl⟩ := hrel
        by_cases hlt : k < a.size
        · obtain ⟨c1, c2⟩ := digit_bd (List.all_eq_true.1 HL.out _ (byte_in a k hlt))
          have hM := num_lt (a.data.toList.take k) (List.all_eq_true.2 fun c hc => List.all_eq_true.1 HL.out c (List.mem_of_mem_take hc))
          have hM2 : num (a.data.toList.take k) ≤ 10000000000 := by
            have h1 := ten k (by omega)
            have h2 : (a.data.toList.take k).length ≤ k := List.length_take_le _ _
            have h3 : 10 ^ (a.data.toList.take k).length ≤ 10 ^ k := Nat.pow_le_pow_right (by omega) h2
            omega
          clear hM
          have nxt : Hid (num (a.data.toList.take (k + 1)) = num (a.data.toList.take k) * 10 + (a[k].toNat - 48)) := Lib.hid (by rw [byte_take a k hlt, num_snoc])
          generalize num (a.data.toList.take k) = M at *
          have hM3 : (M : Int) ≤ 10000000000 := by omega
          go_wp2_with fail
          go_round
          case rel => exact ⟨k + 1, by omega, by go_num, by rw [nxt.out]; congr 1; omega⟩
          case measure => simp [intOf]; omega
        · have hfull : Hid (num (a.data.toList.take k) = V) := Lib.hid (by rw [List.take_of_length_le (by simp; omega)]; exact HV.out)
          rw [hfull.out]
          go_wp2_with (go_at_call 12; refine (refvalid_any _ _).mono ?_; rintro e w' ⟨rfl, rfl⟩)
          go_ret2
          exact ends_of rfl (below_drewN (Below.refl _ _) _)

set_option maxRecDepth 100000 in
set_option maxHeartbeats 1000000 in
theorem way_pbad1 {s b d x : ByteArray} {neg : Bool} {hpos : 0 < s.size} (hS : Sg s b neg hpos) (w : World) {r : Nat} (HR : Hid (runL b.data.toList = r)) (hr : r ≤ b.size) (hb : b.size ≤ 40) (h0 : 1 ≤ r) (hlead : r ≤ 1 ∨ (1 < r ∧ (((b[0]'(by omega)).toNat : Int) == 48) = false)) (ed : b.extract 0 r = d) (ex : b.extract r b.size = x) (hx0 : 0 < x.size) (hx : (((x[0]'hx0).toNat : Int) == 46) = true) {x1 f y : ByteArray} (ex1 : x.extract 1 x.size = x1) (hxs : x1.size + 1 = x.size) (hxb : x.size ≤ 40) {k : Nat} (HK : Hid (runL x1.data.toList = k)) (hk : k ≤ x1.size) (ef : x.extract 1 (1 + k) = f) (ey : x.extract (1 + k) x.size = y) (hk1 : k < 1) :
    Calls Tryd.prog 26 #[.string s] w (Ends (0, 3) w) := by
  have hr0 : ((r : Int) == 0) = false := by simp; omega
  cases neg with
  | false =>
    rcases hlead with h1 | ⟨h1, h48⟩
    all_goals
      obtain rfl : s = b := hS.rest
      have h45 := hS.first
      have h40 := hS.small
      clear hS
      go_enter Tryd.func26, Tryd.ntmps26
      go_wp2_with fail
      refine (run_any _ _ (by omega)).mono ?_
      rintro e w1 ⟨rfl, rfl⟩
      rw [HR.out]
      go_wp2_with fail
      go_quiet (fail)
      go_wp2_with fail
      refine (run_any _ _ (by omega)).mono ?_
      rintro e w2 ⟨rfl, rfl⟩
      rw [HK.out]
      go_wp2_with fail
      have p1 : IntKind.i64.wrap (1 + (k : Int)) = 1 + (k : Int) := IntWalk.i64_in _ (by omega)
      have p2 : (0 : Int) ≤ 1 + (k : Int) := by omega
      have p3 : (1 + (k : Int)).toNat = 1 + k := by omega
      have p4 : (1 : Int) ≤ 1 + (k : Int) := by omega
      have p5 : 1 + (k : Int) ≤ (x.size : Int) := by omega
      go_quiet (fail)
      clear p1 p2 p3 p4 p5
      go_wp2_with fail
      go_ret2
      exact ends_of rfl (below_drewN (Below.refl _ _) _)
  | true =>
    rcases hlead with h1 | ⟨h1, h48⟩
    all_goals
      have e1 : s.extract 1 s.size = b := hS.rest
      have h45 := hS.first
      have h40 := hS.small
      clear hS
      go_enter Tryd.func26, Tryd.ntmps26
      go_wp2_with fail
      refine (run_any _ _ (by omega)).mono ?_
      rintro e w1 ⟨rfl, rfl⟩
      rw [HR.out]
      go_wp2_with fail
      go_quiet (fail)
      go_wp2_with fail
      refine (run_any _ _ (by omega)).mono ?_
      rintro e w2 ⟨rfl, rfl⟩
      rw [HK.out]
      go_wp2_with fail
      have p1 : IntKind.i64.wrap (1 + (k : Int)) = 1 + (k : Int) := IntWalk.i64_in _ (by omega)
      have p2 : (0 : Int) ≤ 1 + (k : Int) := by omega
      have p3 : (1 + (k : Int)).toNat = 1 + k := by omega
      have p4 : (1 : Int) ≤ 1 + (k : Int) := by omega
      have p5 : 1 + (k : Int) ≤ (x.size : Int) := by omega
      go_quiet (fail)
      clear p1 p2 p3 p4 p5
      go_wp2_with fail
      go_ret2
      exact ends_of rfl (below_drewN (Below.refl _ _) _)

set_option maxRecDepth 100000 in
set_option maxHeartbeats 1000000 in
theorem way_pbad2 {s b d x : ByteArray} {neg : Bool} {hpos : 0 < s.size} (hS : Sg s b neg hpos) (w : World) {r : Nat} (HR : Hid (runL b.data.toList = r)) (hr : r ≤ b.size) (hb : b.size ≤ 40) (h0 : 1 ≤ r) (hlead : r ≤ 1 ∨ (1 < r ∧ (((b[0]'(by omega)).toNat : Int) == 48) = false)) (ed : b.extract 0 r = d) (ex : b.extract r b.size = x) (hx0 : 0 < x.size) (hx : (((x[0]'hx0).toNat : Int) == 46) = true) {x1 f y : ByteArray} (ex1 : x.extract 1 x.size = x1) (hxs : x1.size + 1 = x.size) (hxb : x.size ≤ 40) {k : Nat} (HK : Hid (runL x1.data.toList = k)) (hk : k ≤ x1.size) (ef : x.extract 1 (1 + k) = f) (ey : x.extract (1 + k) x.size = y) (hk1 : 3 < k) :
    Calls Tryd.prog 26 #[.string s] w (Ends (0, 3) w) := by
  have hr0 : ((r : Int) == 0) = false := by simp; omega
  cases neg with
  | false =>
    rcases hlead with h1 | ⟨h1, h48⟩
    all_goals
      obtain rfl : s = b := hS.rest
      have h45 := hS.first
      have h40 := hS.small
      clear hS
      go_enter Tryd.func26, Tryd.ntmps26
      go_wp2_with fail
      refine (run_any _ _ (by omega)).mono ?_
      rintro e w1 ⟨rfl, rfl⟩
      rw [HR.out]
      go_wp2_with fail
      go_quiet (fail)
      go_wp2_with fail
      refine (run_any _ _ (by omega)).mono ?_
      rintro e w2 ⟨rfl, rfl⟩
      rw [HK.out]
      go_wp2_with fail
      have p1 : IntKind.i64.wrap (1 + (k : Int)) = 1 + (k : Int) := IntWalk.i64_in _ (by omega)
      have p2 : (0 : Int) ≤ 1 + (k : Int) := by omega
      have p3 : (1 + (k : Int)).toNat = 1 + k := by omega
      have p4 : (1 : Int) ≤ 1 + (k : Int) := by omega
      have p5 : 1 + (k : Int) ≤ (x.size : Int) := by omega
      go_quiet (fail)
      clear p1 p2 p3 p4 p5
      go_wp2_with fail
      go_ret2
      exact ends_of rfl (below_drewN (Below.refl _ _) _)
  | true =>
    rcases hlead with h1 | ⟨h1, h48⟩
    all_goals
      have e1 : s.extract 1 s.size = b := hS.rest
      have h45 := hS.first
      have h40 := hS.small
      clear hS
      go_enter Tryd.func26, Tryd.ntmps26
      go_wp2_with fail
      refine (run_any _ _ (by omega)).mono ?_
      rintro e w1 ⟨rfl, rfl⟩
      rw [HR.out]
      go_wp2_with fail
      go_quiet (fail)
      go_wp2_with fail
      refine (run_any _ _ (by omega)).mono ?_
      rintro e w2 ⟨rfl, rfl⟩
      rw [HK.out]
      go_wp2_with fail
      have p1 : IntKind.i64.wrap (1 + (k : Int)) = 1 + (k : Int) := IntWalk.i64_in _ (by omega)
      have p2 : (0 : Int) ≤ 1 + (k : Int) := by omega
      have p3 : (1 + (k : Int)).toNat = 1 + k := by omega
      have p4 : (1 : Int) ≤ 1 + (k : Int) := by omega
      have p5 : 1 + (k : Int) ≤ (x.size : Int) := by omega
      go_quiet (fail)
      clear p1 p2 p3 p4 p5
      go_wp2_with fail
      go_ret2
      exact ends_of rfl (below_drewN (Below.refl _ _) _)

set_option maxRecDepth 100000 in
set_option maxHeartbeats 1000000 in
theorem way_pbad3 {s b d x : ByteArray} {neg : Bool} {hpos : 0 < s.size} (hS : Sg s b neg hpos) (w : World) {r : Nat} (HR : Hid (runL b.data.toList = r)) (hr : r ≤ b.size) (hb : b.size ≤ 40) (h0 : 1 ≤ r) (hlead : r ≤ 1 ∨ (1 < r ∧ (((b[0]'(by omega)).toNat : Int) == 48) = false)) (ed : b.extract 0 r = d) (ex : b.extract r b.size = x) (hx0 : 0 < x.size) (hx : (((x[0]'hx0).toNat : Int) == 46) = true) {x1 f y : ByteArray} (ex1 : x.extract 1 x.size = x1) (hxs : x1.size + 1 = x.size) (hxb : x.size ≤ 40) {k : Nat} (HK : Hid (runL x1.data.toList = k)) (hk : k ≤ x1.size) (ef : x.extract 1 (1 + k) = f) (ey : x.extract (1 + k) x.size = y) (hk1 : 1 ≤ k) (hk3 : k ≤ 3) (hfk : f.size = k) (hf8 : (((f[k - 1]'(by omega)).toNat : Int) == 48) = true) :
    Calls Tryd.prog 26 #[.string s] w (Ends (0, 3) w) := by
  have hr0 : ((r : Int) == 0) = false := by simp; omega
  cases neg with
  | false =>
    rcases hlead with h1 | ⟨h1, h48⟩
    all_goals
      obtain rfl : s = b := hS.rest
      have h45 := hS.first
      have h40 := hS.small
      clear hS
      go_enter Tryd.func26, Tryd.ntmps26
      go_wp2_with fail
      refine (run_any _ _ (by omega)).mono ?_
      rintro e w1 ⟨rfl, rfl⟩
      rw [HR.out]
      go_wp2_with fail
      go_quiet (fail)
      go_wp2_with fail
      refine (run_any _ _ (by omega)).mono ?_
      rintro e w2 ⟨rfl, rfl⟩
      rw [HK.out]
      go_wp2_with fail
      have p1 : IntKind.i64.wrap (1 + (k : Int)) = 1 + (k : Int) := IntWalk.i64_in _ (by omega)
      have p2 : (0 : Int) ≤ 1 + (k : Int) := by omega
      have p3 : (1 + (k : Int)).toNat = 1 + k := by omega
      have p4 : (1 : Int) ≤ 1 + (k : Int) := by omega
      have p5 : 1 + (k : Int) ≤ (x.size : Int) := by omega
      go_quiet (fail)
      clear p1 p2 p3 p4 p5
      go_wp2_with fail
      go_ret2
      exact ends_of rfl (below_drewN (Below.refl _ _) _)
  | true =>
    rcases hlead with h1 | ⟨h1, h48⟩
    all_goals
      have e1 : s.extract 1 s.size = b := hS.rest
      have h45 := hS.first
      have h40 := hS.small
      clear hS
      go_enter Tryd.func26, Tryd.ntmps26
      go_wp2_with fail
      refine (run_any _ _ (by omega)).mono ?_
      rintro e w1 ⟨rfl, rfl⟩
      rw [HR.out]
      go_wp2_with fail
      go_quiet (fail)
      go_wp2_with fail
      refine (run_any _ _ (by omega)).mono ?_
      rintro e w2 ⟨rfl, rfl⟩
      rw [HK.out]
      go_wp2_with fail
      have p1 : IntKind.i64.wrap (1 + (k : Int)) = 1 + (k : Int) := IntWalk.i64_in _ (by omega)
      have p2 : (0 : Int) ≤ 1 + (k : Int) := by omega
      have p3 : (1 + (k : Int)).toNat = 1 + k := by omega
      have p4 : (1 : Int) ≤ 1 + (k : Int) := by omega
      have p5 : 1 + (k : Int) ≤ (x.size : Int) := by omega
      go_quiet (fail)
      clear p1 p2 p3 p4 p5
      go_wp2_with fail
      go_ret2
      exact ends_of rfl (below_drewN (Below.refl _ _) _)

set_option maxRecDepth 100000 in
set_option maxHeartbeats 1000000 in
theorem way_pbad4 {s b d x : ByteArray} {neg : Bool} {hpos : 0 < s.size} (hS : Sg s b neg hpos) (w : World) {r : Nat} (HR : Hid (runL b.data.toList = r)) (hr : r ≤ b.size) (hb : b.size ≤ 40) (h0 : 1 ≤ r) (hlead : r ≤ 1 ∨ (1 < r ∧ (((b[0]'(by omega)).toNat : Int) == 48) = false)) (ed : b.extract 0 r = d) (ex : b.extract r b.size = x) (hx0 : 0 < x.size) (hx : (((x[0]'hx0).toNat : Int) == 46) = true) {x1 f y : ByteArray} (ex1 : x.extract 1 x.size = x1) (hxs : x1.size + 1 = x.size) (hxb : x.size ≤ 40) {k : Nat} (HK : Hid (runL x1.data.toList = k)) (hk : k ≤ x1.size) (ef : x.extract 1 (1 + k) = f) (ey : x.extract (1 + k) x.size = y) (hk1 : 1 ≤ k) (hk3 : k ≤ 3) (hfk : f.size = k) (hf8 : (((f[k - 1]'(by omega)).toNat : Int) == 48) = false) (hyp : (y.toList == [112, 116]) = false) :
    Calls Tryd.prog 26 #[.string s] w (Ends (0, 3) w) := by
  have hr0 : ((r : Int) == 0) = false := by simp; omega
  cases neg with
  | false =>
    rcases hlead with h1 | ⟨h1, h48⟩
    all_goals
      obtain rfl : s = b := hS.rest
      have h45 := hS.first
      have h40 := hS.small
      clear hS
      go_enter Tryd.func26, Tryd.ntmps26
      go_wp2_with fail
      refine (run_any _ _ (by omega)).mono ?_
      rintro e w1 ⟨rfl, rfl⟩
      rw [HR.out]
      go_wp2_with fail
      go_quiet (fail)
      go_wp2_with fail
      refine (run_any _ _ (by omega)).mono ?_
      rintro e w2 ⟨rfl, rfl⟩
      rw [HK.out]
      go_wp2_with fail
      have p1 : IntKind.i64.wrap (1 + (k : Int)) = 1 + (k : Int) := IntWalk.i64_in _ (by omega)
      have p2 : (0 : Int) ≤ 1 + (k : Int) := by omega
      have p3 : (1 + (k : Int)).toNat = 1 + k := by omega
      have p4 : (1 : Int) ≤ 1 + (k : Int) := by omega
      have p5 : 1 + (k : Int) ≤ (x.size : Int) := by omega
      go_quiet (fail)
      clear p1 p2 p3 p4 p5
      go_wp2_with fail
      go_ret2
      exact ends_of rfl (below_drewN (Below.refl _ _) _)
  | true =>
    rcases hlead with h1 | ⟨h1, h48⟩
    all_goals
      have e1 : s.extract 1 s.size = b := hS.rest
      have h45 := hS.first
      have h40 := hS.small
      clear hS
      go_enter Tryd.func26, Tryd.ntmps26
      go_wp2_with fail
      refine (run_any _ _ (by omega)).mono ?_
      rintro e w1 ⟨rfl, rfl⟩
      rw [HR.out]
      go_wp2_with fail
      go_quiet (fail)
      go_wp2_with fail
      refine (run_any _ _ (by omega)).mono ?_
      rintro e w2 ⟨rfl, rfl⟩
      rw [HK.out]
      go_wp2_with fail
      have p1 : IntKind.i64.wrap (1 + (k : Int)) = 1 + (k : Int) := IntWalk.i64_in _ (by omega)
      have p2 : (0 : Int) ≤ 1 + (k : Int) := by omega
      have p3 : (1 + (k : Int)).toNat = 1 + k := by omega
      have p4 : (1 : Int) ≤ 1 + (k : Int) := by omega
      have p5 : 1 + (k : Int) ≤ (x.size : Int) := by omega
      go_quiet (fail)
      clear p1 p2 p3 p4 p5
      go_wp2_with fail
      go_ret2
      exact ends_of rfl (below_drewN (Below.refl _ _) _)

set_option maxRecDepth 100000 in
set_option maxHeartbeats 1000000 in
theorem way_plong {s b d x : ByteArray} {neg : Bool} {hpos : 0 < s.size} (hS : Sg s b neg hpos) (w : World) {r : Nat} (HR : Hid (runL b.data.toList = r)) (hr : r ≤ b.size) (hb : b.size ≤ 40) (h0 : 1 ≤ r) (hlead : r ≤ 1 ∨ (1 < r ∧ (((b[0]'(by omega)).toNat : Int) == 48) = false)) (ed : b.extract 0 r = d) (ex : b.extract r b.size = x) (hx0 : 0 < x.size) (hx : (((x[0]'hx0).toNat : Int) == 46) = true) {x1 f y : ByteArray} (ex1 : x.extract 1 x.size = x1) (hxs : x1.size + 1 = x.size) (hxb : x.size ≤ 40) {k : Nat} (HK : Hid (runL x1.data.toList = k)) (hk : k ≤ x1.size) (ef : x.extract 1 (1 + k) = f) (ey : x.extract (1 + k) x.size = y) (hk1 : 1 ≤ k) (hk3 : k ≤ 3) (hfk : f.size = k) (hf8 : (((f[k - 1]'(by omega)).toNat : Int) == 48) = false) (hyp : (y.toList == [112, 116]) = true) (hfe : f.toList.isEmpty = false) {dz : Bool} (hdz : (d.toList == [48]) = dz) (hl : 7 < d.size) :
    Calls Tryd.prog 26 #[.string s] w (Ends (0, 2) w) := by
  have hr0 : ((r : Int) == 0) = false := by simp; omega
  cases neg with
  | false =>
    rcases hlead with h1 | ⟨h1, h48⟩
    all_goals
      obtain rfl : s = b := hS.rest
      have h45 := hS.first
      have h40 := hS.small
      clear hS
      go_enter Tryd.func26, Tryd.ntmps26
      go_wp2_with fail
      refine (run_any _ _ (by omega)).mono ?_
      rintro e w1 ⟨rfl, rfl⟩
      rw [HR.out]
      go_wp2_with fail
      go_quiet (fail)
      go_wp2_with fail
      refine (run_any _ _ (by omega)).mono ?_
      rintro e w2 ⟨rfl, rfl⟩
      rw [HK.out]
      go_wp2_with fail
      have p1 : IntKind.i64.wrap (1 + (k : Int)) = 1 + (k : Int) := IntWalk.i64_in _ (by omega)
      have p2 : (0 : Int) ≤ 1 + (k : Int) := by omega
      have p3 : (1 + (k : Int)).toNat = 1 + k := by omega
      have p4 : (1 : Int) ≤ 1 + (k : Int) := by omega
      have p5 : 1 + (k : Int) ≤ (x.size : Int) := by omega
      go_quiet (fail)
      clear p1 p2 p3 p4 p5
      go_wp2_with fail
      go_ret2
      exact ends_of rfl (below_drewN (Below.refl _ _) _)
  | true =>
    rcases hlead with h1 | ⟨h1, h48⟩ <;> cases dz
    all_goals
      have e1 : s.extract 1 s.size = b := hS.rest
      have h45 := hS.first
      have h40 := hS.small
      clear hS
      go_enter Tryd.func26, Tryd.ntmps26
      go_wp2_with fail
      refine (run_any _ _ (by omega)).mono ?_
      rintro e w1 ⟨rfl, rfl⟩
      rw [HR.out]
      go_wp2_with fail
      go_quiet (fail)
      go_wp2_with fail
      refine (run_any _ _ (by omega)).mono ?_
      rintro e w2 ⟨rfl, rfl⟩
      rw [HK.out]
      go_wp2_with fail
      have p1 : IntKind.i64.wrap (1 + (k : Int)) = 1 + (k : Int) := IntWalk.i64_in _ (by omega)
      have p2 : (0 : Int) ≤ 1 + (k : Int) := by omega
      have p3 : (1 + (k : Int)).toNat = 1 + k := by omega
      have p4 : (1 : Int) ≤ 1 + (k : Int) := by omega
      have p5 : 1 + (k : Int) ≤ (x.size : Int) := by omega
      go_quiet (fail)
      clear p1 p2 p3 p4 p5
      go_wp2_with fail
      go_ret2
      exact ends_of rfl (below_drewN (Below.refl _ _) _)

set_option maxRecDepth 100000 in
set_option maxHeartbeats 1000000 in
theorem way_pbig {s b d x : ByteArray} {neg : Bool} {hpos : 0 < s.size} (hS : Sg s b neg hpos) (w : World) {r : Nat} (HR : Hid (runL b.data.toList = r)) (hr : r ≤ b.size) (hb : b.size ≤ 40) (h0 : 1 ≤ r) (hlead : r ≤ 1 ∨ (1 < r ∧ (((b[0]'(by omega)).toNat : Int) == 48) = false)) (ed : b.extract 0 r = d) (ex : b.extract r b.size = x) (hx0 : 0 < x.size) (hx : (((x[0]'hx0).toNat : Int) == 46) = true) {x1 f y : ByteArray} (ex1 : x.extract 1 x.size = x1) (hxs : x1.size + 1 = x.size) (hxb : x.size ≤ 40) {k : Nat} (HK : Hid (runL x1.data.toList = k)) (hk : k ≤ x1.size) (ef : x.extract 1 (1 + k) = f) (ey : x.extract (1 + k) x.size = y) (hk1 : 1 ≤ k) (hk3 : k ≤ 3) (hfk : f.size = k) (hf8 : (((f[k - 1]'(by omega)).toNat : Int) == 48) = false) (hyp : (y.toList == [112, 116]) = true) (hfe : f.toList.isEmpty = false) {dz : Bool} (hdz : (d.toList == [48]) = dz) (hl : d.size ≤ 7) {V : Nat} (a : ByteArray) (ha : a.size ≤ 10) (HL : Hid (a.data.toList.all isD = true)) (HV : Hid (num a.data.toList = V)) (hV : V ≤ 10000000000) (ea : d ++ (f ++ { data := #[48, 48, 48] }).extract 0 3 = a) (hval : validZ (if neg = true then -(V : Int) else V) = false) :
    Calls Tryd.prog 26 #[.string s] w (Ends (0, 2) w) := by
  have hr0 : ((r : Int) == 0) = false := by simp; omega
  cases neg with
  | false =>
    have hval' : validZ (V : Int) = false := hval
    clear hval
    rcases hlead with h1 | ⟨h1, h48⟩
    all_goals
      obtain rfl : s = b := hS.rest
      have h45 := hS.first
      have h40 := hS.small
      clear hS
      go_enter Tryd.func26, Tryd.ntmps26
      go_wp2_with fail
      refine (run_any _ _ (by omega)).mono ?_
      rintro e w1 ⟨rfl, rfl⟩
      rw [HR.out]
      go_wp2_with fail
      go_quiet (fail)
      go_wp2_with fail
      refine (run_any _ _ (by omega)).mono ?_
      rintro e w2 ⟨rfl, rfl⟩
      rw [HK.out]
      go_wp2_with fail
      have p1 : IntKind.i64.wrap (1 + (k : Int)) = 1 + (k : Int) := IntWalk.i64_in _ (by omega)
      have p2 : (0 : Int) ≤ 1 + (k : Int) := by omega
      have p3 : (1 + (k : Int)).toNat = 1 + k := by omega
      have p4 : (1 : Int) ≤ 1 + (k : Int) := by omega
      have p5 : 1 + (k : Int) ≤ (x.size : Int) := by omega
      go_quiet (fail)
      clear p1 p2 p3 p4 p5
      go_wp2_with fail
      go_loop [10, 12] (fun v i => ∃ k : Nat, k ≤ a.size ∧ i = .int .i64 k ∧ v = .int .i64 (num (a.data.toList.take k) : Int)) (fun _ i => a.size - (intOf i).toNat)
      case atStart => exact ⟨0, Nat.zero_le _, rfl, by rw [List.take_zero, num_eq, numF_nil]; rfl⟩
      case round =>
        obtain ⟨k, hk, rfl, rfl⟩ := hrel
        by_cases hlt : k < a.size
        · obtain ⟨c1, c2⟩ := digit_bd (List.all_eq_true.1 HL.out _ (byte_in a k hlt))
          have hM := num_lt (a.data.toList.take k) (List.all_eq_true.2 fun c hc => List.all_eq_true.1 HL.out c (List.mem_of_mem_take hc))
          have hM2 : num (a.data.toList.take k) ≤ 10000000000 := by
            have h1 := ten k (by omega)
            have h2 : (a.data.toList.take k).length ≤ k := List.length_take_le _ _
            have h3 : 10 ^ (a.data.toList.take k).length ≤ 10 ^ k := Nat.pow_le_pow_right (by omega) h2
            omega
          clear hM
          have nxt : Hid (num (a.data.toList.take (k + 1)) = num (a.data.toList.take k) * 10 + (a[k].toNat - 48)) := Lib.hid (by rw [byte_take a k hlt, num_snoc])
          generalize num (a.data.toList.take k) = M at *
          have hM3 : (M : Int) ≤ 10000000000 := by omega
          go_wp2_with fail
          go_round
          case rel => exact ⟨k + 1, by omega, by go_num, by rw [nxt.out]; congr 1; omega⟩
          case measure => simp [intOf]; omega
        · have hfull : Hid (num (a.data.toList.take k) = V) := Lib.hid (by rw [List.take_of_length_le (by simp; omega)]; exact HV.out)
          rw [hfull.out]
          go_wp2_with (go_at_call 12; refine (refvalid_any _ _).mono ?_; rintro e w' ⟨rfl, rfl⟩)
          go_ret2
          exact ends_of rfl (below_drewN (Below.refl _ _) _)
  | true =>
    have hval' : validZ (-V : Int) = false := hval
    clear hval
    rcases hlead with h1 | ⟨h1, h48⟩ <;> cases dz
    all_goals
      have e1 : s.extract 1 s.size = b := hS.rest
      have h45 := hS.first
      have h40 := hS.small
      clear hS
      go_enter Tryd.func26, Tryd.ntmps26
      go_wp2_with fail
      refine (run_any _ _ (by omega)).mono ?_
      rintro e w1 ⟨rfl, rfl⟩
      rw [HR.out]
      go_wp2_with fail
      go_quiet (fail)
      go_wp2_with fail
      refine (run_any _ _ (by omega)).mono ?_
      rintro e w2 ⟨rfl, rfl⟩
      rw [HK.out]
      go_wp2_with fail
      have p1 : IntKind.i64.wrap (1 + (k : Int)) = 1 + (k : Int) := IntWalk.i64_in _ (by omega)
      have p2 : (0 : Int) ≤ 1 + (k : Int) := by omega
      have p3 : (1 + (k : Int)).toNat = 1 + k := by omega
      have p4 : (1 : Int) ≤ 1 + (k : Int) := by omega
      have p5 : 1 + (k : Int) ≤ (x.size : Int) := by omega
      go_quiet (fail)
      clear p1 p2 p3 p4 p5
      go_wp2_with fail
      go_loop [10, 12] (fun v i => ∃ k : Nat, k ≤ a.size ∧ i = .int .i64 k ∧ v = .int .i64 (num (a.data.toList.take k) : Int)) (fun _ i => a.size - (intOf i).toNat)
      case atStart => exact ⟨0, Nat.zero_le _, rfl, by rw [List.take_zero, num_eq, numF_nil]; rfl⟩
      case round =>
        obtain ⟨k, hk, rfl, rfl⟩ := hrel
        by_cases hlt : k < a.size
        · obtain ⟨c1, c2⟩ := digit_bd (List.all_eq_true.1 HL.out _ (byte_in a k hlt))
          have hM := num_lt (a.data.toList.take k) (List.all_eq_true.2 fun c hc => List.all_eq_true.1 HL.out c (List.mem_of_mem_take hc))
          have hM2 : num (a.data.toList.take k) ≤ 10000000000 := by
            have h1 := ten k (by omega)
            have h2 : (a.data.toList.take k).length ≤ k := List.length_take_le _ _
            have h3 : 10 ^ (a.data.toList.take k).length ≤ 10 ^ k := Nat.pow_le_pow_right (by omega) h2
            omega
          clear hM
          have nxt : Hid (num (a.data.toList.take (k + 1)) = num (a.data.toList.take k) * 10 + (a[k].toNat - 48)) := Lib.hid (by rw [byte_take a k hlt, num_snoc])
          generalize num (a.data.toList.take k) = M at *
          have hM3 : (M : Int) ≤ 10000000000 := by omega
          go_wp2_with fail
          go_round
          case rel => exact ⟨k + 1, by omega, by go_num, by rw [nxt.out]; congr 1; omega⟩
          case measure => simp [intOf]; omega
        · have hfull : Hid (num (a.data.toList.take k) = V) := Lib.hid (by rw [List.take_of_length_le (by simp; omega)]; exact HV.out)
          rw [hfull.out]
          go_wp2_with (go_at_call 12; refine (refvalid_any _ _).mono ?_; rintro e w' ⟨rfl, rfl⟩)
          go_ret2
          exact ends_of rfl (below_drewN (Below.refl _ _) _)

set_option maxRecDepth 100000 in
set_option maxHeartbeats 1000000 in
theorem way_pok {s b d x : ByteArray} {neg : Bool} {hpos : 0 < s.size} (hS : Sg s b neg hpos) (w : World) {r : Nat} (HR : Hid (runL b.data.toList = r)) (hr : r ≤ b.size) (hb : b.size ≤ 40) (h0 : 1 ≤ r) (hlead : r ≤ 1 ∨ (1 < r ∧ (((b[0]'(by omega)).toNat : Int) == 48) = false)) (ed : b.extract 0 r = d) (ex : b.extract r b.size = x) (hx0 : 0 < x.size) (hx : (((x[0]'hx0).toNat : Int) == 46) = true) {x1 f y : ByteArray} (ex1 : x.extract 1 x.size = x1) (hxs : x1.size + 1 = x.size) (hxb : x.size ≤ 40) {k : Nat} (HK : Hid (runL x1.data.toList = k)) (hk : k ≤ x1.size) (ef : x.extract 1 (1 + k) = f) (ey : x.extract (1 + k) x.size = y) (hk1 : 1 ≤ k) (hk3 : k ≤ 3) (hfk : f.size = k) (hf8 : (((f[k - 1]'(by omega)).toNat : Int) == 48) = false) (hyp : (y.toList == [112, 116]) = true) (hfe : f.toList.isEmpty = false) {dz : Bool} (hdz : (d.toList == [48]) = dz) (hl : d.size ≤ 7) {V : Nat} (a : ByteArray) (ha : a.size ≤ 10) (HL : Hid (a.data.toList.all isD = true)) (HV : Hid (num a.data.toList = V)) (hV : V ≤ 10000000000) (ea : d ++ (f ++ { data := #[48, 48, 48] }).extract 0 3 = a) (hval : validZ (if neg = true then -(V : Int) else V) = true) :
    Calls Tryd.prog 26 #[.string s] w (Ends ((if neg = true then -(V : Int) else V), 0) w) := by
  have hr0 : ((r : Int) == 0) = false := by simp; omega
  cases neg with
  | false =>
    have hval' : validZ (V : Int) = true := hval
    clear hval
    rcases hlead with h1 | ⟨h1, h48⟩
    all_goals
      obtain rfl : s = b := hS.rest
      have h45 := hS.first
      have h40 := hS.small
      clear hS
      go_enter Tryd.func26, Tryd.ntmps26
      go_wp2_with fail
      refine (run_any _ _ (by omega)).mono ?_
      rintro e w1 ⟨rfl, rfl⟩
      rw [HR.out]
      go_wp2_with fail
      go_quiet (fail)
      go_wp2_with fail
      refine (run_any _ _ (by omega)).mono ?_
      rintro e w2 ⟨rfl, rfl⟩
      rw [HK.out]
      go_wp2_with fail
      have p1 : IntKind.i64.wrap (1 + (k : Int)) = 1 + (k : Int) := IntWalk.i64_in _ (by omega)
      have p2 : (0 : Int) ≤ 1 + (k : Int) := by omega
      have p3 : (1 + (k : Int)).toNat = 1 + k := by omega
      have p4 : (1 : Int) ≤ 1 + (k : Int) := by omega
      have p5 : 1 + (k : Int) ≤ (x.size : Int) := by omega
      go_quiet (fail)
      clear p1 p2 p3 p4 p5
      go_wp2_with fail
      go_loop [10, 12] (fun v i => ∃ k : Nat, k ≤ a.size ∧ i = .int .i64 k ∧ v = .int .i64 (num (a.data.toList.take k) : Int)) (fun _ i => a.size - (intOf i).toNat)
      case atStart => exact ⟨0, Nat.zero_le _, rfl, by rw [List.take_zero, num_eq, numF_nil]; rfl⟩
      case round =>
        obtain ⟨k, hk, rfl, rfl⟩ := hrel
        by_cases hlt : k < a.size
        · obtain ⟨c1, c2⟩ := digit_bd (List.all_eq_true.1 HL.out _ (byte_in a k hlt))
          have hM := num_lt (a.data.toList.take k) (List.all_eq_true.2 fun c hc => List.all_eq_true.1 HL.out c (List.mem_of_mem_take hc))
          have hM2 : num (a.data.toList.take k) ≤ 10000000000 := by
            have h1 := ten k (by omega)
            have h2 : (a.data.toList.take k).length ≤ k := List.length_take_le _ _
            have h3 : 10 ^ (a.data.toList.take k).length ≤ 10 ^ k := Nat.pow_le_pow_right (by omega) h2
            omega
          clear hM
          have nxt : Hid (num (a.data.toList.take (k + 1)) = num (a.data.toList.take k) * 10 + (a[k].toNat - 48)) := Lib.hid (by rw [byte_take a k hlt, num_snoc])
          generalize num (a.data.toList.take k) = M at *
          have hM3 : (M : Int) ≤ 10000000000 := by omega
          go_wp2_with fail
          go_round
          case rel => exact ⟨k + 1, by omega, by go_num, by rw [nxt.out]; congr 1; omega⟩
          case measure => simp [intOf]; omega
        · have hfull : Hid (num (a.data.toList.take k) = V) := Lib.hid (by rw [List.take_of_length_le (by simp; omega)]; exact HV.out)
          rw [hfull.out]
          go_wp2_with (go_at_call 12; refine (refvalid_any _ _).mono ?_; rintro e w' ⟨rfl, rfl⟩)
          go_ret2
          exact ends_of rfl (below_drewN (Below.refl _ _) _)
  | true =>
    have hval' : validZ (-V : Int) = true := hval
    clear hval
    rcases hlead with h1 | ⟨h1, h48⟩ <;> cases dz
    all_goals
      have e1 : s.extract 1 s.size = b := hS.rest
      have h45 := hS.first
      have h40 := hS.small
      clear hS
      go_enter Tryd.func26, Tryd.ntmps26
      go_wp2_with fail
      refine (run_any _ _ (by omega)).mono ?_
      rintro e w1 ⟨rfl, rfl⟩
      rw [HR.out]
      go_wp2_with fail
      go_quiet (fail)
      go_wp2_with fail
      refine (run_any _ _ (by omega)).mono ?_
      rintro e w2 ⟨rfl, rfl⟩
      rw [HK.out]
      go_wp2_with fail
      have p1 : IntKind.i64.wrap (1 + (k : Int)) = 1 + (k : Int) := IntWalk.i64_in _ (by omega)
      have p2 : (0 : Int) ≤ 1 + (k : Int) := by omega
      have p3 : (1 + (k : Int)).toNat = 1 + k := by omega
      have p4 : (1 : Int) ≤ 1 + (k : Int) := by omega
      have p5 : 1 + (k : Int) ≤ (x.size : Int) := by omega
      go_quiet (fail)
      clear p1 p2 p3 p4 p5
      go_wp2_with fail
      go_loop [10, 12] (fun v i => ∃ k : Nat, k ≤ a.size ∧ i = .int .i64 k ∧ v = .int .i64 (num (a.data.toList.take k) : Int)) (fun _ i => a.size - (intOf i).toNat)
      case atStart => exact ⟨0, Nat.zero_le _, rfl, by rw [List.take_zero, num_eq, numF_nil]; rfl⟩
      case round =>
        obtain ⟨k, hk, rfl, rfl⟩ := hrel
        by_cases hlt : k < a.size
        · obtain ⟨c1, c2⟩ := digit_bd (List.all_eq_true.1 HL.out _ (byte_in a k hlt))
          have hM := num_lt (a.data.toList.take k) (List.all_eq_true.2 fun c hc => List.all_eq_true.1 HL.out c (List.mem_of_mem_take hc))
          have hM2 : num (a.data.toList.take k) ≤ 10000000000 := by
            have h1 := ten k (by omega)
            have h2 : (a.data.toList.take k).length ≤ k := List.length_take_le _ _
            have h3 : 10 ^ (a.data.toList.take k).length ≤ 10 ^ k := Nat.pow_le_pow_right (by omega) h2
            omega
          clear hM
          have nxt : Hid (num (a.data.toList.take (k + 1)) = num (a.data.toList.take k) * 10 + (a[k].toNat - 48)) := Lib.hid (by rw [byte_take a k hlt, num_snoc])
          generalize num (a.data.toList.take k) = M at *
          have hM3 : (M : Int) ≤ 10000000000 := by omega
          go_wp2_with fail
          go_round
          case rel => exact ⟨k + 1, by omega, by go_num, by rw [nxt.out]; congr 1; omega⟩
          case measure => simp [intOf]; omega
        · have hfull : Hid (num (a.data.toList.take k) = V) := Lib.hid (by rw [List.take_of_length_le (by simp; omega)]; exact HV.out)
          rw [hfull.out]
          go_wp2_with (go_at_call 12; refine (refvalid_any _ _).mono ?_; rintro e w' ⟨rfl, rfl⟩)
          go_ret2
          exact ends_of rfl (below_drewN (Below.refl _ _) _)

end Go.Proofs.YtokdeeplblaieaaDoor.Len
