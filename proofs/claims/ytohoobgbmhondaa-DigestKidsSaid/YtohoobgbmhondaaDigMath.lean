/- The FNV-1a hash with 64 bits, as the walks spell it; it loses nothing: plain mathematics. -/
import Derived.Laws.Bits64
import Derived.Test.YtohoobgbmhondaaRows
namespace Go.Proofs.Ytohoobgbmhondaa.By
open Go

def stepI (x : Int) (c : Nat) : Int := IntKind.u64.wrap (bits .xor .u64 x (c : Int) * 1099511628211)
def updI (x : Int) (l : List UInt8) : Int := l.foldl (fun a c => stepI a c.toNat) x
def U64 (x : Int) : Prop := 0 ≤ x ∧ x < 18446744073709551616
theorem stepI_bd (x : Int) (c : Nat) : U64 (stepI x c) := by
  unfold stepI U64
  rw [IntKind.wrap_u64]
  omega
theorem updI_bd {x : Int} (hx : U64 x) (l : List UInt8) : U64 (updI x l) := by
  induction l generalizing x with
  | nil => exact hx
  | cons c r ih => exact ih (stepI_bd x c.toNat)
theorem updI_append (x : Int) (l m : List UInt8) : updI x (l ++ m) = updI (updI x l) m := List.foldl_append
theorem updI_take (x : Int) {l : List UInt8} {k : Nat} (h : k < l.length) : updI x (l.take (k + 1)) = stepI (updI x (l.take k)) l[k].toNat := by
  rw [List.take_succ_eq_append_getElem h, updI_append]; rfl
theorem mul_inj {a b : Nat} (ha : a < 18446744073709551616) (hb : b < 18446744073709551616) (h : a * 1099511628211 % 18446744073709551616 = b * 1099511628211 % 18446744073709551616) : a = b := by
  have h2 : a * 1099511628211 * 14886173955864302971 % 18446744073709551616 = b * 1099511628211 * 14886173955864302971 % 18446744073709551616 := by
    rw [Nat.mul_mod, h, ← Nat.mul_mod]
  have key : ∀ n : Nat, n < 18446744073709551616 → n * 1099511628211 * 14886173955864302971 % 18446744073709551616 = n := fun n hn => by
    rw [Nat.mul_assoc, Nat.mul_mod, show 1099511628211 * 14886173955864302971 % 18446744073709551616 = 1 by decide, Nat.mul_one, Nat.mod_mod, Nat.mod_eq_of_lt hn]
  rw [key a ha, key b hb] at h2
  exact h2
theorem stepI_nat {n c : Nat} (hn : n < 18446744073709551616) (hc : c < 256) : stepI (n : Int) c = (((n ^^^ c) * 1099511628211 % 18446744073709551616 : Nat) : Int) := by
  unfold stepI
  rw [bits_xor_u64_nat n c hn (by omega), IntKind.wrap_u64]
  omega
theorem xor_lt {n c : Nat} (hn : n < 18446744073709551616) (hc : c < 256) : n ^^^ c < 18446744073709551616 :=
  Nat.xor_lt_two_pow (n := 64) (by omega) (by omega)
theorem toNat_bd {x : Int} (hx : U64 x) : ∃ n : Nat, x = n ∧ n < 18446744073709551616 := by
  obtain ⟨h1, h2⟩ := hx
  exact ⟨x.toNat, by omega, by omega⟩
theorem stepI_inj {x y : Int} {c d : Nat} (hx : U64 x) (hy : U64 y) (hc : c < 256) (hd : d < 256) (h : stepI x c = stepI y d) : x.toNat ^^^ c = y.toNat ^^^ d := by
  obtain ⟨n, h1, h2⟩ := toNat_bd hx
  obtain ⟨m, h3, h4⟩ := toNat_bd hy
  subst h1 h3
  rw [stepI_nat h2 hc, stepI_nat h4 hd] at h
  rw [Int.toNat_natCast, Int.toNat_natCast]
  exact mul_inj (xor_lt h2 hc) (xor_lt h4 hd) (Int.natCast_inj.1 h)
theorem xor_left {a b c : Nat} (h : a ^^^ c = b ^^^ c) : a = b := by
  have := congrArg (· ^^^ c) h
  simpa [Nat.xor_assoc] using this
theorem xor_right {a b c : Nat} (h : a ^^^ b = a ^^^ c) : b = c := by
  have := congrArg (a ^^^ ·) h
  simpa [← Nat.xor_assoc] using this
theorem updI_inj {x y : Int} (hx : U64 x) (hy : U64 y) (l : List UInt8) (h : updI x l = updI y l) : x = y := by
  induction l generalizing x y with
  | nil => exact h
  | cons c r ih =>
    have h2 := stepI_inj hx hy (UInt8.toNat_lt c) (UInt8.toNat_lt c) (ih (stepI_bd _ _) (stepI_bd _ _) h)
    have := xor_left h2
    have := hx.1; have := hy.1; omega
theorem updI_eq {x y : Int} (hx : U64 x) (hy : U64 y) (l : List UInt8) : (updI x l == updI y l) = (x == y) := by
  rw [Bool.eq_iff_iff, beq_iff_eq, beq_iff_eq]
  exact ⟨updI_inj hx hy l, fun h => by rw [h]⟩
theorem updI_set {x : Int} (hx : U64 x) {l : List UInt8} {k : Nat} (hk : k < l.length) (c : UInt8) : (updI x (l.set k c) == updI x l) = (l[k] == c) := by
  rw [Bool.eq_iff_iff, beq_iff_eq, beq_iff_eq]
  constructor
  · intro h
    have e1 : l.set k c = l.take k ++ c :: l.drop (k + 1) := by rw [List.set_eq_take_append_cons_drop, if_pos hk]
    have e2 : l = l.take k ++ l[k] :: l.drop (k + 1) := by rw [← List.drop_eq_getElem_cons hk, List.take_append_drop]
    rw [e1] at h
    conv at h => rhs; rw [e2]
    rw [updI_append, updI_append] at h
    have h2 := updI_inj (stepI_bd _ _) (stepI_bd _ _) _ (show updI (stepI (updI x (l.take k)) c.toNat) (l.drop (k + 1)) = updI (stepI (updI x (l.take k)) l[k].toNat) (l.drop (k + 1)) from h)
    have h3 := xor_right (stepI_inj (updI_bd hx _) (updI_bd hx _) (UInt8.toNat_lt c) (UInt8.toNat_lt l[k]) h2)
    exact (UInt8.toNat_inj.1 h3).symm
  · intro h
    rw [← h, List.set_getElem_self]
def startI : Int := 14695981039346656037
theorem start_bd : U64 startI := by unfold U64 startI; omega
/-- a number in 8 bytes -/
def eightL (n : Int) : List UInt8 := (List.range 8).map fun i => UInt8.ofNat (n.toNat / 2 ^ (56 - 8 * i) % 256)
theorem eightL_len (n : Int) : (eightL n).length = 8 := by simp [eightL]
def joinL (k c : Int) (s : List UInt8) (kids : List Int) : List UInt8 :=
  eightL (IntKind.u64.wrap k) ++ eightL s.length ++ s ++ eightL (IntKind.u64.wrap c) ++ eightL kids.length ++ kids.flatMap eightL
theorem kids_len (kids : List Int) : (kids.flatMap eightL).length = 8 * kids.length := by
  induction kids with
  | nil => rfl
  | cons a r ih => rw [List.flatMap_cons, List.length_append, ih, eightL_len, List.length_cons]; omega
theorem joinL_len (k c : Int) (s : List UInt8) (kids : List Int) : (joinL k c s kids).length = 32 + s.length + 8 * kids.length := by
  unfold joinL; simp only [List.length_append, eightL_len, kids_len]; omega
end Go.Proofs.Ytohoobgbmhondaa.By
