/- What the decimal parsers of layer 2 read: the specification by lists of bytes, and the program's way to it, digit by digit from the right. No program is named here. -/
import Derived.Test.YtggiljlndenjoaaDoorMathParse
import Derived.Test.YtggiljlndenjoaaDoorParseMath
import Derived.Lib.AtoiAll
import Derived.Lib.SlTrimSet
namespace Go.Proofs.YtggiljlndenjoaaDoor.RatM
open Len
theorem numF_ge (l : List UInt8) : ∀ acc, acc * 10 ^ l.length ≤ numF acc l := by
  induction l with
  | nil => intro acc; rw [numF_nil]; simp
  | cons c r ih =>
    intro acc
    rw [numF_cons, List.length_cons, Nat.pow_succ]
    have := ih (acc * 10 + (c.toNat - 48))
    have h2 : acc * 10 * 10 ^ r.length ≤ (acc * 10 + (c.toNat - 48)) * 10 ^ r.length := Nat.mul_le_mul_right _ (by omega)
    have e : acc * (10 ^ r.length * 10) = acc * 10 * 10 ^ r.length := by rw [Nat.mul_assoc, Nat.mul_comm 10]
    omega
theorem numF_self (l : List UInt8) (a : Nat) : a ≤ numF a l := by
  have h1 := numF_ge l a
  have h2 : a * 1 ≤ a * 10 ^ l.length := Nat.mul_le_mul_left _ (Nat.one_le_pow _ _ (by omega))
  omega

theorem parse_digits (l : List UInt8) (hd : l.all isD = true) : ∀ acc, acc < 18446744073709551616 → Lib.parseUint10 acc l = if numF acc l < 18446744073709551616 then .ok (numF acc l) else .range := by
  induction l with
  | nil => intro acc h; rw [Lib.parseUint10, numF_nil, if_pos h]
  | cons c r ih =>
    intro acc h
    simp only [List.all_cons, Bool.and_eq_true] at hd
    have hc : 48 ≤ c.toNat ∧ c.toNat ≤ 57 := by simpa [isD] using hd.1
    have hself := numF_self r (acc * 10 + (c.toNat - 48))
    rw [Lib.parseUint10, if_pos hc, numF_cons]
    by_cases h1 : 1844674407370955162 ≤ acc
    · rw [if_pos h1, if_neg (by omega)]
    · rw [if_neg h1]
      by_cases h2 : 18446744073709551616 ≤ acc * 10 + (c.toNat - 48)
      · rw [if_pos h2, if_neg (by omega)]
      · rw [if_neg h2]; exact ih hd.2 _ (by omega)
theorem atoi_digits {l : List UInt8} (hd : l.all isD = true) (hne : l ≠ []) : Lib.atoiAll l = if num l < 9223372036854775808 then .ok (num l : Int) else .range := by
  cases l with
  | nil => exact absurd rfl hne
  | cons c r =>
    have hd' := hd
    simp only [List.all_cons, Bool.and_eq_true] at hd'
    have hc : 48 ≤ c.toNat ∧ c.toNat ≤ 57 := by simpa [isD] using hd'.1
    have h0 := parse_digits (c :: r) hd 0 (by omega)
    rw [← Len.num_eq] at h0
    unfold Lib.atoiAll
    simp only
    rw [if_neg (by omega)]
    unfold Lib.parseMag
    rw [if_neg (by simp), h0]
    by_cases h1 : num (c :: r) < 18446744073709551616
    · rw [if_pos h1]
      simp only
      have hn : ¬ c.toNat = 45 := by omega
      by_cases h2 : num (c :: r) < 9223372036854775808
      · rw [if_neg (by omega), if_neg (by omega), if_pos h2, if_neg hn]
      · rw [if_pos ⟨hn, by omega⟩, if_neg h2]
    · rw [if_neg h1, if_neg (by omega)]


/-- One or more digits. -/
def digB (l : List UInt8) : Bool := l.all isD && !l.isEmpty
theorem digB_all {l : List UInt8} (h : digB l = true) : l.all isD = true := by unfold digB at h; simp only [Bool.and_eq_true] at h; exact h.1
theorem digB_ne {l : List UInt8} (h : digB l = true) : l ≠ [] := by unfold digB at h; simp only [Bool.and_eq_true] at h; simpa using h.2
/-- Digits behind a point. -/
def fracZ (l : List UInt8) : Res := repr (Rat.divInt (num l : Int) ((10 ^ l.length : Nat) : Int))
/-- The value of digits ahead of the point and behind it. -/
def valZ (d f : List UInt8) : Res := repr (Rat.divInt (num (d ++ f) : Int) ((10 ^ f.length : Nat) : Int))
def parseZ (l : List UInt8) : Res :=
  if 40 < l.length ∨ digB (Lib.cut l [46]).1 = false ∨ ((Lib.cut l [46]).2.2 = true ∧ digB (Lib.cut l [46]).2.1 = false) then (0, 0, 3) else valZ (Lib.cut l [46]).1 (Lib.cut l [46]).2.1

theorem numF_add (acc : Nat) (l : List UInt8) : numF acc l = acc * 10 ^ l.length + num l := by
  induction l generalizing acc with
  | nil => rw [numF_nil, Len.num_eq, numF_nil]; simp
  | cons c r ih =>
    rw [numF_cons, Len.num_eq, numF_cons, ih, ih (0 * 10 + (c.toNat - 48)), List.length_cons, Nat.pow_succ, Nat.add_mul]
    have e : acc * 10 * 10 ^ r.length = acc * (10 ^ r.length * 10) := by rw [Nat.mul_assoc, Nat.mul_comm 10]
    rw [Nat.zero_mul, Nat.zero_add]
    omega
theorem num_append (a b : List UInt8) : num (a ++ b) = num a * 10 ^ b.length + num b := by
  rw [Len.num_eq (a ++ b), numF_append, numF_add, ← Len.num_eq]
theorem num_cons (c : UInt8) (r : List UInt8) : num (c :: r) = (c.toNat - 48) * 10 ^ r.length + num r := by
  rw [Len.num_eq, numF_cons, numF_add]; simp
theorem digit_le {c : UInt8} (h : isD c = true) : 48 ≤ c.toNat ∧ c.toNat ≤ 57 := by simpa [isD] using h
theorem num_lt (l : List UInt8) (h : l.all isD = true) : num l < 10 ^ l.length := by
  induction l with
  | nil => rw [Len.num_eq, numF_nil]; simp
  | cons c r ih =>
    simp only [List.all_cons, Bool.and_eq_true] at h
    have h1 := ih h.2
    have h2 := digit_le h.1
    rw [num_cons, List.length_cons, Nat.pow_succ]
    have : (c.toNat - 48) * 10 ^ r.length ≤ 9 * 10 ^ r.length := Nat.mul_le_mul_right _ (by omega)
    omega
theorem ten_pos (k : Nat) : 0 < ((10 ^ k : Nat) : Int) := by have : 0 < 10 ^ k := Nat.pow_pos (by decide); omega

theorem frac_nil : fracZ [] = (0, 1, 0) := by decide +kernel
/-- one digit more ahead of those behind the point -/
theorem frac_next {c : UInt8} {r : List UInt8} (h : (fracZ r).2.2 = 0) :
    repr (Rat.divInt ((((c.toNat - 48 : Nat) : Int)) * (fracZ r).2.1 + (fracZ r).1) (10 * (fracZ r).2.1)) = fracZ (c :: r) := by
  unfold fracZ at *
  rw [repr_next (ten_pos _) (by omega) h, num_cons, List.length_cons, Nat.pow_succ, Nat.mul_comm (10 ^ r.length) 10]
  push_cast
  rfl
theorem frac_stop {a r : List UInt8} (hr : r.all isD = true) (h : (fracZ r).2.2 ≠ 0) : fracZ (a ++ r) = (0, 0, 2) := by
  have h1 := num_lt r hr
  have e := repr_stop (m := (num a : Int)) (s := ((10 ^ a.length : Nat) : Int)) (F := (num r : Int)) (ten_pos r.length) (ten_pos a.length) (by omega) (by omega) h
  unfold fracZ
  rw [num_append, List.length_append, Nat.pow_add]
  push_cast
  push_cast at e
  exact e
theorem val_next {d f : List UInt8} (h : (fracZ f).2.2 = 0) : repr (Rat.divInt ((num d : Int) * (fracZ f).2.1 + (fracZ f).1) (fracZ f).2.1) = valZ d f := by
  have e := repr_next (m := (num d : Int)) (s := 1) (F := (num f : Int)) (ten_pos f.length) (by omega) h
  rw [Int.one_mul, Int.one_mul] at e
  unfold valZ
  rw [num_append]
  unfold fracZ
  rw [e]
  push_cast; rfl
theorem val_stop {d f : List UInt8} (hf : f.all isD = true) (h : (fracZ f).2.2 ≠ 0) : valZ d f = (0, 0, 2) := by
  have h1 := num_lt f hf
  have e := repr_stop (m := (num d : Int)) (s := 1) (F := (num f : Int)) (ten_pos f.length) (by omega) (by omega) (by omega) h
  rw [Int.one_mul] at e
  unfold valZ
  rw [num_append]
  push_cast
  push_cast at e
  exact e
theorem val_big {d f : List UInt8} (h : 2147483647 < num d) : valZ d f = (0, 0, 2) := by
  have e := whole_big (n := (num d : Int)) (F := (num f : Int)) (ten_pos f.length) (by omega) (by omega)
  unfold valZ
  rw [num_append]
  push_cast
  push_cast at e
  exact e

/-- strings.Trim with all digits leaves nothing of digits alone. -/
theorem contains_digit (c : UInt8) : ([48, 49, 50, 51, 52, 53, 54, 55, 56, 57] : List UInt8).contains c = isD c := by
  have : ∀ n : Fin 256, ([48, 49, 50, 51, 52, 53, 54, 55, 56, 57] : List UInt8).contains (UInt8.ofNat n.val) = isD (UInt8.ofNat n.val) := by decide +kernel
  have h := this ⟨c.toNat, c.toNat_lt⟩
  simpa using h
theorem dropWhile_nil {p : UInt8 → Bool} {l : List UInt8} : l.dropWhile p = [] ↔ l.all p = true := by
  induction l with
  | nil => simp
  | cons c r ih =>
    rw [List.dropWhile_cons]
    cases h : p c with
    | true => simp [h, ih]
    | false => simp [h]
theorem trim_digits (l : List UInt8) : (Lib.trimS l [48, 49, 50, 51, 52, 53, 54, 55, 56, 57] == []) = l.all isD := by
  rw [Bool.eq_iff_iff, beq_iff_eq]
  unfold Lib.trimS Lib.trimLeftS Lib.trimRightS
  have e : (fun c => ([48, 49, 50, 51, 52, 53, 54, 55, 56, 57] : List UInt8).contains c) = isD := funext contains_digit
  show List.dropWhile (fun c => ([48, 49, 50, 51, 52, 53, 54, 55, 56, 57] : List UInt8).contains c) (List.dropWhile (fun c => ([48, 49, 50, 51, 52, 53, 54, 55, 56, 57] : List UInt8).contains c) l.reverse).reverse = [] ↔ _
  rw [e, dropWhile_nil, List.all_reverse]
  constructor
  · intro h
    have h2 : (l.reverse.dropWhile isD) = [] := by
      rcases hx : l.reverse.dropWhile isD with _ | ⟨c, r⟩
      · rfl
      · exfalso
        rw [hx] at h
        have h3 := List.head?_dropWhile_not isD l.reverse
        rw [hx] at h3
        simp only [List.all_cons, Bool.and_eq_true] at h
        simp [h.1] at h3
    have := dropWhile_nil.1 h2
    rwa [List.all_reverse] at this
  · intro h
    have : l.reverse.dropWhile isD = [] := dropWhile_nil.2 (by rw [List.all_reverse]; exact h)
    rw [this]; rfl
end Go.Proofs.YtggiljlndenjoaaDoor.RatM
