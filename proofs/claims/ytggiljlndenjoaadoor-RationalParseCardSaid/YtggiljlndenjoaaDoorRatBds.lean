/- Results are integers of 64 bits, and small fractions have small results. -/
import Derived.Test.YtggiljlndenjoaaDoorRatNumbers
import Derived.Test.YtggiljlndenjoaaDoorRatLawOps
namespace Go.Proofs.YtggiljlndenjoaaDoor.RatM
open Go Go.RowKit Len

/-- The parts of a result. -/
structure Bd (r : Res) : Prop where
  x : I64 r.1
  y : I64 r.2.1
theorem bd_mk {a b c : Int} (h1 : -2147483647 ≤ a) (h2 : a ≤ 2147483647) (h3 : -2147483647 ≤ b) (h4 : b ≤ 2147483647) : Bd (a, b, c) := ⟨⟨by show (-9223372036854775808 : Int) ≤ a; omega, by show a ≤ (9223372036854775807 : Int); omega⟩, ⟨by show (-9223372036854775808 : Int) ≤ b; omega, by show b ≤ (9223372036854775807 : Int); omega⟩⟩
theorem bd_repr (q : Rat) : Bd (repr q) := by
  unfold repr
  split
  · next h => exact bd_mk (by omega) (by omega) (by omega) (by omega)
  · exact bd_mk (by omega) (by omega) (by omega) (by omega)
theorem bd_make (n d : Int) : Bd (makeZ n d) := by
  unfold makeZ; split
  · exact bd_mk (by omega) (by omega) (by omega) (by omega)
  · exact bd_repr _
theorem bd_add (a b c d : Int) : Bd (addZ a b c d) := by
  unfold addZ; split
  · exact bd_repr _
  · exact bd_mk (by omega) (by omega) (by omega) (by omega)
theorem bd_sub (a b c d : Int) : Bd (subZ a b c d) := by
  unfold subZ; split
  · exact bd_repr _
  · exact bd_mk (by omega) (by omega) (by omega) (by omega)
theorem bd_mul (a b c d : Int) : Bd (mulZ a b c d) := by
  unfold mulZ; split
  · exact bd_repr _
  · exact bd_mk (by omega) (by omega) (by omega) (by omega)
theorem bd_div (a b c d : Int) : Bd (divZ a b c d) := by
  unfold divZ; split
  · split
    · exact bd_mk (by omega) (by omega) (by omega) (by omega)
    · exact bd_repr _
  · exact bd_mk (by omega) (by omega) (by omega) (by omega)
theorem bd_pow (a b n : Int) : Bd (powZ a b n) := by
  unfold powZ; split
  · split
    · exact bd_repr _
    · split
      · exact bd_mk (by omega) (by omega) (by omega) (by omega)
      · exact bd_repr _
  · exact bd_mk (by omega) (by omega) (by omega) (by omega)
theorem bd_op (k : Int) (x y : Res) : Bd (opZ k x y) := by
  unfold opZ; split
  · split
    · exact bd_add ..
    · split
      · exact bd_sub ..
      · split
        · exact bd_mul ..
        · exact bd_div ..
  · exact bd_mk (by omega) (by omega) (by omega) (by omega)
theorem bd_of {r s : Res} (h : Bd r) (e : r = s) : Bd s := e ▸ h

/-- A fraction of small integers: valid, without an error, and small. -/
theorem small_ok {n d : Int} (hn1 : -32768 ≤ n) (hn2 : n ≤ 32768) (hd1 : -32768 ≤ d) (hd2 : d ≤ 32768) : (makeZ n (denZ d)).2.2 = 0 ∧ validR (makeZ n (denZ d)).1 (makeZ n (denZ d)).2.1 = true := by
  have hz : denZ d ≠ 0 := by unfold denZ; split <;> omega
  have hb : (denZ d).natAbs ≤ 2147483647 := by unfold denZ; split <;> omega
  rw [makeZ, if_neg hz]
  have e := repr_small (n := n) hz (by omega) hb
  exact ⟨e, (repr_ok e).1⟩
theorem small_le {n d : Int} (hn1 : -32768 ≤ n) (hn2 : n ≤ 32768) (hd1 : -32768 ≤ d) (hd2 : d ≤ 32768) : (makeZ n (denZ d)).1.natAbs ≤ 32768 ∧ (makeZ n (denZ d)).2.1 ≤ 32768 := by
  have hz : denZ d ≠ 0 := by unfold denZ; split <;> omega
  have hb : (denZ d).natAbs ≤ 32768 := by unfold denZ; split <;> omega
  rw [makeZ, if_neg hz]
  have p1 := Nat.div_le_self n.natAbs (Nat.gcd n.natAbs (denZ d).natAbs)
  have p2 := Nat.div_le_self (denZ d).natAbs (Nat.gcd n.natAbs (denZ d).natAbs)
  rw [repr_in (n := n) hz (by omega) (by omega)]
  refine ⟨?_, ?_⟩
  · show (if decide (n < 0) = decide (denZ d < 0) then ((n.natAbs / Nat.gcd n.natAbs (denZ d).natAbs : Nat) : Int) else -((n.natAbs / Nat.gcd n.natAbs (denZ d).natAbs : Nat) : Int)).natAbs ≤ 32768
    split
    · rw [Int.natAbs_natCast]; omega
    · rw [Int.natAbs_neg, Int.natAbs_natCast]; omega
  · show (((denZ d).natAbs / Nat.gcd n.natAbs (denZ d).natAbs : Nat) : Int) ≤ 32768
    omega
end Go.Proofs.YtggiljlndenjoaaDoor.RatM
