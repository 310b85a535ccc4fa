/- Trees of package api: plain mathematics. -/
import Derived.Test.YtohoobgbmhondaaRows
namespace Go.Proofs.Ytohoobgbmhondaa.Nod

def I64 (n : Int) : Prop := -9223372036854775808 ≤ n ∧ n ≤ 9223372036854775807
inductive N where
  | node (k : Int) (s : List UInt8) (c : Int) (l : List N)
mutual
def szN : N → Nat
  | .node _ _ _ l => 1 + szNL l
def szNL : List N → Nat
  | [] => 0
  | t :: r => szN t + szNL r
end
mutual
/-- all texts have at most B bytes, all rows at most C items -/
def txN (B C : Nat) : N → Prop
  | .node _ s _ l => s.length ≤ B ∧ l.length ≤ C ∧ txNL B C l
def txNL (B C : Nat) : List N → Prop
  | [] => True
  | t :: r => txN B C t ∧ txNL B C r
end
theorem szN_pos (t : N) : 1 ≤ szN t := by cases t; simp [szN]
theorem szNL_append (a b : List N) : szNL (a ++ b) = szNL a + szNL b := by
  induction a with
  | nil => simp [szNL]
  | cons t r ih => simp only [List.cons_append, szNL, ih]; omega
theorem szNL_get {l : List N} {j : Nat} (h : j < l.length) : szN l[j] ≤ szNL l := by
  induction l generalizing j with
  | nil => simp at h
  | cons t r ih =>
    cases j with
    | zero => simp [szNL]
    | succ j => have := ih (j := j) (by simpa using h); simp only [List.getElem_cons_succ, szNL]; omega
theorem szNL_take (l : List N) (j : Nat) : szNL (l.take j) ≤ szNL l := by
  have := szNL_append (l.take j) (l.drop j)
  rw [List.take_append_drop] at this; omega
theorem szNL_take_succ {l : List N} {j : Nat} (h : j < l.length) : szNL (l.take (j + 1)) = szNL (l.take j) + szN l[j] := by
  rw [List.take_succ_eq_append_getElem h, szNL_append]; simp [szNL]
theorem szNL_len (l : List N) : l.length ≤ szNL l := by
  induction l with
  | nil => simp
  | cons t r ih => have := szN_pos t; simp only [szNL, List.length_cons]; omega
theorem txNL_get {B C : Nat} {l : List N} (h : txNL B C l) {j : Nat} (hj : j < l.length) : txN B C l[j] := by
  induction l generalizing j with
  | nil => simp at hj
  | cons t r ih =>
    simp only [txNL] at h
    cases j with
    | zero => exact h.1
    | succ j => simpa using ih h.2 (j := j) (by simpa using hj)
end Go.Proofs.Ytohoobgbmhondaa.Nod
