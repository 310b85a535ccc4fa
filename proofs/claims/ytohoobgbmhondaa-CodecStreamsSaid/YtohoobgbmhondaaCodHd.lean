/- Valid and Head of the reference. -/
import Derived.Test.YtohoobgbmhondaaCodDep
import Derived.Test.YtohoobgbmhondaaCodLaw
import Derived.Laws.AppendOwnNone
namespace Go.Proofs.Ytohoobgbmhondaa.Cod
open Go Go.RowKit

theorem be_cons (j n : Nat) : be (j + 1) n = UInt8.ofNat (n / 256 ^ j % 256) :: be j n := by
  induction j generalizing n with
  | zero => simp [be]
  | succ j ih =>
    rw [be, ih (n / 256), Nat.div_div_eq_div_mul]
    conv => rhs; rw [be]
    rw [Nat.pow_succ, Nat.mul_comm 256]; rfl
theorem one_owned (w : World) (base : Nat) (x : Value) (hb : base ≤ w.heap.size) : (w.alloc (.cells #[x] 5)).ownsRow base 5 1 (.slice (some ⟨w.heap.size, 0, none⟩) 1 1) 1 [x] :=
  ⟨rfl, .inr ⟨w.heap.size, 1, #[x], rfl, hb, heap_alloc_new w _, Nat.le_refl _, by unfold maxLen; omega, rfl, rfl⟩⟩
theorem Byt.src {w : World} {base : Nat} {a : Addr} {n c : Nat} {l : List UInt8} (h : Byt w base (.slice (some a) n c) l) : ∀ j u, (cellsL l)[j]? = some u → w.cell? (a.add j) = some u := by
  obtain ⟨g, rfl, _, _, _, hc⟩ := h.cells
  intro j u hu
  unfold cellsL at hu
  rw [List.getElem?_map] at hu
  rcases Nat.lt_or_ge j l.length with hj | hj
  · rw [List.getElem?_eq_getElem hj] at hu
    rw [Go.WideShapes.add_plain, Nat.zero_add, hc j hj]
    exact hu
  · rw [List.getElem?_eq_none hj] at hu; cases hu
theorem Byt.none_nil {w : World} {base n c : Nat} {l : List UInt8} (h : Byt w base (.slice none n c) l) : l = [] ∧ n = 0 ∧ c = 0 := by
  rcases h.2 with ⟨e1, e2⟩ | ⟨g, cap, cur, e1, _⟩
  · injection e1 with _ e3 e4
    exact ⟨List.eq_nil_of_length_eq_zero e2, e3, e4⟩
  · cases e1
theorem oneL (l : List UInt8) : ∀ u ∈ cellsL l, u.oneCell' = true := by
  intro u hu
  unfold cellsL at hu
  obtain ⟨x, _, rfl⟩ := List.mem_map.1 hu
  rfl
theorem lenL (l : List UInt8) : (cellsL l).length = l.length * 1 := by simp [cellsL]
theorem byt_cons {w : World} {base : Nat} {v : Value} {c : UInt8} {l : List UInt8} {x : Int} (hx : x = (c.toNat : Int)) (h : w.ownsRow base 5 1 v (1 + l.length) ([.int .u8 x] ++ cellsL l)) : Byt w base v (c :: l) := by
  subst hx
  unfold Byt cellsL at *
  rw [List.map_cons, List.length_cons, Nat.add_comm]
  exact h
theorem byt_cons0 {w : World} {base : Nat} {v : Value} {c : UInt8} {x : Int} (hx : x = (c.toNat : Int)) (h : w.ownsRow base 5 1 v 1 [.int .u8 x]) : Byt w base v [c] := by
  subst hx
  exact h
end Go.Proofs.Ytohoobgbmhondaa.Cod
