/- Rows of elements of some cells each: as a list of cells, one element behind the other. -/
import Derived.Test.YtjhpajdkklklhaaGen
namespace Go.Proofs.Ytjhpajdkklklhaa.By
open Go Go.RowKit

theorem flat_len {α : Type} {enc : α → List Value} {k : Nat} (hk : ∀ x, (enc x).length = k) : ∀ l : List α, (l.flatMap enc).length = l.length * k
  | [] => by simp
  | x :: r => by rw [List.flatMap_cons, List.length_append, flat_len hk r, hk, List.length_cons, Nat.succ_mul, Nat.add_comm]
theorem flat_get {α : Type} {enc : α → List Value} {k : Nat} (hk : ∀ x, (enc x).length = k) : ∀ (l : List α) (i o : Nat) (h : i < l.length), o < k → (l.flatMap enc)[i * k + o]? = (enc l[i])[o]?
  | [], i, _, h, _ => by simp at h
  | x :: r, 0, o, _, ho => by rw [List.flatMap_cons, Nat.zero_mul, Nat.zero_add, List.getElem?_append_left (by rw [hk]; exact ho)]; rfl
  | x :: r, i + 1, o, h, ho => by
    rw [List.flatMap_cons, List.getElem?_append_right (by rw [hk, Nat.succ_mul]; omega), hk]
    rw [show (i + 1) * k + o - k = i * k + o by rw [Nat.succ_mul]; omega]
    exact flat_get hk r i o (by simpa using h) ho
/-- a cell of the row is a cell of one element -/
theorem flat_at {α : Type} {enc : α → List Value} {k : Nat} (hk : ∀ x, (enc x).length = k) {l : List α} {j : Nat} {u : Value} (h : (l.flatMap enc)[j]? = some u) :
    ∃ (i o : Nat) (hi : i < l.length), o < k ∧ j = i * k + o ∧ (enc l[i])[o]? = some u := by
  have hj : j < l.length * k := by rw [← flat_len hk]; exact (List.getElem?_eq_some_iff.1 h).1
  have hk0 : 0 < k := Nat.pos_of_ne_zero fun e => by rw [e] at hj; omega
  have h1 : j / k < l.length := Nat.div_lt_of_lt_mul (by rw [Nat.mul_comm]; exact hj)
  have h2 : j % k < k := Nat.mod_lt _ hk0
  have h3 : j = j / k * k + j % k := by rw [Nat.mul_comm]; exact (Nat.div_add_mod _ _).symm
  refine ⟨j / k, j % k, h1, h2, h3, ?_⟩
  rw [← flat_get hk l _ _ h1 h2, ← h3]; exact h
theorem one_of {α : Type} {enc : α → List Value} (h : ∀ x, ∀ u ∈ enc x, u.oneCell' = true) (l : List α) : ∀ u ∈ l.flatMap enc, u.oneCell' = true := fun u hu => by
  obtain ⟨x, _, hx⟩ := List.mem_flatMap.1 hu
  exact h x u hx
/-- what an owned row says of its cells -/
theorem own_row {w : World} {base : Nat} {ty : TypeId} {k : Nat} {v : Value} {n : Nat} {xs : List Value} (h : w.ownsRow base ty k v n xs) :
    (v = .slice none 0 0 ∧ n = 0) ∨ ∃ g cap, v = .slice (some ⟨g, 0, none⟩) n cap ∧ base ≤ g ∧ g < w.heap.size ∧ ∀ j u, xs[j]? = some u → w.cell? ⟨g, j, none⟩ = some u := by
  rcases h.2 with hn | ⟨g, cap, cur, e1, hbg, hgg, _⟩
  · exact .inl hn
  · subst e1
    refine .inr ⟨g, cap, rfl, hbg, (Array.getElem?_eq_some_iff.1 hgg).1, fun j u hj => ?_⟩
    have := World.ownsRow.cells h (g := g) rfl j u hj
    rcases j with _ | j <;> simpa [Addr.add] using this
theorem row_below {w w' : World} {base : Nat} {ty : TypeId} {k : Nat} {v : Value} {n : Nat} {xs : List Value} (h : w.ownsRow base ty k v n xs) (hb : Below w.heap.size w w') : w'.ownsRow base ty k v n xs := by
  have hl := World.ownsRow.lt h
  refine ⟨h.1, ?_⟩
  rcases h.2 with hn | ⟨g, cap, cur, rfl, hbg, hgg, rest⟩
  · exact .inl hn
  · exact .inr ⟨g, cap, cur, rfl, hbg, (hb.block g (hl g rfl).2).trans hgg, rest⟩
end Go.Proofs.Ytjhpajdkklklhaa.By
