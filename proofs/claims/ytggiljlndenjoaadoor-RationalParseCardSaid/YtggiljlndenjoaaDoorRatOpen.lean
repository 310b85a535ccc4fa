/- The arguments of layer 2's laws, opened: pairs of integers by value, arrays of small integers. -/
import Derived.Test.YtggiljlndenjoaaDoorRatTwo
import Derived.Test.YtggiljlndenjoaaDoorLaid
import Derived.Lib.SmallJoins
namespace Go.Proofs.YtggiljlndenjoaaDoor.RatM
open Go Go.RowKit Go.WideShapes Go.ChangeShapes Go.WideElems Len
section
variable {H : Type} {enc : TypeId × Value → H} {P : Program}

theorem i64_of {x : Int} (h : (Lit.int .i64 x).wf = true) : I64 x := by
  have h' : IntKind.i64.min ≤ x ∧ x ≤ IntKind.i64.max := by simpa [Lit.wf] using h
  have h1 : (-9223372036854775808 : Int) ≤ x := h'.1
  have h2 : x ≤ (9223372036854775807 : Int) := h'.2
  exact ⟨h1, h2⟩

/-- The integers of 8 bits. -/
structure I8 (n : Int) : Prop where
  lo : -128 ≤ n
  hi : n ≤ 127
theorem i8_of {x : Int} (h : (Lit.int .i8 x).wf = true) : I8 x := by
  have h' : IntKind.i8.min ≤ x ∧ x ≤ IntKind.i8.max := by simpa [Lit.wf] using h
  have h1 : (-128 : Int) ≤ x := h'.1
  have h2 : x ≤ (127 : Int) := h'.2
  exact ⟨h1, h2⟩

/-- A struct of two integers, handed over by value. -/
theorem open_two {w : World} {base b0 : Nat} {r : Reach} {spare : Nat → Bool} {held : Bool} {t : TypeId} {f0 f1 : Field} {v : Value} {d : DataW H} {p : List MemPlace} (hs : P.underlying t = some (.struct #[f0, f1])) (hone : Deep.oneCellFields P #[f0, f1] = true) (hC : P.cellsOf t = 2)
    (h0 : P.underlying f0.type = some (.int .i64)) (h1 : P.underlying f1.type = some (.int .i64))
    (hv : Value.okWide P w r b0 t v) (h : DataW.Trod enc P w base spare held t v d p) : ∃ x y, v = .agg #[.int .i64 x, .int .i64 y] ∧ I64 x ∧ I64 y := by
  obtain ⟨v0, v1, y0, y1, n, rfl, _, _, e0, e1⟩ := Joins.open_agg2 hs hone hC hv h
  obtain ⟨x, hx, _, wx⟩ := DataW.trod_int h0 e0
  obtain ⟨y, hy, _, wy⟩ := DataW.trod_int h1 e1
  simp at hx hy
  exact ⟨x, y, by rw [hx, hy], i64_of wx, i64_of wy⟩
/-- An array of small integers, handed over by value: the element at k. -/
theorem open_cells {w : World} {base b0 : Nat} {r : Reach} {spare : Nat → Bool} {held : Bool} {t e : TypeId} {n : Nat} {v : Value} {d : DataW H} {p : List MemPlace} (ht : P.underlying t = some (.array n e)) (hv : Value.okWide P w r b0 t v)
    (h : DataW.Trod enc P w base spare held t v d p) : ∃ cs : Array Value, v = .agg cs ∧ cs.size = P.cellsOf t ∧ ∀ k, k < n → ∃ fuel x, DataW.trod enc P w base spare held fuel e ((cs.toList.drop (k * P.cellsOf e)).take (P.cellsOf e)) = some x := by
  obtain ⟨cs, rfl, hsz⟩ : ∃ cs, v = .agg cs ∧ cs.size = P.cellsOf t := by
    simp only [Value.okWide, ht] at hv
    obtain ⟨cs, h1, h2, _⟩ := hv
    exact ⟨cs, h1, h2⟩
  obtain ⟨fuel, hf⟩ := h
  obtain ⟨xs, m, _, _, _, hl, hel⟩ := DataW.trod_array ht hf
  refine ⟨cs, rfl, hsz, fun k hk => ?_⟩
  have h1 := hel k hk
  rw [List.getElem?_eq_getElem (by omega)] at h1
  exact ⟨m, _, h1⟩
/-- Three pairs of integers of one kind, handed over by value. -/
theorem open_three {w : World} {base b0 : Nat} {r : Reach} {spare : Nat → Bool} {held : Bool} {t e i : TypeId} {k : IntKind} {v : Value} {d : DataW H} {p : List MemPlace} (ht : P.underlying t = some (.array 3 e)) (he : P.underlying e = some (.array 2 i)) (hi : P.underlying i = some (.int k))
    (hct : P.cellsOf t = 6) (hce : P.cellsOf e = 2) (hci : P.cellsOf i = 1) (hv : Value.okWide P w r b0 t v) (h : DataW.Trod enc P w base spare held t v d p) :
    ∃ x0 y0 x1 y1 x2 y2, v = .agg #[.int k x0, .int k y0, .int k x1, .int k y1, .int k x2, .int k y2] ∧ (Lit.int k x0).wf = true ∧ (Lit.int k y0).wf = true ∧ (Lit.int k x1).wf = true ∧ (Lit.int k y1).wf = true ∧ (Lit.int k x2).wf = true ∧ (Lit.int k y2).wf = true := by
  obtain ⟨cs, rfl, hsz, hall⟩ := open_cells ht hv h
  rw [hct] at hsz
  obtain ⟨l⟩ := cs
  match l, hsz with
  | [c0, c1, c2, c3, c4, c5], _ =>
    have pair : ∀ (a b : Value) (fuel : Nat) (y : DataW H × List MemPlace), DataW.trod enc P w base spare held fuel e [a, b] = some y → ∃ x z, a = .int k x ∧ b = .int k z ∧ (Lit.int k x).wf = true ∧ (Lit.int k z).wf = true := by
      intro a b fuel y hy
      obtain ⟨xs, m, _, _, _, hl, hel⟩ := DataW.trod_array he hy
      have e0 := hel 0 (by omega)
      have e1 := hel 1 (by omega)
      rw [hci, List.getElem?_eq_getElem (by omega)] at e0 e1
      obtain ⟨x, q0, _, w0⟩ := DataW.trod_int hi e0
      obtain ⟨z, q1, _, w1⟩ := DataW.trod_int hi e1
      simp at q0 q1
      exact ⟨x, z, q0, q1, w0, w1⟩
    obtain ⟨f0, y0, e0⟩ := hall 0 (by omega)
    obtain ⟨f1, y1, e1⟩ := hall 1 (by omega)
    obtain ⟨f2, y2, e2⟩ := hall 2 (by omega)
    rw [hce] at e0 e1 e2
    obtain ⟨a0, b0, rfl, rfl, u0, v0⟩ := pair c0 c1 _ _ e0
    obtain ⟨a1, b1, rfl, rfl, u1, v1⟩ := pair c2 c3 _ _ e1
    obtain ⟨a2, b2, rfl, rfl, u2, v2⟩ := pair c4 c5 _ _ e2
    exact ⟨a0, b0, a1, b1, a2, b2, rfl, u0, v0, u1, v1, u2, v2⟩
theorem i16_of {x : Int} (h : (Lit.int .i16 x).wf = true) : -32768 ≤ x ∧ x ≤ 32767 := by
  have h' : IntKind.i16.min ≤ x ∧ x ≤ IntKind.i16.max := by simpa [Lit.wf] using h
  have h1 : (-32768 : Int) ≤ x := h'.1
  have h2 : x ≤ (32767 : Int) := h'.2
  exact ⟨h1, h2⟩
end
end Go.Proofs.YtggiljlndenjoaaDoor.RatM
