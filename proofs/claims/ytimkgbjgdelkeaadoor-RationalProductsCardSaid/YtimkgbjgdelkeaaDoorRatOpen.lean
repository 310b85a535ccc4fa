/- The arguments of layer 2's laws, opened: pairs of integers by value, arrays of small integers. -/
import Derived.Test.YtimkgbjgdelkeaaDoorRatTwo
import Derived.Test.YtimkgbjgdelkeaaDoorLaid
import Derived.Lib.SmallJoins
namespace Go.Proofs.YtimkgbjgdelkeaaDoor.RatM
open Go Go.RowKit Go.WideShapes Go.ChangeShapes Go.WideElems Len
section
variable {H : Type} {enc : TypeId × Value → H} {P : Program}

theorem i64_of {x : Int} (h : (Lit.int .i64 x).wf = true) : I64 x := by
  have h' : IntKind.i64.min ≤ x ∧ x ≤ IntKind.i64.max := by simpa [Lit.wf] using h
  have h1 : (-9223372036854775808 : Int) ≤ x := h'.1
  have h2 : x ≤ (9223372036854775807 : Int) := h'.2
  exact ⟨h1, h2⟩

/-- A struct of two integers, handed over by value. -/
theorem open_two {w : World} {base b0 : Nat} {r : Reach} {spare : Nat → Bool} {held : Bool} {t : TypeId} {f0 f1 : Field} {v : Value} {d : DataW H} {p : List MemPlace} (hs : P.underlying t = some (.struct #[f0, f1])) (hone : Deep.oneCellFields P #[f0, f1] = true) (hC : P.cellsOf t = 2)
    (h0 : P.underlying f0.type = some (.int .i64)) (h1 : P.underlying f1.type = some (.int .i64))
    (hv : Value.okWide P w r b0 t v) (h : DataW.Trod enc P w base spare held t v d p) : ∃ x y, v = .agg #[.int .i64 x, .int .i64 y] ∧ I64 x ∧ I64 y := by
  obtain ⟨v0, v1, y0, y1, n, rfl, _, _, e0, e1⟩ := Joins.open_agg2 hs hone hC hv h
  obtain ⟨x, hx, _, wx⟩ := DataW.trod_int h0 e0
  obtain ⟨y, hy, _, wy⟩ := DataW.trod_int h1 e1
  simp at hx hy
  exact ⟨x, y, by rw [hx, hy], i64_of wx, i64_of wy⟩
end
end Go.Proofs.YtimkgbjgdelkeaaDoor.RatM
