/- Head of the reference. -/
import Derived.Test.YtohoobgbmhondaaCodHd
namespace Go.Proofs.Ytohoobgbmhondaa.Cod
open Go Go.RowKit

/-- a new byte string -/
def Fresh (w : World) (L : List UInt8) (e : Ending) (w' : World) : Prop := ∃ A c, e = .returned (.slice A L.length c) ∧ Byt w' w.heap.size (.slice A L.length c) L ∧ Below w.heap.size w w'
theorem Fresh.mk {w w' : World} {v : Value} {L : List UInt8} (h : Byt w' w.heap.size v L) (hb : Below w.heap.size w w') : Fresh w L (.returned v) w' := by
  obtain ⟨A, c, rfl⟩ := h.form
  exact ⟨A, c, rfl, h, hb⟩
end Go.Proofs.Ytohoobgbmhondaa.Cod
