/- bytes.Clone, as a new byte string. -/
import Derived.Test.YtohoobgbmhondaaCodHd2
import Derived.Test.YtohoobgbmhondaaShelf
namespace Go.Proofs.Ytohoobgbmhondaa.Cod
open Go Go.RowKit

theorem clone_any {w : World} {n0 : Nat} {A : Option Addr} {r : List UInt8} (c : Nat) (hB : BytAt w n0 A r) (hA : A = none → r = []) (hl : r.length ≤ 140737488355328) :
    Calls Try.prog 31 #[.slice A r.length c] w (Fresh w r) := by
  cases A with
  | none =>
    refine (Try.bytes_Clone_nil r.length c w).mono ?_
    rintro e w' ⟨rfl, rfl⟩
    obtain rfl := hA rfl
    exact Fresh.mk (Byt.nil _ _) (Below.refl _ _)
  | some a =>
    have hc : ∀ i, i < r.length → w.cell? (a.add i) = some (.int .u8 ((r.map fun b => (b.toNat : Int)).getD i 0)) := fun i hi => by
      obtain ⟨g, off, h1, _, h3⟩ := hB.pos (by omega)
      injection h1 with h1
      subst h1
      rw [Go.WideShapes.add_plain, h3 i hi]
      congr 2
      rw [List.getD, List.getElem?_eq_getElem (by rw [List.length_map]; exact hi)]
      simp
    refine (Try.bytes_Clone_at a r.length c (r.map fun b => (b.toNat : Int)) w (by simp) hl hc).mono ?_
    rintro e w' ⟨v', rfl, hown, _, hb⟩
    refine Fresh.mk ?_ hb
    unfold Byt cellsL
    rw [List.map_map] at hown
    exact hown
end Go.Proofs.Ytohoobgbmhondaa.Cod
