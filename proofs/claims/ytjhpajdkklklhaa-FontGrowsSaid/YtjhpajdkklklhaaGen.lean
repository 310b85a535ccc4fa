/- What every walk uses of worlds and endings. -/
import Derived.Test.YtjhpajdkklklhaaRows
import Derived.WalkKit
import Derived.ProofKit
import Derived.Below
import Derived.OpenShut
import Derived.Deep.QuietTactic
import Derived.BigQuiet
import Derived.RegionTactic
import Derived.ChangeAlike
import Derived.Outline
import Derived.Lib.Hide
import Derived.Lib.SmallJoins
import Derived.IntWalk
import Derived.Maps.AppendAt
import Derived.Deep.RegionHeld3
import Derived.Deep.OwnRows
import Derived.Deep.Slices
import Derived.Lib.AppendStr
import Derived.Laws.AppendOwnNone
import Derived.Deep.MidRow
namespace Go.Proofs.Ytjhpajdkklklhaa.By
open Go Go.RowKit Go.ChangeShapes Go.WideShapes

theorem below_new (w : World) (o : Obj) : Below w.heap.size w (w.alloc o) := (Below.refl _ _).alloc (Nat.le_refl _) _
theorem below_self {a w w' : World} (h : Below a.heap.size a w) (hb : Below w.heap.size w w') : Below a.heap.size a w' := h.trans (hb.mono h.size)
theorem below_drew (w : World) : Below w.heap.size w w.drew := ⟨rfl, rfl, rfl, Nat.le_refl _, fun _ _ => rfl⟩
theorem below_drewN (w : World) (n : Nat) : Below w.heap.size w (w.drewN n) := ⟨rfl, rfl, rfl, Nat.le_refl _, fun _ _ => rfl⟩
theorem size_new {w : World} {n : Nat} (hn : w.heap.size = n) (o : Obj) : (w.alloc o).heap.size = n + 1 := by subst hn; simp
theorem new_cell {w : World} {n : Nat} (hn : w.heap.size = n) (cs : Array Value) (ty : TypeId) (j : Nat) {v : Value} (h : cs[j]? = some v) : (w.alloc (.cells cs ty)).cell? ⟨n, j, none⟩ = some v := by subst hn; simp [h]
theorem new_frozen {w : World} {n : Nat} (hn : w.heap.size = n) (cs : Array Value) (ty : TypeId) (j : Nat) : (w.alloc (.cells cs ty)).frozen? ⟨n, j, none⟩ = false := by subst hn; simp
theorem old_cell {n : Nat} {w w' : World} {b o : Nat} {v : Value} (hb : Below n w w') (h : w.cell? ⟨b, o, none⟩ = some v) (hlt : b < n) : w'.cell? ⟨b, o, none⟩ = some v := (hb.cell hlt).trans h
theorem keep_cell {w w' : World} {b o : Nat} {v : Value} (hb : Below w.heap.size w w') (h : w.cell? ⟨b, o, none⟩ = some v) : w'.cell? ⟨b, o, none⟩ = some v := old_cell hb h (World.block_lt_of_cell? _ _ h)
theorem ret_nat {a b : Nat} (h : a = b) : Ending.returned (.int .i64 (a : Int)) = .returned (.int .i64 (b : Int)) := by rw [h]
theorem ret_int {k : IntKind} {a b : Int} (h : a = b) : Ending.returned (.int k a) = .returned (.int k b) := by rw [h]
theorem ret_bool {a b : Bool} (h : a = b) : Ending.returned (.bool a) = .returned (.bool b) := by rw [h]

/-- a struct of many cells, just boxed -/
theorem range_new {w : World} {n : Nat} (hn : w.heap.size = n) (l : List Value) (ty : TypeId) : (w.alloc (.cells l.toArray ty)).rangeAt n 0 l := fun j v h => by
  rw [Nat.zero_add]
  exact new_cell hn _ _ _ (by simpa using h)
theorem range_below {w w' : World} {n o : Nat} {l : List Value} (h : w.rangeAt n o l) (hb : Below w.heap.size w w') : w'.rangeAt n o l := fun j v hj => keep_cell hb (h j v hj)
end Go.Proofs.Ytjhpajdkklklhaa.By
