/- A block of memory known whole: what its cells hold, that they may be written, what stays of it where nothing old has turned. -/
import Derived.Test.YtggiljlndenjoaaDoorRatTwo
import Derived.OneCell
namespace Go.Proofs.YtggiljlndenjoaaDoor.RatM
open Go Go.RowKit Len

structure Blk (W : World) (B : Nat) (cs : Array Value) (T : TypeId) : Prop where
  at_ : W.heap[B]? = some (.cells cs T (0, 0))
section
variable {W W' : World} {B : Nat} {cs : Array Value} {T : TypeId}
theorem Blk.lt (h : Blk W B cs T) : B < W.heap.size := lt_of_block h.at_
theorem Blk.cell (h : Blk W B cs T) (i : Nat) : W.cell? ⟨B, i, none⟩ = cs[i]? := by simp [World.cell?, h.at_]
theorem Blk.cellv (h : Blk W B cs T) (i : Nat) (v : Value) (hv : cs[i]? = some v) : W.cell? ⟨B, i, none⟩ = some v := (h.cell i).trans hv
theorem Blk.free (h : Blk W B cs T) (i : Nat) : W.frozen? ⟨B, i, none⟩ = false := by simp [World.frozen?, h.at_]
theorem Blk.go (h : Blk W B cs T) (hb : Below W.heap.size W W') : Blk W' B cs T := ⟨(hb.block B h.lt).trans h.at_⟩
theorem Blk.alloc (h : Blk W B cs T) (o : Obj) : Blk (W.alloc o) B cs T := h.go ((Below.refl _ _).alloc (Nat.le_refl _) _)
theorem Blk.drew (h : Blk W B cs T) : Blk W.drew B cs T := h.go (below_drewN (Below.refl _ _) 1)
theorem Blk.drewN (h : Blk W B cs T) (n : Nat) : Blk (W.drewN n) B cs T := h.go (below_drewN (Below.refl _ _) n)
theorem Blk.fresh (W : World) (cs : Array Value) (T : TypeId) : Blk (W.alloc (.cells cs T)) W.heap.size cs T := ⟨heap_alloc_new W _⟩
theorem Blk.goA {o : Obj} (h : Blk W B cs T) (hb : Below (W.alloc o).heap.size (W.alloc o) W') : Blk W' B cs T := (h.alloc o).go hb
theorem Blk.freshA (hb : Below (W.alloc (.cells cs T)).heap.size (W.alloc (.cells cs T)) W') : Blk W' W.heap.size cs T := (Blk.fresh W cs T).go hb
theorem Blk.set (h : Blk W B cs T) (i : Nat) (v : Value) : Blk (W.setCell ⟨B, i, none⟩ v) B (cs.setIfInBounds i v) T := by
  constructor
  have hlt := h.lt
  have h' : W.heap[B] = .cells cs T (0, 0) := by simpa [Array.getElem?_eq_getElem hlt] using h.at_
  show (W.heap.modify B _)[B]? = _
  rw [Array.getElem?_eq_getElem (by simpa using hlt), Array.getElem_modify_self, h']
  rfl
theorem Blk.other (h : Blk W B cs T) {C : Nat} (hC : C ≠ B) (i : Nat) (v : Value) : Blk (W.setCell ⟨C, i, none⟩ v) B cs T :=
  ⟨by rw [Below.heap_setCell _ _ _ _ hC.symm]; exact h.at_⟩
theorem Blk.two {a b : Value} (h : Blk W B #[a, b] T) : Two W B a b := ⟨h.cellv 0 a rfl, h.cellv 1 b rfl⟩
theorem below_setAt {w wr : World} (h : Below w.heap.size w wr) (B : Nat) (hB : w.heap.size ≤ B) (x y : Value) : Below w.heap.size w ((wr.setCell ⟨B, 0, none⟩ x).setCell ⟨B, 1, none⟩ y) := (h.setCell hB _).setCell hB _
end
end Go.Proofs.YtggiljlndenjoaaDoor.RatM
