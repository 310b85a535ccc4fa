/- What stays of the worlds that follow each other in a law's walk: two cells of a block, the tables, and all that lay in memory. -/
import Derived.Test.YtggiljlndenjoaaDoorRatAwake
import Derived.Deep.DeepCutAuto
namespace Go.Proofs.YtggiljlndenjoaaDoor.RatM
open Go Go.RowKit Len

/-- Two cells of a block. -/
structure Two (W : World) (B : Nat) (a b : Value) : Prop where
  c0 : W.cell? ⟨B, 0, none⟩ = some a
  c1 : W.cell? ⟨B, 1, none⟩ = some b
theorem Two.lt {W : World} {B : Nat} {a b : Value} (h : Two W B a b) : B < W.heap.size := World.block_lt_of_cell? _ _ h.c0
theorem Two.go {W W' : World} {B : Nat} {a b : Value} (h : Two W B a b) (hb : Below W.heap.size W W') : Two W' B a b :=
  ⟨(hb.cell (p := ⟨B, 0, none⟩) h.lt).trans h.c0, (hb.cell (p := ⟨B, 1, none⟩) h.lt).trans h.c1⟩
theorem Two.fresh (W : World) (a b : Value) (T : TypeId) : Two (W.alloc (.cells #[a, b] T)) W.heap.size a b := ⟨by simp, by simp⟩
theorem Two.fresh1 (w : World) (o : Obj) (c d : Value) (T : TypeId) : Two ((w.alloc o).alloc (.cells #[c, d] T)) (w.heap.size + 1) c d := ⟨by simp, by simp⟩
theorem Two.at2 (w : World) (o p : Obj) (c d : Value) (T : TypeId) : Two (((w.alloc o).alloc p).alloc (.cells #[c, d] T)) (w.heap.size + 2) c d := by simpa using Two.fresh ((w.alloc o).alloc p) c d T
theorem Two.at3 (w : World) (o p q : Obj) (c d : Value) (T : TypeId) : Two ((((w.alloc o).alloc p).alloc q).alloc (.cells #[c, d] T)) (w.heap.size + 3) c d := by simpa using Two.fresh (((w.alloc o).alloc p).alloc q) c d T
theorem Two.alloc {W : World} {B : Nat} {a b : Value} (h : Two W B a b) (o : Obj) : Two (W.alloc o) B a b := h.go ((Below.refl _ _).alloc (Nat.le_refl _) _)
theorem Two.drew {W : World} {B : Nat} {a b : Value} (h : Two W B a b) : Two W.drew B a b := h.go (below_drewN (Below.refl _ _) 1)
theorem Two.goA {W W' : World} {o : Obj} {B : Nat} {a b : Value} (h : Two W B a b) (hb : Below (W.alloc o).heap.size (W.alloc o) W') : Two W' B a b := (h.alloc o).go hb
theorem Two.freshA {W W' : World} {a b : Value} {T : TypeId} (hb : Below (W.alloc (.cells #[a, b] T)).heap.size (W.alloc (.cells #[a, b] T)) W') : Two W' W.heap.size a b := (Two.fresh W a b T).go hb
theorem Kept.alloc {w0 w : World} (h : Kept w0 w) (o : Obj) : Kept w0 (w.alloc o) := h.go ((Below.refl _ _).alloc (Nat.le_refl _) _)
theorem Kept.goA {w0 w w' : World} {o : Obj} (h : Kept w0 w) (hb : Below (w.alloc o).heap.size (w.alloc o) w') : Kept w0 w' := (h.alloc o).go hb
theorem Kept.refl {w : World} (h : Tabs w) : Kept w w := ⟨h, Below.refl _ _⟩

theorem ret_at {P : Program} {f : FuncId} {xs : Array Value} {w : World} {z r : Res} (h : Calls P f xs w (Ret z w)) (e : Hid (z = r)) : Calls P f xs w (Ret r w) := e.out ▸ h
theorem ret2_at {P : Program} {f : FuncId} {xs : Array Value} {w : World} {z r : Int × Int} (h : Calls P f xs w (Ret2 z w)) (e : Hid (z = r)) : Calls P f xs w (Ret2 r w) := e.out ▸ h
end Go.Proofs.YtggiljlndenjoaaDoor.RatM
