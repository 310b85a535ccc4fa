/- What the row's list gives the walks: the table of powers of ten lies in memory; it lies there still wherever nothing old has turned. -/
import Derived.Test.YtggiljlndenjoaaDoorRows
import Derived.Test.YtggiljlndenjoaaDoorShelfText
import Derived.WalkKit
import Derived.ProofKit
import Derived.WalkSmall
import Derived.Lib.LaidTab
import Derived.Sort.Grow
namespace Go.Proofs.YtggiljlndenjoaaDoor.Len
open Go Go.RowKit Go.Sort

/-- New blocks and draws turn nothing old. -/
theorem below_grow (w : World) (k : Nat) (os : Array Obj) : Below w.heap.size w (grow (w.drewN k) os) where
  os := rfl
  tape := rfl
  output := rfl
  size := by simp [grow]
  block j hj := Array.getElem?_append_left hj

/-- The table that strconv reads. -/
structure Tabs (w : World) : Prop where
  pow : Lib.TabIs Tryd.prog w "internal/strconv.uint64pow10" .u64 Lib.pow10Tab

theorem gPow : Tryd.prog.globalNamed "internal/strconv.uint64pow10" = some 3 := by kernel_rfl

theorem Tabs.lt {w : World} (h : Tabs w) : 3 < w.heap.size := by
  have hp := h.pow
  unfold Lib.TabIs World.var? at hp
  simp only [gPow, Option.bind_some] at hp
  rcases Nat.lt_or_ge 3 w.heap.size with hl | hl
  · exact hl
  · rw [Array.getElem?_eq_none hl] at hp; simp at hp
theorem Tabs.below {w w' : World} (h : Tabs w) (hb : Below w.heap.size w w') : Tabs w' := ⟨var?_below hb gPow h.lt h.pow⟩

end Go.Proofs.YtggiljlndenjoaaDoor.Len
