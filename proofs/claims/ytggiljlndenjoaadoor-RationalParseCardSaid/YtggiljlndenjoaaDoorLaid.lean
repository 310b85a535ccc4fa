/- From the row's list of variables to what the walks ask; and a world that meets the list. -/
import Derived.Test.YtggiljlndenjoaaDoorFrame
import Derived.Test.YtggiljlndenjoaaDoorTabs
import Derived.Stop.LaidErr
namespace Go.Proofs.YtggiljlndenjoaaDoor.Laid
open Go Go.RowKit

theorem gPowType : (Tryd.prog.globals[3]?).map (·.type) = some 122 := by kernel_rfl
theorem cellsTab : Tryd.prog.cellsOf 122 = 20 := by kernel_rfl
theorem cellsU64 : Tryd.prog.cellsOf 75 = 1 := by kernel_rfl
theorem powData {H : Type} : (Rows.laid_internal_strconv_uint64pow10 : DataW H) = Lib.tabData .u64 Lib.pow10Tab := by rfl

theorem tail_ {P : Program} {W : World} {x : String × DataW Unit} {rest : List (String × DataW Unit)} (h : laidMet P (x :: rest) W) : laidMet P rest W := laidMet.tail h

/-- The table stands third on the list. -/
theorem tabs_of {W : World} {a b : String × DataW Unit} {rest : List (String × DataW Unit)} (h : laidMet Tryd.prog (a :: b :: ("internal/strconv.uint64pow10", Rows.laid_internal_strconv_uint64pow10) :: rest) W) : Len.Tabs W := by
  have h3 := tail_ (tail_ h)
  rw [powData] at h3
  exact ⟨Lib.tabIs_of_head Len.gPow gPowType Tryd.underlying122 Tryd.underlying75 cellsU64 cellsTab h3⟩
end Go.Proofs.YtggiljlndenjoaaDoor.Laid
