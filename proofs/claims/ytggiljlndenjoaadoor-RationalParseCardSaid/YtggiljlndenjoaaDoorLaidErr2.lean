/- From the rows' longer lists to what the walks of Parse ask: strconv's table and error, and a variable of package bytealg. -/
import Derived.Test.YtggiljlndenjoaaDoorLaid
import Derived.Test.YtggiljlndenjoaaDoorRatParse
import Derived.Stop.LaidErr
import Derived.Shelf.Vars
import Derived.HandedShaped
namespace Go.Proofs.YtggiljlndenjoaaDoor.Laid
open Go Go.RowKit

theorem star : Tryd.prog.typeName? 3 118 = some "*errors.errorString" := by kernel_rfl
theorem errType : (Tryd.prog.globals[2]?).map (·.type) = some 58 := by kernel_rfl
theorem cellsErr : Tryd.prog.cellsOf 120 = 1 := by kernel_rfl
theorem cellsStr : Tryd.prog.cellsOf 9 = 1 := by kernel_rfl
theorem rowErr (u : TypeId) (h : Tryd.prog.typeName? 3 u = some "*errors.errorString") : u = 118 :=
  typeName_ptr_named (nm := "errors.errorString") (by kernel_rfl) (by kernel_rfl) (by decide) u h

theorem ptabs_of {W : World} {a b c : String × DataW Unit} {rest : List (String × DataW Unit)} (h : laidMet Tryd.prog (a :: b :: ("internal/strconv.uint64pow10", Rows.laid_internal_strconv_uint64pow10) :: c :: ("strconv.ErrRange", Rows.laid_strconv_ErrRange) :: rest) W) (hs : W.ShapedOpen Tryd.prog) : RatM.PTabs W := by
  have h5 := tail_ (tail_ (tail_ (tail_ h)))
  obtain ⟨e, s, hv, _⟩ := laid_sentinel h5 RatM.gErr errType Tryd.underlying58 rowErr Tryd.underlying118 Tryd.underlying120 rfl rfl Tryd.underlying9 cellsErr cellsStr
  exact ⟨tabs_of h, Go.Proofs.cell_of_shapedOpen_int (zero := #[.int .i64 0]) (t := 3) hs (of_decide_eq_true (by kernel_rfl)) (by kernel_rfl) rfl (by kernel_rfl) (by kernel_rfl) Tryd.underlying3, _, _, hv⟩
end Go.Proofs.YtggiljlndenjoaaDoor.Laid
