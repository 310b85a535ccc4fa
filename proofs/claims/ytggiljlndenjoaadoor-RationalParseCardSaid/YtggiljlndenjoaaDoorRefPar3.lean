/- The reference's Parse of whatever string. -/
import Derived.Test.YtggiljlndenjoaaDoorRefPar2
namespace Go.Proofs.YtggiljlndenjoaaDoor.RatM
open Go Go.RowKit Len
theorem parseZ_of (s : ByteArray) : parseZ s.data.toList = if 40 < s.size ∨ decB s.data.toList = false then (0, 0, 3) else pv s.data.toList := by
  have hl : s.data.toList.length = s.size := by simp
  unfold parseZ decB pv
  rw [hl]
  cases digB (Lib.cut s.data.toList [46]).1 <;> cases digB (Lib.cut s.data.toList [46]).2.1 <;> cases (Lib.cut s.data.toList [46]).2.2 <;> simp
theorem refparse_any (s : ByteArray) (w : World) (hs : s.size ≤ 1000) :
    Calls Tryd.prog 9 #[.string s] w (Ret (parseZ s.data.toList) w) := by
  rw [parseZ_of]
  by_cases h : 40 < s.size
  · rw [if_pos (.inl h)]; exact refparse_long s w h hs
  · cases hd : decB s.data.toList with
    | false => rw [if_pos (.inr rfl)]; exact refparse_none s w (by omega) hd
    | true => rw [if_neg (by simp; omega)]; exact refparse_dec s w (by omega) hd
end Go.Proofs.YtggiljlndenjoaaDoor.RatM
