/- The reference's Parse, of what is no decimal. -/
import Derived.Test.YtggiljlndenjoaaDoorRefRed
namespace Go.Proofs.YtggiljlndenjoaaDoor.RatM
open Go Go.RowKit Len

theorem refparse_long (s : ByteArray) (w : World) (h : 40 < s.size) (hs : s.size ≤ 1000) :
    Calls Tryd.prog 9 #[.string s] w (Ret (0, 0, 3) w) := by
  go_enter Tryd.func9, Tryd.ntmps9
  go_wp2_with fail
  exact bodyPost_ret (v := .tuple #[.agg #[.int .i64 0, .int .i64 0], .int .i64 3]) (by simp [results, Tryd.results9, go_sem]) rfl (ret_of rfl ((Below.refl _ _).alloc (Nat.le_refl _) _))

theorem refparse_none (s : ByteArray) (w : World) (h : s.size ≤ 40) (hd : decB s.data.toList = false) :
    Calls Tryd.prog 9 #[.string s] w (Ret (0, 0, 3) w) := by
  have hD : Hid (∀ w : World, Calls Tryd.prog 31 #[.string s] w fun e w' => e = .returned (.bool false) ∧ w = w') := Lib.hid fun w => by have := decimal_any s w (by omega); rwa [hd] at this
  clear hd
  go_enter Tryd.func9, Tryd.ntmps9
  go_wp2_with fail
  refine (hD.out _).mono ?_
  rintro e w1 ⟨rfl, rfl⟩
  go_wp2_with fail
  exact bodyPost_ret (v := .tuple #[.agg #[.int .i64 0, .int .i64 0], .int .i64 3]) (by simp [results, Tryd.results9, go_sem]) rfl (ret_of rfl ((Below.refl _ _).alloc (Nat.le_refl _) _))
end Go.Proofs.YtggiljlndenjoaaDoor.RatM
