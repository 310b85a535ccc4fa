/- The example that every statement of layer 1 checks first holds: Scale(25, 50) is 13, and the text of 12340 is 12.34pt. -/
import Derived.Test.YtokdeeplblaieaaDoorLenText
import Derived.Test.YtokdeeplblaieaaDoorLenCalls
namespace Go.Proofs.YtokdeeplblaieaaDoor.Len
open Go Go.RowKit

theorem scale_25 (w : World) : Calls Tryd.prog 13 #[.int .i64 25, .int .i64 50] w fun e w' => e = .returned (.int .i64 13) ∧ Below w.heap.size w w' :=
  (scale_any 25 50 w).mono fun e w' ⟨he, m, hw⟩ => ⟨by rw [he, show scaleZ 25 50 = 13 by decide], by rw [hw]; exact below_drewN (Below.refl _ _) m⟩
theorem text_12340_any (w : World) (hT : Tabs w) : Calls Tryd.prog 23 #[.int .i64 12340] w fun e w' => e = .returned (.string ⟨#[49, 50, 46, 51, 52, 112, 116]⟩) ∧ Below w.heap.size w w' :=
  (text_any 12340 w (by omega) (by omega) hT).mono fun e w' ⟨he, hw⟩ => ⟨by rw [he, text_12340], hw⟩

theorem awake_any (w : World) (hT : Tabs w) : Calls Tryd.prog 10 #[] w fun e w' => e = .returned (.bool true) ∧ Below w.heap.size w w' := by
  go_enter Tryd.func10, Tryd.ntmps10
  go_wp2_with fail
  refine (scale_25 _).mono ?_
  rintro e w1 ⟨rfl, hb1⟩
  have hT1 := hT.below hb1
  go_wp2_with fail
  refine (text_12340_any _ hT1).mono ?_
  rintro e w2 ⟨rfl, hb2⟩
  go_wp2_with fail
  go_ret
  exact ⟨rfl, hb1.trans (hb2.mono hb1.size)⟩
end Go.Proofs.YtokdeeplblaieaaDoor.Len
