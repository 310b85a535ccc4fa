/- The example that every statement of layer 2 checks first holds: the text of Make(6, -4) is -3/2; and 'is' of equal results is true. -/
import Derived.Test.YtggiljlndenjoaaDoorRatText
namespace Go.Proofs.YtggiljlndenjoaaDoor.RatM
open Go Go.RowKit Len

theorem make_6 : makeZ 6 (-4) = (-3, 2, 0) := by decide +kernel
theorem text_6 : textR (-3) 2 = [45, 51, 47, 50] := by decide +kernel
theorem make6_any (w : World) : Calls Tryd.prog 24 #[.int .i64 6, .int .i64 (-4)] w fun e w' => e = .returned (.tuple #[.agg #[.int .i64 (-3), .int .i64 2], .int .i64 0]) ∧ Below w.heap.size w w' :=
  (make_any 6 (-4) w (by omega) (by omega) (by omega) (by omega)).mono fun e w' ⟨he, hb⟩ => ⟨by rw [he, make_6], hb⟩
theorem text6_any (w : World) (hT : Tabs w) : Calls Tryd.prog 25 #[.agg #[.int .i64 (-3), .int .i64 2]] w fun e w' => e = .returned (.string ⟨#[45, 51, 47, 50]⟩) ∧ Below w.heap.size w w' :=
  (text_any (-3) 2 w ⟨by omega, by omega⟩ ⟨by omega, by omega⟩ hT).mono fun e w' ⟨he, hb⟩ => ⟨by rw [he, text_6], hb⟩

theorem awake_any (w : World) (hT : Tabs w) : Calls Tryd.prog 7 #[] w fun e w' => e = .returned (.bool true) ∧ Below w.heap.size w w' := by
  go_enter Tryd.func7, Tryd.ntmps7
  go_wp2_with fail
  refine (make6_any _).mono ?_
  rintro e w1 ⟨rfl, hb1⟩
  have hT1 := hT.below hb1
  have hb1' : Below w.heap.size w (w1.alloc (.cells #[.int .i64 (-3), .int .i64 2] 24)) := hb1.alloc hb1.size _
  have hT2 := hT.below hb1'
  go_wp2_with fail
  refine (text6_any _ hT2).mono ?_
  rintro e w2 ⟨rfl, hb2⟩
  go_wp2_with fail
  go_ret
  exact ⟨rfl, hb1'.trans (hb2.mono hb1'.size)⟩

/-- 'is' of a result with itself -/
theorem is_same (r : Res) (w : World) : Calls Tryd.prog 10 #[.agg #[.int .i64 r.1, .int .i64 r.2.1], .int .i64 r.2.2, .agg #[.int .i64 r.1, .int .i64 r.2.1], .int .i64 r.2.2] w
    fun e w' => e = .returned (.bool true) ∧ Below w.heap.size w w' := by
  obtain ⟨a, b, c⟩ := r
  go_enter Tryd.func10, Tryd.ntmps10
  go_wp2
  go_ret
  exact ⟨rfl, ((Below.refl _ _).alloc (Nat.le_refl _) _).alloc (by simp) _⟩
end Go.Proofs.YtggiljlndenjoaaDoor.RatM
