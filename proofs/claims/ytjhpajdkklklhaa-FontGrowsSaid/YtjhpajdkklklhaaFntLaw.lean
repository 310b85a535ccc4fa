/- The program's package font: Scaled whole; what the laws call first. -/
import Derived.Test.YtjhpajdkklklhaaFntScaled2
import Derived.Laws.StructEq
namespace Go.Proofs.Ytjhpajdkklklhaa.Fon
open Go Go.RowKit By

theorem scaled_any (g : Gl) (p : Int) (w : World) :
    Calls Try.prog 21 #[.agg #[.string g.name, .int .i64 g.W, .int .i64 g.H, .int .i64 g.D, .int .i64 g.I, .int .i64 g.A], .int .i64 p] w fun e w' => e = .returned (.tuple #[.agg #[.string (scaled g p).1.name, .int .i64 (scaled g p).1.W, .int .i64 (scaled g p).1.H, .int .i64 (scaled g p).1.D, .int .i64 (scaled g p).1.I, .int .i64 (scaled g p).1.A], .int .i64 (scaled g p).2]) ∧ Below w.heap.size w w' := by
  cases hp : within p 1 1000 with
  | false =>
    have e : scaled g p = (zeroG, 2) := by unfold scaled; rw [if_pos hp]
    rw [e]
    exact scaled_out g p w hp
  | true =>
    cases hm : metB g with
    | false =>
      have e : scaled g p = (zeroG, 1) := by unfold scaled; rw [if_neg (by rw [hp]; decide), if_pos hm]
      rw [e]
      exact scaled_arg g p w hp hm
    | true =>
      have e : scaled g p = (sclG g p, 0) := by unfold scaled; rw [if_neg (by rw [hp]; decide), if_neg (by rw [hm]; decide)]
      rw [e]
      exact scaled_good g p w hp hm
theorem eql_gl (g : Gl) (w : World) : (binOp .eql 31 (.agg #[.string g.name, .int .i64 g.W, .int .i64 g.H, .int .i64 g.D, .int .i64 g.I, .int .i64 g.A]) (.agg #[.string g.name, .int .i64 g.W, .int .i64 g.H, .int .i64 g.D, .int .i64 g.I, .int .i64 g.A])).run Try.prog w = .ok (.bool true) w := by
  simp [go_sem, Result.andThen]
def awakeG : Gl := { name := ⟨#[120]⟩, W := 500, H := 431, D := -11, I := 0, A := 0 }
def awakeR : Gl := { name := ⟨#[120]⟩, W := 350, H := 302, D := -8, I := 0, A := 0 }
theorem awake_scl : scaled awakeG 70 = (awakeR, 0) := by kernel_rfl
theorem awake_any (w : World) : Calls Try.prog 10 #[] w fun e w' => e = .returned (.bool true) ∧ Below w.heap.size w w' := by
  have HC : Hid (Calls Try.prog 21 #[.agg #[.string ⟨#[120]⟩, .int .i64 500, .int .i64 431, .int .i64 (-11), .int .i64 0, .int .i64 0], .int .i64 70] w fun e w' => e = .returned (.tuple #[.agg #[.string ⟨#[120]⟩, .int .i64 350, .int .i64 302, .int .i64 (-8), .int .i64 0, .int .i64 0], .int .i64 0]) ∧ Below w.heap.size w w') := Lib.hid (by
    have h := scaled_any awakeG 70 w
    rw [awake_scl] at h
    exact h)
  go_enter Try.func10, Try.ntmps10
  go_wp2_with (first
    | (go_at_call 21; refine HC.out.mono ?_; rintro e w2 ⟨rfl, hb2⟩
       have HB2 := Lib.hid hb2
       clear hb2)
    | fail)
  go_ret
  exact ⟨rfl, below_self HB2.out (below_new _ _)⟩
end Go.Proofs.Ytjhpajdkklklhaa.Fon
