/- Two operations of a drawn region of which either may come up first. -/
import Derived.Test.YtjhpajdkklklhaaHeld
namespace Go.Proofs.Ytjhpajdkklklhaa.By
open Go Go.RowKit

theorem wpAnyH_two {P : Program} {md : Region.Mode} {ops : Array Oper} {Q : Exit → Act → World → Prop} {S : World → Prop} {fuel : Nat} {listed : Array Bool} {a a1 a2 : Act} {w : World} {o1 o2 : Oper} (i j : Nat) (R1 R2 : World → Prop)
    (hr : Region.ready md ops listed = [i, j]) (ho1 : ops[i]? = some o1) (ho2 : ops[j]? = some o2) (hw1 : Region.wanted o1 (yielded ops a.tmps) = true) (hw2 : Region.wanted o2 (yielded ops a.tmps) = true)
    (hi1 : ∀ K : Act → World → Prop, (∀ w', R1 w' → K a1 w') → o1.wp P a w K Q) (hj1 : ∀ K : Act → World → Prop, (∀ w', R2 w' → K a2 w') → o2.wp P a w K Q)
    (hi2 : ∀ w', R1 w' → S w' ∧ wpAnyH P md ops Q S fuel (listed.setIfInBounds i true) a1 w') (hj2 : ∀ w', R2 w' → S w' ∧ wpAnyH P md ops Q S fuel (listed.setIfInBounds j true) a2 w') : wpAnyH P md ops Q S (fuel + 1) listed a w :=
  wpAnyH_ready hr (by simp) (AllReadyH.cons ho1 (fun K' hK => by
    rw [if_pos hw1]
    exact hi1 K' fun w' hR => hK.out _ _ (hi2 w' hR).1 (fun _ => (hi2 w' hR).2)) (AllReadyH.cons ho2 (fun K' hK => by
    rw [if_pos hw2]
    exact hj1 K' fun w' hR => hK.out _ _ (hj2 w' hR).1 (fun _ => (hj2 w' hR).2)) AllReadyH.nil))
end Go.Proofs.Ytjhpajdkklklhaa.By
