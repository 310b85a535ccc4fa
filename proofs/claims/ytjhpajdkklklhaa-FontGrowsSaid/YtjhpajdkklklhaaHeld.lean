/- One operation of a drawn region that waits for nothing but what has come: the rest of the region is kept out of its walk. -/
import Derived.Test.YtjhpajdkklklhaaGen
namespace Go.Proofs.Ytjhpajdkklklhaa.By
open Go Go.RowKit

theorem wpAnyH_one {P : Program} {md : Region.Mode} {ops : Array Oper} {Q : Exit → Act → World → Prop} {S : World → Prop} {fuel : Nat} {listed : Array Bool} {a a' : Act} {w : World} {o : Oper} (i : Nat) (R : World → Prop)
    (hr : Region.ready md ops listed = [i]) (ho : ops[i]? = some o) (hw : Region.wanted o (yielded ops a.tmps) = true)
    (h1 : ∀ K : Act → World → Prop, (∀ w', R w' → K a' w') → o.wp P a w K Q)
    (h2 : ∀ w', R w' → S w' ∧ wpAnyH P md ops Q S fuel (listed.setIfInBounds i true) a' w') : wpAnyH P md ops Q S (fuel + 1) listed a w :=
  wpAnyH_ready hr (by simp) (AllReadyH.cons ho (fun K' hK => by
    rw [if_pos hw]
    exact h1 K' fun w' hR => hK.out _ _ (h2 w' hR).1 (fun _ => (h2 w' hR).2)) AllReadyH.nil)
end Go.Proofs.Ytjhpajdkklklhaa.By
