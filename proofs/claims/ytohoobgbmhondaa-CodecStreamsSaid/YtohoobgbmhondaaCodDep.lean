/- Depth of package codec and of the reference; the reference's proper and Valid. -/
import Derived.Test.YtohoobgbmhondaaCodVal
namespace Go.Proofs.Ytohoobgbmhondaa.Cod
open Go Go.RowKit

theorem own_a {k i : Int} {s : List UInt8} {n : Nat} (h : k = 1) (h1 : s = []) (h2 : ¬ 0 < n) : ownB k i s n = true := by
  subst h h1; obtain rfl : n = 0 := by omega
  rfl
theorem own_b {k i : Int} {s : List UInt8} {n : Nat} (h : k = 2) (h1 : i = 0) (h2 : ¬ 0 < n) : ownB k i s n = true := by
  subst h h1; obtain rfl : n = 0 := by omega
  rfl
theorem own_c {k i : Int} {s : List UInt8} {n : Nat} (h : k = 3) (h1 : i = 0) (h2 : s = []) : ownB k i s n = true := by
  subst h h1 h2
  rfl
end Go.Proofs.Ytohoobgbmhondaa.Cod
