/- Equal of package codec and of its reference. -/
import Derived.Test.YtohoobgbmhondaaCodLies
namespace Go.Proofs.Ytohoobgbmhondaa.Cod
open Go Go.RowKit

end Go.Proofs.Ytohoobgbmhondaa.Cod
