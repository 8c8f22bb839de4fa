/- Hires: the reference's readingFault, legFault, HireFault. -/
import Derived.Test.YtbieiefbgcgogaaHik
namespace Go.Proofs.Ytbieiefbgcgogaa
open Go.RowKit

end Go.Proofs.Ytbieiefbgcgogaa
