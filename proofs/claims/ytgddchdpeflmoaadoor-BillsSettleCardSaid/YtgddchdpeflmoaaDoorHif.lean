/- Hires: the reference's readingFault, legFault, HireFault. -/
import Derived.Test.YtgddchdpeflmoaaDoorHik
namespace Go.Proofs.YtgddchdpeflmoaaDoor
open Go.RowKit

end Go.Proofs.YtgddchdpeflmoaaDoor
