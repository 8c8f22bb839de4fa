/- The reference's StationsFault; one station alone. -/
import Derived.Test.YtgddchdpeflmoaaDoorSta
namespace Go.Proofs.YtgddchdpeflmoaaDoor
open Go.RowKit

end Go.Proofs.YtgddchdpeflmoaaDoor
