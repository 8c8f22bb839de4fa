/- The reference's StationsFault; one station alone. -/
import Derived.Test.YtbieiefbgcgogaaDoorSta
namespace Go.Proofs.YtbieiefbgcgogaaDoor
open Go.RowKit

end Go.Proofs.YtbieiefbgcgogaaDoor
