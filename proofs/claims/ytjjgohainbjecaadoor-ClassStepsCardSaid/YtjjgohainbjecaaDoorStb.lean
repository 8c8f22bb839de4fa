/- The reference's StationsFault; one station alone. -/
import Derived.Test.YtjjgohainbjecaaDoorSta
namespace Go.Proofs.YtjjgohainbjecaaDoor
open Go.RowKit

end Go.Proofs.YtjjgohainbjecaaDoor
